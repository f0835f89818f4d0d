/-
  Ideal by counts, and ViewTells' walk: contracts and plain facts. No conditions beyond each theorem's own.
-/
import Derived.Test.YtnjkmmmfhponlaaGreatT11
namespace Go.Proofs.YtnjkmmmfhponlaaGreat
open Go.RowKit
section
def fewB (x n:Int):Bool:=(n == 0 && kd x == 1) || (n == 1 && kd x == 2)
def kidDW (F:Int→Int→Bool) (s:Mst) (f:Nat) (a n:Int) (p:Int × Int):Bool:=
 ((((pairsF s f (s.look p.2)).length:Int) == Pt.sizeZ n p.1) && (decide (p.1≤0) || (s.look (a+4+p.1) == ((pairsF s f (s.look p.2)).headD (0,0)).1))) && F (s.look p.2) (pairsF s f (s.look p.2)).length
def idealD (s:Mst):Nat→Int→Int→Bool
 | 0,x,n=>fewB x n
 | f+1,x,n=>if n < 2 then fewB x n else (kd x == 3 && newB s (ad x) n) && (slotsL s x).all (kidDW (idealD s f) s f (ad x) n)
theorem idealD_succ (s:Mst) (f:Nat) (x n:Int):idealD s (f+1) x n=if n < 2 then fewB x n else (kd x == 3 && newB s (ad x) n) && (slotsL s x).all (kidDW (idealD s f) s f (ad x) n):=rfl
structure Parts (s:Mst) (x n:Int) (g:Int × Int→List (Int × Int)):Prop where
 deg:Pt.degZ n=(slotsL s x).length
 pos:0 < (slotsL s x).length
 idx:∀ (k:Nat) (p:Int × Int),(slotsL s x)[k]? = some p→p.1=(k:Int)
 len:∀ p ∈ slotsL s x,((g p).length:Int)=Pt.sizeZ n p.1
theorem Parts.ahead {s:Mst} {x n:Int} {g:Int × Int→List (Int × Int)} (h:Parts s x n g):∀ k:Nat,k≤(slotsL s x).length→((((slotsL s x).take k).flatMap g).length:Int)=Pt.aheadZ n (k:Int)
 | 0,_=>by
  have:=Pt.ahead_zero (n:=n) (by rw [h.deg];have:=h.pos;omega)
  simp only [List.take_zero,List.flatMap_nil,List.length_nil]
  rw [show ((0:Nat):Int)=0 from rfl,this]
 | k+1,hk=>by
  obtain ⟨p,hp⟩:∃ p,(slotsL s x)[k]? = some p:=⟨_,List.getElem?_eq_getElem (by omega)⟩
  have ih:=h.ahead k (by omega)
  have e:=h.idx k p hp
  have l:=h.len p (List.mem_of_getElem? hp)
  rw [e] at l
  rw [flat_take g hp,List.length_append,Int.natCast_add,ih,l,← Pt.ahead_step (by omega) (by rw [h.deg];omega)]
  simp
theorem Parts.all {s:Mst} {x n:Int} {g:Int × Int→List (Int × Int)} (h:Parts s x n g):(((slotsL s x).flatMap g).length:Int)=n:=by
 have:=h.ahead _ (Nat.le_refl _)
 rw [List.take_length,← h.deg,Pt.ahead_end (by rw [h.deg];have:=h.pos;omega)] at this
 exact this
theorem Parts.part {s:Mst} {x n:Int} {g:Int × Int→List (Int × Int)} (h:Parts s x n g) {p:Int × Int} (hp:p ∈ slotsL s x):partL ((slotsL s x).flatMap g) p.1=g p:=by
 obtain ⟨k,hk⟩:=List.getElem?_of_mem hp
 have hkl:=(List.getElem?_eq_some_iff.1 hk).1
 have e:=h.idx k p hk
 have l:=h.len p hp
 have a:=h.ahead k (by omega)
 have f:=Pt.from_some (n:=n) (i:=p.1) (by omega) (by rw [h.deg];omega)
 rw [partL,h.all,← l,Int.toNat_natCast,f,e,← a,Int.toNat_natCast]
 have sp:(slotsL s x).flatMap g=((slotsL s x).take k).flatMap g++(g p++((slotsL s x).drop (k+1)).flatMap g):=by
  rw [← List.append_assoc,← flat_take g hk,← List.flatMap_append,List.take_append_drop]
 conv=>lhs;rw [sp]
 rw [List.drop_left,List.take_left]
theorem idx_slots {s:Mst} {x:Int} (h:kd (tgt s x)=3):∀ (k:Nat) (p:Int × Int),(slotsL s x)[k]? = some p→p.1=(k:Int):=by
 intro k p hp
 have hk:=(List.getElem?_eq_some_iff.1 hp).1
 rw [slotsL_len h] at hk
 rw [slotsL_at h hk] at hp
 cases hp;rfl
theorem newB_deg {s:Mst} {a n:Int} (h:newB s a n=true):s.look a=Pt.degZ n:=by
 unfold newB at h
 simp only [Bool.and_eq_true,beq_iff_eq] at h
 exact h.1.1.1.1
theorem deg_slots {s:Mst} {f:Nat} {x n:Int} (hw:Wf s (f+1) x) (k3:kd x=3) (h:newB s (ad x) n=true):Pt.degZ n=(slotsL s x).length∧2≤(slotsL s x).length:=by
 have e0:tgt s x=x:=by rw [tgt,if_neg (by rw [k3];decide)]
 have hd:=hw.1.deg (by rw [e0];exact k3)
 have e:=newB_deg h
 rw [e0] at hd
 rw [slotsL_len (by rw [e0];exact k3),degN,e0]
 omega
theorem raw_same {s:Mst} {sl:Int} (h:kd (s.look sl)≠5):s.logicZ sl=s.look sl:=by
 rw [Mst.logicZ,if_neg h]
theorem pairsF_5 {s:Mst} {f:Nat} {u:Int} (h:kd u=5):pairsF s f u=[]:=
 pairsF_none (by rw [h];decide) (by rw [tgt,if_neg (by rw [h];decide),h];decide)
theorem idealF_kd {s:Mst} {f:Nat} {x:Int} {ps:List (Int × Int)} (h:idealF s f x ps=true):kd x=1∨kd x=2∨kd x=3:=by
 by_cases k3:kd x=3
 ·exact .inr (.inr k3)
 rw [idealF_kind s f x ps k3] at h
 by_cases k1:kd x=1
 ·exact .inl k1
 rw [if_neg k1] at h
 by_cases k2:kd x=2
 ·exact .inr (.inl k2)
 rw [if_neg k2] at h
 cases h
theorem leaf_one {s:Mst} {f:Nat} {x:Int} (k2:kd x=2):(pairsF s f x).length=1:=by
 rw [pairsF,spotsF_none (by rw [tgt,if_neg (by rw [k2];decide),k2];decide),leafL,if_pos k2];rfl
theorem part_len {ps:List (Int × Int)} {i:Int} (h0:0≤i) (h1:i < Pt.degZ (ps.length:Int)):((partL ps i).length:Int)=Pt.sizeZ (ps.length:Int) i:=by
 obtain ⟨p1,p2,p3⟩:=part_in h0 h1
 rw [partL,List.length_take,List.length_drop]
 omega
theorem idealF_len {s:Mst}:∀ (f:Nat) (x:Int) (ps:List (Int × Int)),Wf s f x→idealF s f x ps=true→(pairsF s f x).length=ps.length
 | 0,_,_,h,_=>h.elim
 | f+1,x,ps,hw,h=>by
  rcases idealF_kd h with k1 | k2 | k3
  ·rw [idealF_succ,if_pos k1] at h
   rw [pairsF_none (by rw [k1];decide) (by rw [tgt,if_neg (by rw [k1];decide),k1];decide)]
   cases ps with
   | nil=>rfl
   | cons p l=>cases h
  ·rw [idealF_succ,if_neg (by rw [k2];decide),if_pos k2] at h
   rw [leaf_one k2]
   exact (beq_iff_eq.1 h).symm
  ·rw [idealF_succ,if_neg (by rw [k3];decide),if_neg (by rw [k3];decide),if_pos k3,Bool.and_eq_true] at h
   obtain ⟨h1,h2⟩:=h
   have e0:tgt s x=x:=by rw [tgt,if_neg (by rw [k3];decide)]
   obtain ⟨d1,d2⟩:=deg_slots hw k3 h1
   have P:Parts s x (ps.length:Int) (oneC s f):=⟨d1,by omega,idx_slots (by rw [e0];exact k3),fun p hp=>by
    have hq:=List.all_eq_true.1 h2 p hp
    unfold kidB at hq
    rw [Bool.and_eq_true] at hq
    have ku:=idealF_kd hq.2
    have er:=raw_same (s:=s) (sl:=p.2) (by omega)
    obtain ⟨k,hk⟩:=List.getElem?_of_mem hp
    have hkl:=(List.getElem?_eq_some_iff.1 hk).1
    have ei:=idx_slots (by rw [e0];exact k3) k p hk
    have:=idealF_len f _ _ (by have:=hw.2 p hp;rwa [er] at this) hq.2
    rw [oneC,er,this]
    exact part_len (by omega) (by rw [d1];omega)⟩
   have:=P.all
   rw [pairsF_succ (by rw [k3];decide)]
   omega
theorem ideal_same {s:Mst}:∀ (f:Nat) (x:Int),Wf s f x→idealD s f x (pairsF s f x).length=idealF s f x (pairsF s f x)
 | 0,_,h=>h.elim
 | f+1,x,hw=>by
  by_cases k3:kd x=3
  ·have e0:tgt s x=x:=by rw [tgt,if_neg (by rw [k3];decide)]
   obtain ⟨P,hP⟩:∃ P,pairsF s (f+1) x=P:=⟨_,rfl⟩
   have hP2:(slotsL s x).flatMap (oneC s f)=P:=by rw [← hP,pairsF_succ (by rw [k3];decide)]
   rw [hP,idealF_succ,if_neg (by rw [k3];decide),if_neg (by rw [k3];decide),if_pos k3,idealD_succ]
   cases hn:newB s (ad x) (P.length:Int) with
   | false=>
    rw [Bool.false_and,Bool.and_false,Bool.false_and]
    split
    ·simp [fewB,k3]
    ·rfl
   | true=>
    obtain ⟨d1,d2⟩:=deg_slots hw k3 hn
    have dp:=Pt.deg_pos (n:=(P.length:Int)) (by omega)
    rw [if_neg (by omega),k3,Bool.true_and]
    simp only [beq_self_eq_true,Bool.true_and]
    rw [Bool.eq_iff_iff,List.all_eq_true,List.all_eq_true]
    constructor
    ·intro h
     have kn:∀ p ∈ slotsL s x,((pairsF s f (s.look p.2)).length:Int)=Pt.sizeZ (P.length:Int) p.1∧s.logicZ p.2=s.look p.2:=by
      intro p hp
      have hq:=h p hp
      unfold kidDW at hq
      simp only [Bool.and_eq_true,beq_iff_eq] at hq
      refine ⟨hq.1.1,raw_same fun k5=>?_⟩
      obtain ⟨k,hk⟩:=List.getElem?_of_mem hp
      have hkl:=(List.getElem?_eq_some_iff.1 hk).1
      have ei:=idx_slots (by rw [e0];exact k3) k p hk
      have:=Pt.size_bound (n:=(P.length:Int)) (i:=p.1) (by omega) (by rw [d1];omega)
      have h1:=hq.1.1
      rw [pairsF_5 k5] at h1
      simp at h1
      omega
     have PP:Parts s x (P.length:Int) (oneC s f):=⟨d1,by omega,idx_slots (by rw [e0];exact k3),fun p hp=>by
      rw [oneC,(kn p hp).2];exact (kn p hp).1⟩
     intro p hp
     have hq:=h p hp
     have e1:partL P p.1=pairsF s f (s.look p.2):=by
      have:=PP.part hp
      rw [hP2,oneC,(kn p hp).2] at this
      exact this
     have ih:=ideal_same f (s.look p.2) (by have:=hw.2 p hp;rwa [(kn p hp).2] at this)
     unfold kidDW at hq
     rw [Bool.and_eq_true,Bool.and_eq_true] at hq
     rw [kidB,keyOk,e1,hq.1.2,Bool.true_and,← ih]
     exact hq.2
    ·intro h
     have kn:∀ p ∈ slotsL s x,((pairsF s f (s.look p.2)).length:Int)=Pt.sizeZ (P.length:Int) p.1∧s.logicZ p.2=s.look p.2:=by
      intro p hp
      have hq:=h p hp
      unfold kidB at hq
      rw [Bool.and_eq_true] at hq
      have ku:=idealF_kd hq.2
      have er:=raw_same (s:=s) (sl:=p.2) (by omega)
      obtain ⟨k,hk⟩:=List.getElem?_of_mem hp
      have hkl:=(List.getElem?_eq_some_iff.1 hk).1
      have ei:=idx_slots (by rw [e0];exact k3) k p hk
      have:=idealF_len f _ _ (by have:=hw.2 p hp;rwa [er] at this) hq.2
      refine ⟨?_,er⟩
      rw [this]
      exact part_len (by omega) (by rw [d1];omega)
     have PP:Parts s x (P.length:Int) (oneC s f):=⟨d1,by omega,idx_slots (by rw [e0];exact k3),fun p hp=>by
      rw [oneC,(kn p hp).2];exact (kn p hp).1⟩
     intro p hp
     have hq:=h p hp
     have e1:partL P p.1=pairsF s f (s.look p.2):=by
      have:=PP.part hp
      rw [hP2,oneC,(kn p hp).2] at this
      exact this
     have ih:=ideal_same f (s.look p.2) (by have:=hw.2 p hp;rwa [(kn p hp).2] at this)
     rw [kidB,keyOk,e1,Bool.and_eq_true] at hq
     rw [kidDW,ih,(kn p hp).1,hq.1,hq.2,beq_self_eq_true]
     rfl
  ·obtain ⟨P,hP⟩:∃ P,pairsF s (f+1) x=P:=⟨_,rfl⟩
   rw [hP,idealF_kind s (f+1) x P k3,idealD_succ]
   have g3:(kd x == 3)=false:=by simp [k3]
   rw [g3,Bool.false_and,Bool.false_and]
   by_cases k1:kd x=1
   ·have:P=[]:=by rw [← hP,pairsF_none (by rw [k1];decide) (by rw [tgt,if_neg (by rw [k1];decide),k1];decide)]
    rw [this]
    simp [fewB,k1]
   ·rw [if_neg k1]
    by_cases k2:kd x=2
    ·have:P.length=1:=by rw [← hP];exact leaf_one k2
     rw [this]
     simp [fewB,k2]
    ·rw [if_neg k2]
     split
     ·simp [fewB,k1,k2]
     ·rfl
end
section
theorem cont_none (w:World) (b:Nat) (s:Mst) (f:Nat) (x:Int) (hx:I64 x) (k5:kd x=5) :
  Calls Tryz.prog 89 #[.pointer (some ⟨b,0,none⟩),.int .i64 x] w (PSliced 59 (pairsF s f x) w):=by
 rw [pairsF_5 k5]
 obtain ⟨p,hp⟩:∃ p,ad x=p:=⟨_,rfl⟩
 have HX:=gh hx
 have HP:=gh hp
 have HK:=gh k5
 clear hx hp k5
 go_enter Tryz.func89,Tryz.ntmps89
 go_wp2_with (fail)
 refine (ak_d _ x p HX.out HP.out).mono ?_
 rintro e w' ⟨rfl,rfl⟩
 go_wp2_with (fail)
 refine (kk_d _ x 5 HX.out HK.out).mono ?_
 rintro e w' ⟨rfl,rfl⟩
 go_wp2
 go_ret
 exact ⟨_,rfl,PRow.nil _ _ _,Kept.refl _⟩
def IdeD (f:Nat):Prop:=∀ (w:World) (b:Nat) (s:Mst) (_:DM w b s) (_:s.ok) (x:Int) (_:Wf s f x) (_:(spotsF s f x).length≤70000) (n:Int) (_:0≤n) (_:n≤100000) (r:Bool) (_:idealD s f x n=r),
 Calls Tryz.prog 100 #[.pointer (some ⟨b,0,none⟩),.int .i64 x,.int .i64 n] w fun e w'=>e=.returned (.bool r)∧Kept w w'
set_option maxHeartbeats 1000000 in
theorem ide_few (w:World) (b:Nat) (x:Int) (hx:I64 x) (n:Int) (h0:0≤n) (h1:n < 2) (r:Bool) (e1:fewB x n=r) :
  Calls Tryz.prog 100 #[.pointer (some ⟨b,0,none⟩),.int .i64 x,.int .i64 n] w fun e w'=>e=.returned (.bool r)∧Kept w w':=by
 obtain ⟨p,hp⟩:∃ p,ad x=p:=⟨_,rfl⟩
 obtain ⟨k,hk⟩:∃ k,kd x=k:=⟨_,rfl⟩
 have HX:=gh hx
 have HP:=gh hp
 have HK:=gh hk
 unfold fewB at e1
 rw [hk] at e1
 clear hx hp hk
 obtain rfl | rfl:n=0∨n=1:=by omega
 ·have HR:Hid (r=(k == 1)):=gh (by rw [← e1];simp)
  clear e1 h0 h1
  by_cases k1:k=1
  ·subst k1
   go_enter Tryz.func100,Tryz.ntmps100
   go_wp2_with (fail)
   refine (ak_d _ x p HX.out HP.out).mono ?_
   rintro e w' ⟨rfl,rfl⟩
   go_wp2_with (fail)
   refine (kk_d _ x 1 HX.out HK.out).mono ?_
   rintro e w' ⟨rfl,rfl⟩
   go_wp2
   go_ret
   exact ⟨by rw [HR.out];rfl,Kept.refl _⟩
  ·have g1:(k == 1)=false:=by simp [k1]
   go_enter Tryz.func100,Tryz.ntmps100
   go_wp2_with (fail)
   refine (ak_d _ x p HX.out HP.out).mono ?_
   rintro e w' ⟨rfl,rfl⟩
   go_wp2_with (fail)
   refine (kk_d _ x k HX.out HK.out).mono ?_
   rintro e w' ⟨rfl,rfl⟩
   go_wp2
   go_ret
   exact ⟨congrArg (fun z=>Ending.returned (.bool z)) (HR.out.trans g1).symm,Kept.refl _⟩
 ·have HR:Hid (r=(k == 2)):=gh (by rw [← e1];simp)
  clear e1 h0 h1
  by_cases k1:k=2
  ·subst k1
   go_enter Tryz.func100,Tryz.ntmps100
   go_wp2_with (fail)
   refine (ak_d _ x p HX.out HP.out).mono ?_
   rintro e w' ⟨rfl,rfl⟩
   go_wp2_with (fail)
   refine (kk_d _ x 2 HX.out HK.out).mono ?_
   rintro e w' ⟨rfl,rfl⟩
   go_wp2
   go_ret
   exact ⟨by rw [HR.out];rfl,Kept.refl _⟩
  ·have g1:(k == 2)=false:=by simp [k1]
   go_enter Tryz.func100,Tryz.ntmps100
   go_wp2_with (fail)
   refine (ak_d _ x p HX.out HP.out).mono ?_
   rintro e w' ⟨rfl,rfl⟩
   go_wp2_with (fail)
   refine (kk_d _ x k HX.out HK.out).mono ?_
   rintro e w' ⟨rfl,rfl⟩
   go_wp2
   go_ret
   exact ⟨congrArg (fun z=>Ending.returned (.bool z)) (HR.out.trans g1).symm,Kept.refl _⟩
set_option maxHeartbeats 4000000 in
set_option maxRecDepth 20000 in
theorem ide_no (w:World) (b:Nat) (s:Mst) (h:DM w b s) (x:Int) (hx:I64 x) (n:Int) (n2:¬ n < 2) (h1:n≤100000) (e1:(kd x == 3 && newB s (ad x) n)=false) :
  Calls Tryz.prog 100 #[.pointer (some ⟨b,0,none⟩),.int .i64 x,.int .i64 n] w fun e w'=>e=.returned (.bool false)∧Kept w w':=by
 obtain ⟨p,hp⟩:∃ p,ad x=p:=⟨_,rfl⟩
 have pr:=ad_range x
 rw [hp] at pr
 obtain ⟨a,rfl⟩:∃ a:Nat,p=(a:Int):=⟨p.toNat,by omega⟩
 have a2:(a:Int)≤65536:=pr.2
 obtain ⟨D,hD⟩:∃ D:Nat,Pt.degZ n=(D:Int):=⟨(Pt.degZ n).toNat,by have:=Pt.deg_nat n;omega⟩
 have d2:=Pt.deg_nat n
 rw [hD] at d2
 have HNW:Hid ((Lit.int .i64 n).wf=true):=gh (I64.wf ⟨by omega,by omega⟩)
 have H:=gh h
 have HX:=gh hx
 have HP:=gh hp
 have HD:=gh hD
 obtain ⟨k,hk⟩:∃ k,kd x=k:=⟨_,rfl⟩
 have HK:=gh hk
 have HDR:Hid (∀ W,Calls Tryz.prog 138 #[.int .i64 n] W fun e w'=>e=.returned (.int .i64 (D:Int))∧W=w'):=gh (fun W=>by have:=Pt.deg_r n HNW.out W;rwa [hD] at this)
 by_cases k3:¬ k=3
 ·have g3:(k != 3)=true:=by simp [k3]
  clear h e1 hp hD hk pr
  go_enter Tryz.func100,Tryz.ntmps100
  go_wp2_with (fail)
  refine (ak_d _ x a HX.out HP.out).mono ?_
  rintro e w' ⟨rfl,rfl⟩
  go_wp2_with (fail)
  refine (HDR.out _).mono ?_
  rintro e w' ⟨rfl,rfl⟩
  go_wp2_with (fail)
  refine (kk_d _ x k HX.out HK.out).mono ?_
  rintro e w' ⟨rfl,rfl⟩
  go_wp2
  go_ret
  exact ⟨rfl,Kept.refl _⟩
 have k3:=Decidable.not_not.1 k3
 subst k3
 obtain ⟨z0,hz0⟩:∃ z,s.look (a:Int)=z:=⟨_,rfl⟩
 obtain ⟨z1,hz1⟩:∃ z,s.look ((a:Int)+1)=z:=⟨_,rfl⟩
 obtain ⟨z2,hz2⟩:∃ z,s.look ((a:Int)+2)=z:=⟨_,rfl⟩
 obtain ⟨z3,hz3⟩:∃ z,s.look ((a:Int)+3)=z:=⟨_,rfl⟩
 obtain ⟨z4,hz4⟩:∃ z,s.look ((a:Int)+4)=z:=⟨_,rfl⟩
 have HZ0:=gh hz0
 have HZ1:=gh hz1
 have HZ2:=gh hz2
 have HZ3:=gh hz3
 have HZ4:=gh hz4
 have eq:newB s (a:Int) n=((z0 == (D:Int)) && (z1 == n) && (z2 == 0) && (z3 == 0) && (z4 == 0)):=by rw [newB,hz0,hz1,hz2,hz3,hz4,hD]
 have e2:newB s (a:Int) n=false:=by rw [← e1,hk,hp];rfl
 by_cases c0:¬ z0=(D:Int)
 ·have g0:(z0 != (D:Int))=true:=by simp [c0]
  clear h e1 e2 eq hp hD hk pr hz0 hz1 hz2 hz3 hz4
  go_enter Tryz.func100,Tryz.ntmps100
  go_wp2_with (fail)
  refine (ak_d _ x a HX.out HP.out).mono ?_
  rintro e w' ⟨rfl,rfl⟩
  go_wp2_with (fail)
  refine (HDR.out _).mono ?_
  rintro e w' ⟨rfl,rfl⟩
  go_wp2_with (fail)
  refine (kk_d _ x 3 HX.out HK.out).mono ?_
  rintro e w' ⟨rfl,rfl⟩
  go_wp2_with (fail)
  refine (lk_d _ b s a _ H.out HZ0.out).mono ?_
  rintro e w' ⟨rfl,rfl⟩
  go_wp2
  go_ret
  exact ⟨rfl,Kept.refl _⟩
 have c0:=Decidable.not_not.1 c0
 have HZ0:=gh (hz0.trans c0)
 by_cases c1:¬ z1=n
 ·have g1:(z1 != n)=true:=by simp [c1]
  clear h e1 e2 eq hp hD hk pr hz0 hz1 hz2 hz3 hz4
  go_enter Tryz.func100,Tryz.ntmps100
  go_wp2_with (fail)
  refine (ak_d _ x a HX.out HP.out).mono ?_
  rintro e w' ⟨rfl,rfl⟩
  go_wp2_with (fail)
  refine (HDR.out _).mono ?_
  rintro e w' ⟨rfl,rfl⟩
  go_wp2_with (fail)
  refine (kk_d _ x 3 HX.out HK.out).mono ?_
  rintro e w' ⟨rfl,rfl⟩
  go_wp2_with (fail)
  refine (lk_d _ b s a _ H.out HZ0.out).mono ?_
  rintro e w' ⟨rfl,rfl⟩
  go_wp2_with (fail)
  refine (lk_d _ b s ((a:Int)+1) _ H.out HZ1.out).mono ?_
  rintro e w' ⟨rfl,rfl⟩
  go_wp2
  go_ret
  exact ⟨rfl,Kept.refl _⟩
 have c1:=Decidable.not_not.1 c1
 have HZ1:=gh (hz1.trans c1)
 by_cases c2:¬ z2=0
 ·have g2:(z2 != 0)=true:=by simp [c2]
  clear h e1 e2 eq hp hD hk pr hz0 hz1 hz2 hz3 hz4
  go_enter Tryz.func100,Tryz.ntmps100
  go_wp2_with (fail)
  refine (ak_d _ x a HX.out HP.out).mono ?_
  rintro e w' ⟨rfl,rfl⟩
  go_wp2_with (fail)
  refine (HDR.out _).mono ?_
  rintro e w' ⟨rfl,rfl⟩
  go_wp2_with (fail)
  refine (kk_d _ x 3 HX.out HK.out).mono ?_
  rintro e w' ⟨rfl,rfl⟩
  go_wp2_with (fail)
  refine (lk_d _ b s a _ H.out HZ0.out).mono ?_
  rintro e w' ⟨rfl,rfl⟩
  go_wp2_with (fail)
  refine (lk_d _ b s ((a:Int)+1) _ H.out HZ1.out).mono ?_
  rintro e w' ⟨rfl,rfl⟩
  go_wp2_with (fail)
  refine (lk_d _ b s ((a:Int)+2) _ H.out HZ2.out).mono ?_
  rintro e w' ⟨rfl,rfl⟩
  go_wp2
  go_ret
  exact ⟨rfl,Kept.refl _⟩
 have c2:=Decidable.not_not.1 c2
 have HZ2:=gh (hz2.trans c2)
 by_cases c3:¬ z3=0
 ·have g3:(z3 != 0)=true:=by simp [c3]
  clear h e1 e2 eq hp hD hk pr hz0 hz1 hz2 hz3 hz4
  go_enter Tryz.func100,Tryz.ntmps100
  go_wp2_with (fail)
  refine (ak_d _ x a HX.out HP.out).mono ?_
  rintro e w' ⟨rfl,rfl⟩
  go_wp2_with (fail)
  refine (HDR.out _).mono ?_
  rintro e w' ⟨rfl,rfl⟩
  go_wp2_with (fail)
  refine (kk_d _ x 3 HX.out HK.out).mono ?_
  rintro e w' ⟨rfl,rfl⟩
  go_wp2_with (fail)
  refine (lk_d _ b s a _ H.out HZ0.out).mono ?_
  rintro e w' ⟨rfl,rfl⟩
  go_wp2_with (fail)
  refine (lk_d _ b s ((a:Int)+1) _ H.out HZ1.out).mono ?_
  rintro e w' ⟨rfl,rfl⟩
  go_wp2_with (fail)
  refine (lk_d _ b s ((a:Int)+2) _ H.out HZ2.out).mono ?_
  rintro e w' ⟨rfl,rfl⟩
  go_wp2_with (fail)
  refine (lk_d _ b s ((a:Int)+3) _ H.out HZ3.out).mono ?_
  rintro e w' ⟨rfl,rfl⟩
  go_wp2
  go_ret
  exact ⟨rfl,Kept.refl _⟩
 have c3:=Decidable.not_not.1 c3
 have HZ3:=gh (hz3.trans c3)
 by_cases c4:¬ z4=0
 ·have g4:(z4 != 0)=true:=by simp [c4]
  clear h e1 e2 eq hp hD hk pr hz0 hz1 hz2 hz3 hz4
  go_enter Tryz.func100,Tryz.ntmps100
  go_wp2_with (fail)
  refine (ak_d _ x a HX.out HP.out).mono ?_
  rintro e w' ⟨rfl,rfl⟩
  go_wp2_with (fail)
  refine (HDR.out _).mono ?_
  rintro e w' ⟨rfl,rfl⟩
  go_wp2_with (fail)
  refine (kk_d _ x 3 HX.out HK.out).mono ?_
  rintro e w' ⟨rfl,rfl⟩
  go_wp2_with (fail)
  refine (lk_d _ b s a _ H.out HZ0.out).mono ?_
  rintro e w' ⟨rfl,rfl⟩
  go_wp2_with (fail)
  refine (lk_d _ b s ((a:Int)+1) _ H.out HZ1.out).mono ?_
  rintro e w' ⟨rfl,rfl⟩
  go_wp2_with (fail)
  refine (lk_d _ b s ((a:Int)+2) _ H.out HZ2.out).mono ?_
  rintro e w' ⟨rfl,rfl⟩
  go_wp2_with (fail)
  refine (lk_d _ b s ((a:Int)+3) _ H.out HZ3.out).mono ?_
  rintro e w' ⟨rfl,rfl⟩
  go_wp2_with (fail)
  refine (lk_d _ b s ((a:Int)+4) _ H.out HZ4.out).mono ?_
  rintro e w' ⟨rfl,rfl⟩
  go_wp2
  go_ret
  exact ⟨rfl,Kept.refl _⟩
 have c4:=Decidable.not_not.1 c4
 have HZ4:=gh (hz4.trans c4)
 rw [eq,c0,c1,c2,c3,c4] at e2
 simp at e2
set_option maxHeartbeats 8000000 in
set_option maxRecDepth 20000 in
theorem ide_yes (f:Nat) (ih:IdeD f) (w:World) (b:Nat) (s:Mst) (h:DM w b s) (ho:s.ok) (x:Int) (hw:Wf s (f+1) x) (hl:(spotsF s (f+1) x).length≤70000) (n:Int) (n2:¬ n < 2) (h1:n≤100000) (hk:kd x=3) (hn':newB s (ad x) n=true) (r:Bool) (e1:(slotsL s x).all (kidDW (idealD s f) s f (ad x) n)=r) :
  Calls Tryz.prog 100 #[.pointer (some ⟨b,0,none⟩),.int .i64 x,.int .i64 n] w fun e w'=>e=.returned (.bool r)∧Kept w w':=by
 obtain ⟨p,hp⟩:∃ p,ad x=p:=⟨_,rfl⟩
 have pr:=ad_range x
 rw [hp] at pr
 obtain ⟨a,rfl⟩:∃ a:Nat,p=(a:Int):=⟨p.toNat,by omega⟩
 have a2:(a:Int)≤65536:=pr.2
 obtain ⟨D,hD⟩:∃ D:Nat,Pt.degZ n=(D:Int):=⟨(Pt.degZ n).toNat,by have:=Pt.deg_nat n;omega⟩
 have d2:=Pt.deg_nat n
 rw [hD] at d2
 have HNW:Hid ((Lit.int .i64 n).wf=true):=gh (I64.wf ⟨by omega,by omega⟩)
 have H:=gh h
 have HO:=gh ho
 have HX:=gh hw.1.i64
 have HP:=gh hp
 have HD:=gh hD
 have HK:=gh hk
 have HDR:Hid (∀ W,Calls Tryz.prog 138 #[.int .i64 n] W fun e w'=>e=.returned (.int .i64 (D:Int))∧W=w'):=gh (fun W=>by have:=Pt.deg_r n HNW.out W;rwa [hD] at this)
 have hn:newB s (a:Int) n=true:=by rw [← hp];exact hn'
 have hq:=hn
 unfold newB at hq
 simp only [Bool.and_eq_true,beq_iff_eq,hD] at hq
 have HZ0:=gh hq.1.1.1.1
 have HZ1:=gh hq.1.1.1.2
 have HZ2:=gh hq.1.1.2
 have HZ3:=gh hq.1.2
 have HZ4:=gh hq.2
 have HE:Hid ((slotsL s x).all (kidDW (idealD s f) s f (a:Int) n)=r):=gh (by rw [← e1,hp])
 obtain ⟨e3,e4⟩:=deg_slots hw hk (by rw [hp];exact hn)
 have HLL:Hid ((slotsL s x).length=D):=gh (by omega)
 have e0:tgt s x=x:=by rw [tgt,if_neg (by rw [hk];decide)]
 have eA:atN s x=a:=by unfold atN;rw [e0,hp];omega
 have eD:degN s x=D:=by have:=slotsL_len (s:=s) (x:=x) (by rw [e0];exact hk);rw [← this];exact HLL.out
 have HLA:Hid (∀ k,k < D→(slotsL s x)[k]? = some ((k:Int),childS a D k)):=gh (fun k hk'=>by
  have:=slotsL_at (s:=s) (x:=x) (by rw [e0];exact hk) (k:=k) (by rw [eD];exact hk')
  rwa [eA,eD] at this)
 have HWK:=gh hw.2
 have IH:=gh ih
 rw [spotsF_succ] at hl
 have HL:=gh hl
 have HSB:Hid (∀ k:Nat,k < D→∃ S:Nat,Pt.sizeZ n (k:Int)=(S:Int)∧1≤S):=gh (fun k hk'=>by
  have:=Pt.size_bound (n:=n) (i:=(k:Int)) (by omega) (by rw [hD];omega)
  exact ⟨(Pt.sizeZ n k).toNat,by omega,by omega⟩)
 clear h ho hw hl e1 hp hD hk ih pr hn hn' hq e0 eA eD e3 e4
 go_enter Tryz.func100,Tryz.ntmps100
 go_wp2_with (fail)
 refine (ak_d _ x a HX.out HP.out).mono ?_
 rintro e w' ⟨rfl,rfl⟩
 go_wp2_with (fail)
 refine (HDR.out _).mono ?_
 rintro e w' ⟨rfl,rfl⟩
 go_wp2_with (fail)
 refine (kk_d _ x 3 HX.out HK.out).mono ?_
 rintro e w' ⟨rfl,rfl⟩
 go_wp2_with (fail)
 refine (lk_d _ b s a _ H.out HZ0.out).mono ?_
 rintro e w' ⟨rfl,rfl⟩
 go_wp2_with (fail)
 refine (lk_d _ b s ((a:Int)+1) _ H.out HZ1.out).mono ?_
 rintro e w' ⟨rfl,rfl⟩
 go_wp2_with (fail)
 refine (lk_d _ b s ((a:Int)+2) _ H.out HZ2.out).mono ?_
 rintro e w' ⟨rfl,rfl⟩
 go_wp2_with (fail)
 refine (lk_d _ b s ((a:Int)+3) _ H.out HZ3.out).mono ?_
 rintro e w' ⟨rfl,rfl⟩
 go_wp2_with (fail)
 refine (lk_d _ b s ((a:Int)+4) _ H.out HZ4.out).mono ?_
 rintro e w' ⟨rfl,rfl⟩
 go_wp2
 go_loopw [9,10,11] (fun i _ _ wr=>∃ k:Nat,k≤D∧i=.int .i64 (k:Int)∧Hid (∀ p ∈ (slotsL s x).take k,kidDW (idealD s f) s f (a:Int) n p=true)∧Hid (Kept w wr)) (fun i _ _ _=>D - (intOf i).toNat)
 case atStart=>exact ⟨0,by omega,by simp,gh (by intro p hp;simp at hp),gh (Kept.refl _)⟩
 case round=>
  obtain ⟨k,hk,rfl,HA,HKP⟩:=hrel
  by_cases hkn:k < D
  ·have j1:(k:Int) < (D:Int):=by omega
   have hcz:=gh (childZ_in (n:=a) (d:=(D:Int)) (i:=k) (by omega) (by omega) (by omega) (by omega) (by omega) (by omega))
   have hkz:=gh (keyZ_in (n:=a) (i:=(k:Int)) (by omega) (by omega) (by omega) (by omega))
   obtain ⟨sl,hsl⟩:∃ sl,(a:Int)+4+(D:Int)+k=sl:=⟨_,rfl⟩
   rw [hsl] at hcz
   obtain ⟨u,hu⟩:∃ u,s.look sl=u:=⟨_,rfl⟩
   have HU:=gh hu
   have HUI:Hid (I64 u):=gh (by rw [← hu];exact HO.out.look _)
   have hat':(slotsL s x)[k]? = some ((k:Int),sl):=by rw [HLA.out k hkn];unfold childS;rw [hsl]
   have hmem:=List.mem_of_getElem? hat'
   have hwu:kd u≠5→Wf s f u∧(spotsF s f u).length≤70000:=fun h5=>by
    have er:=raw_same (s:=s) (sl:=sl) (by rw [hu];exact h5)
    have h1:=HWK.out _ hmem
    rw [er,hu] at h1
    have h2:((slotsL s x).take (k+1)).flatMap (oneF s f)=((slotsL s x).take k).flatMap (oneF s f)++((sl,u) :: spotsF s f u):=by rw [flat_take _ hat',oneF,er,hu]
    have h3:=Nat.le_trans (flat_take_le (oneF s f) (slotsL s x) (k+1)) HL.out
    rw [h2,List.length_append,List.length_cons] at h3
    exact ⟨h1,by omega⟩
   have CC:Hid (∀ W,DM W b s→Calls Tryz.prog 89 #[.pointer (some ⟨b,0,none⟩),.int .i64 u] W (PSliced 59 (pairsF s f u) W)):=gh (fun W hW=>by
    by_cases h5:kd u=5
    ·exact cont_none W b s f u HUI.out h5
    ·exact cont_d f W b s hW HO.out u (hwu h5).1 (hwu h5).2)
   obtain ⟨P,hP⟩:∃ P,pairsF s f u=P:=⟨_,rfl⟩
   obtain ⟨M,hM⟩:∃ M,P.length=M:=⟨_,rfl⟩
   obtain ⟨S,hS,hS1⟩:=HSB.out k hkn
   have HSZ:Hid (∀ W,Calls Tryz.prog 139 #[.int .i64 n,.int .i64 (k:Int)] W fun e w'=>e=.returned (.int .i64 (S:Int))∧W=w'):=gh (fun W=>by have:=Pt.size_r n (k:Int) HNW.out W;rwa [hS] at this)
   have hMb:M≤70001:=by
    rw [← hM,← hP]
    by_cases h5:kd u=5
    ·rw [pairsF_5 h5];simp
    ·exact pairsF_len (hwu h5).2
   have HW2:Hid (M=S→Wf s f u∧(spotsF s f u).length≤70000):=gh (fun e=>hwu (fun h5=>by
    rw [pairsF_5 h5] at hP
    rw [← hP] at hM
    simp at hM
    omega))
   obtain ⟨z,hz⟩:∃ z,s.look ((a:Int)+4+(k:Int))=z:=⟨_,rfl⟩
   have HZ:=gh hz
   obtain ⟨v,hv⟩:∃ v,idealD s f u (M:Int)=v:=⟨_,rfl⟩
   have HV:=gh hv
   have HPP:=gh hP
   have HMM:=gh hM
   have HKD:Hid (kidDW (idealD s f) s f (a:Int) n ((k:Int),sl)=(((M:Int) == (S:Int)) && (decide ((k:Int)≤0) || (z == (P.headD (0,0)).1)) && v)):=gh (by
    rw [kidDW]
    simp only [hu,hP,hM,hS,hz,hv])
   have BAD:Hid (kidDW (idealD s f) s f (a:Int) n ((k:Int),sl)=false→r=false):=gh (fun hb=>by
    rw [← HE.out,List.all_eq_false]
    exact ⟨_,hmem,by rw [hb];simp⟩)
   have NXT:Hid (kidDW (idealD s f) s f (a:Int) n ((k:Int),sl)=true→∀ p ∈ (slotsL s x).take (k+1),kidDW (idealD s f) s f (a:Int) n p=true):=gh (fun hb p hp'=>by
    obtain ⟨hk1,he⟩:=List.getElem?_eq_some_iff.1 hat'
    rw [List.take_succ_eq_append_getElem hk1] at hp'
    rcases List.mem_append.1 hp' with h2 | h2
    ·exact HA.out p h2
    ·rw [List.mem_singleton] at h2
     rw [h2,he];exact hb)
   have MW:=gh (H.out.kept HKP.out)
   clear hu hsl hat' hmem hwu hP hM hS hz hv
   go_wp2_with (fail)
   refine (child_r _ a D k sl hcz.out).mono ?_
   rintro e w' ⟨rfl,rfl⟩
   go_wp2_with (fail)
   refine (lk_d _ b s sl u MW.out HU.out).mono ?_
   rintro e w' ⟨rfl,rfl⟩
   go_wp2_with (fail)
   refine (CC.out _ MW.out).mono ?_
   rw [HPP.out]
   rintro e W2 ⟨v2,rfl,hr2,k2⟩
   obtain ⟨la,lc,hv2,hrd,hlc,hlm,_,_⟩:=hr2.reads
   rw [HMM.out] at hv2 hlc
   subst hv2
   have HRD:=gh hrd
   have K2:=gh (HKP.out.trans k2)
   clear hr2 k2 hrd
   obtain ⟨V9,hVV⟩:∃ V,W2.drew=V:=⟨_,rfl⟩
   have kV:Kept W2 V9:=by rw [← hVV];exact Kept.drew _
   have HVV:=gh hVV
   have KV:=gh (K2.out.trans kV)
   have MV:=gh (H.out.kept KV.out)
   have j3:(M:Int)≤70001:=by omega
   by_cases hms:¬ M=S
   ·have HR:Hid (r=false):=gh (BAD.out (by rw [HKD.out];simp only [Bool.and_eq_false_iff,beq_eq_false_iff_ne];left;left;omega))
    have g1:((M:Int) == (S:Int))=false:=by simp;omega
    have g2:¬ ((M:Int)=(S:Int)):=by omega
    have g3:(M == S)=false:=by simp [hms]
    have g4:((M:Int) != (S:Int))=true:=by simp;omega
    clear hVV kV
    go_wp2_with (fail)
    refine region_wide [0,1,2,3,4,5,6,7,8,9,10,11,12,13,14,15,16,17,18,19,20,21,22,23,24,25,26,27,28,29] (fun U=>Kept V9 U) (by kernel_rfl) (by kernel_rfl) (by rw [HVV.out];exact Kept.refl _) (fun _=>?_)
    rw [HVV.out]
    repeat (refine pq rfl rfl ?_;go_big_quiet_step (fail);refine wpQuiet_nil ?_)
    refine pl rfl rfl ?_
    gi_wp2_with (fail)
    refine ⟨trivial,?_⟩
    refine (callsIn_wide.2 (HSZ.out V9)).mono ?_
    rintro e U ⟨rfl,rfl⟩
    gi_wp2_with (fail)
    refine ⟨Wd.mem (Kept.refl _),?_⟩
    repeat (refine pq rfl rfl ?_;go_big_quiet_step (fail);refine wpQuiet_nil ?_)
    refine ps rfl rfl rfl (Wd.mem (Kept.refl _)) ?_
    go_big_quiet_skip
    refine wpQuiet_nil ?_
    refine ps rfl rfl rfl (Wd.mem (Kept.refl _)) ?_
    go_big_quiet_skip
    refine wpQuiet_nil ?_
    repeat (refine pq rfl rfl ?_;go_big_quiet_step (fail);refine wpQuiet_nil ?_)
    refine ps rfl rfl rfl (Wd.mem (Kept.refl _)) ?_
    go_big_quiet_skip
    refine wpQuiet_nil ?_
    repeat (refine pq rfl rfl ?_;go_big_quiet_step (fail);refine wpQuiet_nil ?_)
    refine perm_done ?_
    go_wp2
    go_ret
    exact ⟨congrArg (fun z=>Ending.returned (.bool z)) HR.out.symm,KV.out⟩
   have hms:=Decidable.not_not.1 hms
   subst hms
   have HW3:=gh (HW2.out rfl)
   clear HW2
   by_cases k0:k=0
   ·have j4:¬ ((0:Int) < (k:Int)):=by omega
    have j5:decide ((0:Int) < (k:Int))=false:=by simp;omega
    have j6:decide (0 < k)=false:=by simp;omega
    have HKV:Hid (kidDW (idealD s f) s f (a:Int) n ((k:Int),sl)=v):=gh (by rw [HKD.out,k0];simp)
    clear k0
    cases v with
    | true=>
     have NX:=gh (NXT.out HKV.out)
     clear hVV kV
     go_wp2_with (fail)
     refine region_wide [0,1,2,3,4,5,6,7,8,9,10,11,12,13,14,15,16,17,18,19,20,21,22,23,24,25,26,27,28,29] (fun U=>Kept V9 U) (by kernel_rfl) (by kernel_rfl) (by rw [HVV.out];exact Kept.refl _) (fun _=>?_)
     rw [HVV.out]
     repeat (refine pq rfl rfl ?_;go_big_quiet_step (fail);refine wpQuiet_nil ?_)
     refine pl rfl rfl ?_
     gi_wp2_with (fail)
     refine ⟨trivial,?_⟩
     refine (callsIn_wide.2 (HSZ.out V9)).mono ?_
     rintro e U ⟨rfl,rfl⟩
     gi_wp2_with (fail)
     refine ⟨Wd.mem (Kept.refl _),?_⟩
     repeat (refine pq rfl rfl ?_;go_big_quiet_step (fail);refine wpQuiet_nil ?_)
     refine ps rfl rfl rfl (Wd.mem (Kept.refl _)) ?_
     go_big_quiet_skip
     refine wpQuiet_nil ?_
     refine ps rfl rfl rfl (Wd.mem (Kept.refl _)) ?_
     go_big_quiet_skip
     refine wpQuiet_nil ?_
     repeat (refine pq rfl rfl ?_;go_big_quiet_step (fail);refine wpQuiet_nil ?_)
     refine pl rfl rfl ?_
     gi_wp2_with (fail)
     refine ⟨trivial,?_⟩
     refine (callsIn_wide.2 (IH.out V9 b s MV.out HO.out u HW3.out.1 HW3.out.2 (M:Int) (by omega) (by omega) true HV.out)).mono ?_
     rintro e UB ⟨rfl,kU⟩
     have KU:=gh kU
     clear kU
     gi_wp2_with (fail)
     refine ⟨Wd.mem KU.out,?_⟩
     repeat (refine pq rfl rfl ?_;go_big_quiet_step (fail);refine wpQuiet_nil ?_)
     refine perm_done ?_
     go_wp2
     exact ⟨⟨k+1,by omega,by simp,NX,gh (KV.out.trans KU.out)⟩,by simp [intOf];omega⟩
    | false=>
     have HR:=gh (BAD.out HKV.out)
     clear hVV kV
     go_wp2_with (fail)
     refine region_wide [0,1,2,3,4,5,6,7,8,9,10,11,12,13,14,15,16,17,18,19,20,21,22,23,24,25,26,27,28,29] (fun U=>Kept V9 U) (by kernel_rfl) (by kernel_rfl) (by rw [HVV.out];exact Kept.refl _) (fun _=>?_)
     rw [HVV.out]
     repeat (refine pq rfl rfl ?_;go_big_quiet_step (fail);refine wpQuiet_nil ?_)
     refine pl rfl rfl ?_
     gi_wp2_with (fail)
     refine ⟨trivial,?_⟩
     refine (callsIn_wide.2 (HSZ.out V9)).mono ?_
     rintro e U ⟨rfl,rfl⟩
     gi_wp2_with (fail)
     refine ⟨Wd.mem (Kept.refl _),?_⟩
     repeat (refine pq rfl rfl ?_;go_big_quiet_step (fail);refine wpQuiet_nil ?_)
     refine ps rfl rfl rfl (Wd.mem (Kept.refl _)) ?_
     go_big_quiet_skip
     refine wpQuiet_nil ?_
     refine ps rfl rfl rfl (Wd.mem (Kept.refl _)) ?_
     go_big_quiet_skip
     refine wpQuiet_nil ?_
     repeat (refine pq rfl rfl ?_;go_big_quiet_step (fail);refine wpQuiet_nil ?_)
     refine pl rfl rfl ?_
     gi_wp2_with (fail)
     refine ⟨trivial,?_⟩
     refine (callsIn_wide.2 (IH.out V9 b s MV.out HO.out u HW3.out.1 HW3.out.2 (M:Int) (by omega) (by omega) false HV.out)).mono ?_
     rintro e UB ⟨rfl,kU⟩
     have KU:=gh kU
     clear kU
     gi_wp2_with (fail)
     refine ⟨Wd.mem KU.out,?_⟩
     repeat (refine pq rfl rfl ?_;go_big_quiet_step (fail);refine wpQuiet_nil ?_)
     refine perm_done ?_
     go_wp2
     go_ret
     exact ⟨congrArg (fun z=>Ending.returned (.bool z)) HR.out.symm,KV.out.trans KU.out⟩
   ·have j4:(0:Int) < (k:Int):=by omega
    have j5:decide ((0:Int) < (k:Int))=true:=by simp;omega
    have j6:decide (0 < k)=true:=by simp;omega
    have j7:decide ((k:Int)≤0)=false:=by simp;omega
    obtain ⟨⟨h0',h1'⟩,hh⟩:∃ p,P[0]? = some p:=⟨_,List.getElem?_eq_getElem (by rw [HMM.out];omega)⟩
    have hhd:P.headD (0,0)=(h0',h1'):=by
     cases P with
     | nil=>simp at hh
     | cons p l=>simp at hh;simp [hh]
    obtain ⟨bl,off,rfl,_,q0,_⟩:=HRD.out.at hh
    have y0:∀ u:Wd (fun U=>Kept V9 U),u.w.cell? ⟨bl,off,none⟩=some (.int .i64 h0'):=fun u=>u.ok.cell (kV.cell (by simpa using q0) id) id
    have i1:(0:Int) < (M:Int):=by omega
    have i2:0 < M:=by omega
    have i3:0 < lc:=by omega
    have HKV:Hid (kidDW (idealD s f) s f (a:Int) n ((k:Int),sl)=((z == h0') && v)):=gh (by rw [HKD.out,hhd,j7];simp)
    clear hh hhd q0
    by_cases zh:¬ z=h0'
    ·have HR:Hid (r=false):=gh (BAD.out (by rw [HKV.out];simp [zh]))
     have g1:(h0' == z)=false:=by simp;exact fun e=>zh e.symm
     have g2:¬ h0'=z:=fun e=>zh e.symm
     have g4:(h0' != z)=true:=by simp;exact g2
     clear hVV kV
     go_wp2_with (fail)
     refine region_wide [0,1,2,3,4,5,6,7,8,9,10,11,12,13,14,15,16,17,18,19,20,21,22,23,24,25,26,27,28,29] (fun U=>Kept V9 U) (by kernel_rfl) (by kernel_rfl) (by rw [HVV.out];exact Kept.refl _) (fun _=>?_)
     rw [HVV.out]
     repeat (refine pq rfl rfl ?_;go_big_quiet_step (fail);refine wpQuiet_nil ?_)
     refine pl rfl rfl ?_
     gi_wp2_with (fail)
     refine ⟨trivial,?_⟩
     refine (callsIn_wide.2 (HSZ.out V9)).mono ?_
     rintro e U ⟨rfl,rfl⟩
     gi_wp2_with (fail)
     refine ⟨Wd.mem (Kept.refl _),?_⟩
     repeat (refine pq rfl rfl ?_;go_big_quiet_step (fail);refine wpQuiet_nil ?_)
     refine pl rfl rfl ?_
     gi_wp2_with (fail)
     refine ⟨trivial,?_⟩
     refine (callsIn_wide.2 (key_r V9 a (k:Int) _ hkz.out)).mono ?_
     rintro e U ⟨rfl,rfl⟩
     gi_wp2_with (fail)
     refine ⟨Wd.mem (Kept.refl _),?_⟩
     refine pl rfl rfl ?_
     gi_wp2_with (fail)
     refine ⟨trivial,?_⟩
     refine (callsIn_wide.2 (lk_d V9 b s _ z MV.out HZ.out)).mono ?_
     rintro e U ⟨rfl,rfl⟩
     gi_wp2_with (fail)
     refine ⟨Wd.mem (Kept.refl _),?_⟩
     repeat (refine pq rfl rfl ?_;go_big_quiet_step (fail);refine wpQuiet_nil ?_)
     refine ps rfl rfl rfl (Wd.mem (Kept.refl _)) ?_
     go_big_quiet_skip
     refine wpQuiet_nil ?_
     repeat (refine pq rfl rfl ?_;go_big_quiet_step (fail);refine wpQuiet_nil ?_)
     refine perm_done ?_
     go_wp2
     go_ret
     exact ⟨congrArg (fun z=>Ending.returned (.bool z)) HR.out.symm,KV.out⟩
    have zh:=Decidable.not_not.1 zh
    subst zh
    have HKV2:Hid (kidDW (idealD s f) s f (a:Int) n ((k:Int),sl)=v):=gh (by rw [HKV.out];simp)
    cases v with
    | true=>
     have NX:=gh (NXT.out HKV2.out)
     clear hVV kV
     go_wp2_with (fail)
     refine region_wide [0,1,2,3,4,5,6,7,8,9,10,11,12,13,14,15,16,17,18,19,20,21,22,23,24,25,26,27,28,29] (fun U=>Kept V9 U) (by kernel_rfl) (by kernel_rfl) (by rw [HVV.out];exact Kept.refl _) (fun _=>?_)
     rw [HVV.out]
     repeat (refine pq rfl rfl ?_;go_big_quiet_step (fail);refine wpQuiet_nil ?_)
     refine pl rfl rfl ?_
     gi_wp2_with (fail)
     refine ⟨trivial,?_⟩
     refine (callsIn_wide.2 (HSZ.out V9)).mono ?_
     rintro e U ⟨rfl,rfl⟩
     gi_wp2_with (fail)
     refine ⟨Wd.mem (Kept.refl _),?_⟩
     repeat (refine pq rfl rfl ?_;go_big_quiet_step (fail);refine wpQuiet_nil ?_)
     refine pl rfl rfl ?_
     gi_wp2_with (fail)
     refine ⟨trivial,?_⟩
     refine (callsIn_wide.2 (key_r V9 a (k:Int) _ hkz.out)).mono ?_
     rintro e U ⟨rfl,rfl⟩
     gi_wp2_with (fail)
     refine ⟨Wd.mem (Kept.refl _),?_⟩
     refine pl rfl rfl ?_
     gi_wp2_with (fail)
     refine ⟨trivial,?_⟩
     refine (callsIn_wide.2 (lk_d V9 b s _ z MV.out HZ.out)).mono ?_
     rintro e U ⟨rfl,rfl⟩
     gi_wp2_with (fail)
     refine ⟨Wd.mem (Kept.refl _),?_⟩
     repeat (refine pq rfl rfl ?_;go_big_quiet_step (fail);refine wpQuiet_nil ?_)
     refine pl rfl rfl ?_
     gi_wp2_with (fail)
     refine ⟨trivial,?_⟩
     refine (callsIn_wide.2 (IH.out V9 b s MV.out HO.out u HW3.out.1 HW3.out.2 (M:Int) (by omega) (by omega) true HV.out)).mono ?_
     rintro e UB ⟨rfl,kU⟩
     have KU:=gh kU
     clear kU
     gi_wp2_with (fail)
     refine ⟨Wd.mem KU.out,?_⟩
     repeat (refine pq rfl rfl ?_;go_big_quiet_step (fail);refine wpQuiet_nil ?_)
     refine perm_done ?_
     go_wp2
     exact ⟨⟨k+1,by omega,by simp,NX,gh (KV.out.trans KU.out)⟩,by simp [intOf];omega⟩
    | false=>
     have HR:=gh (BAD.out HKV2.out)
     clear hVV kV
     go_wp2_with (fail)
     refine region_wide [0,1,2,3,4,5,6,7,8,9,10,11,12,13,14,15,16,17,18,19,20,21,22,23,24,25,26,27,28,29] (fun U=>Kept V9 U) (by kernel_rfl) (by kernel_rfl) (by rw [HVV.out];exact Kept.refl _) (fun _=>?_)
     rw [HVV.out]
     repeat (refine pq rfl rfl ?_;go_big_quiet_step (fail);refine wpQuiet_nil ?_)
     refine pl rfl rfl ?_
     gi_wp2_with (fail)
     refine ⟨trivial,?_⟩
     refine (callsIn_wide.2 (HSZ.out V9)).mono ?_
     rintro e U ⟨rfl,rfl⟩
     gi_wp2_with (fail)
     refine ⟨Wd.mem (Kept.refl _),?_⟩
     repeat (refine pq rfl rfl ?_;go_big_quiet_step (fail);refine wpQuiet_nil ?_)
     refine pl rfl rfl ?_
     gi_wp2_with (fail)
     refine ⟨trivial,?_⟩
     refine (callsIn_wide.2 (key_r V9 a (k:Int) _ hkz.out)).mono ?_
     rintro e U ⟨rfl,rfl⟩
     gi_wp2_with (fail)
     refine ⟨Wd.mem (Kept.refl _),?_⟩
     refine pl rfl rfl ?_
     gi_wp2_with (fail)
     refine ⟨trivial,?_⟩
     refine (callsIn_wide.2 (lk_d V9 b s _ z MV.out HZ.out)).mono ?_
     rintro e U ⟨rfl,rfl⟩
     gi_wp2_with (fail)
     refine ⟨Wd.mem (Kept.refl _),?_⟩
     repeat (refine pq rfl rfl ?_;go_big_quiet_step (fail);refine wpQuiet_nil ?_)
     refine pl rfl rfl ?_
     gi_wp2_with (fail)
     refine ⟨trivial,?_⟩
     refine (callsIn_wide.2 (IH.out V9 b s MV.out HO.out u HW3.out.1 HW3.out.2 (M:Int) (by omega) (by omega) false HV.out)).mono ?_
     rintro e UB ⟨rfl,kU⟩
     have KU:=gh kU
     clear kU
     gi_wp2_with (fail)
     refine ⟨Wd.mem KU.out,?_⟩
     repeat (refine pq rfl rfl ?_;go_big_quiet_step (fail);refine wpQuiet_nil ?_)
     refine perm_done ?_
     go_wp2
     go_ret
     exact ⟨congrArg (fun z=>Ending.returned (.bool z)) HR.out.symm,KV.out.trans KU.out⟩
  ·have hkn':k=D:=by omega
   subst hkn'
   have j1:¬ ((k:Int) < (k:Int)):=by omega
   have FIN:Hid (r=true):=gh (by
    rw [← HE.out,List.all_eq_true]
    intro p hp
    exact HA.out p (by rw [List.take_of_length_le (by rw [HLL.out];omega)];exact hp))
   go_wp2
   go_ret
   exact ⟨congrArg (fun z=>Ending.returned (.bool z)) FIN.out.symm,HKP.out⟩
theorem ide_d:∀ f,IdeD f
 | 0=>fun _ _ _ _ _ _ h _=>h.elim
 | f+1=>fun w b s h ho x hw hl n h0 h1 r e1=>by
  by_cases n2:n < 2
  ·exact ide_few w b x hw.1.i64 n h0 n2 r (by rw [← e1,idealD_succ,if_pos n2])
  rw [idealD_succ,if_neg n2] at e1
  cases hq:(kd x == 3 && newB s (ad x) n) with
  | false=>
   rw [hq,Bool.false_and] at e1
   rw [← e1]
   exact ide_no w b s h x hw.1.i64 n n2 h1 hq
  | true=>
   rw [hq,Bool.true_and] at e1
   rw [Bool.and_eq_true,beq_iff_eq] at hq
   exact ide_yes f (ide_d f) w b s h ho x hw hl n n2 h1 hq.1 hq.2 r e1
theorem idealD_d (w:World) (b:Nat) (s:Mst) (x:Int) (h:DM w b s) (ho:s.ok) (r:Bool) (e1:idealB s x=r) :
  Calls Tryz.prog 51 #[.pointer (some ⟨b,0,none⟩),.int .i64 x] w fun e w'=>e=.returned (.bool r)∧Kept w w':=by
 have H:=gh h
 have HO:=gh ho
 obtain ⟨q,hq⟩:∃ q,inTreeB s x=q:=⟨_,rfl⟩
 have HQ:=gh hq
 unfold idealB at e1
 rw [hq] at e1
 cases q with
 | false=>
  have HE:Hid (r=false):=gh (by rw [← e1];rfl)
  clear h ho hq e1
  go_enter Tryz.func51,Tryz.ntmps51
  go_wp2_with (fail)
  refine (inTree_d w b s H.out HO.out x false HQ.out).mono ?_
  rintro e W1 ⟨rfl,k1⟩
  have K1:=gh k1
  clear k1
  go_wp2
  go_ret
  exact ⟨congrArg (fun z=>Ending.returned (.bool z)) HE.out.symm,K1.out⟩
 | true=>
  obtain ⟨hwf,hlen⟩:=inTree_wf ho hq
  obtain ⟨P,hP⟩:∃ P,pairsF s (fuel s) x=P:=⟨_,rfl⟩
  obtain ⟨M,hM⟩:∃ M,P.length=M:=⟨_,rfl⟩
  have HE:Hid (idealD s (fuel s) x (M:Int)=r):=gh (by rw [← e1,← hM,← hP,ideal_same _ _ hwf];rfl)
  have hMb:M≤70001:=by rw [← hM,← hP];exact pairsF_len hlen
  have HW:=gh hwf
  have HL:=gh hlen
  have HPP:=gh hP
  have HMM:=gh hM
  clear h ho hq e1 hwf hlen hP hM
  go_enter Tryz.func51,Tryz.ntmps51
  go_wp2_with (fail)
  refine (inTree_d w b s H.out HO.out x true HQ.out).mono ?_
  rintro e W1 ⟨rfl,k1⟩
  have K1:=gh k1
  clear k1
  go_wp2_with (fail)
  refine (cont_d _ W1 b s (H.out.kept K1.out) HO.out x HW.out HL.out).mono ?_
  rw [HPP.out]
  rintro e W2 ⟨v,rfl,r2,k2⟩
  obtain ⟨la,lc,hv2,hrd,hlc,hlm,_,_⟩:=r2.reads
  rw [HMM.out] at hv2
  subst hv2
  have K2:=gh (K1.out.trans k2)
  clear r2 k2 hrd
  go_wp2_with (fail)
  refine (ide_d _ W2 b s (H.out.kept K2.out) HO.out x HW.out HL.out (M:Int) (by omega) (by omega) r HE.out).mono ?_
  rintro e W3 ⟨rfl,k3⟩
  have K3:=gh (K2.out.trans k3)
  clear k3
  go_wp2
  go_ret
  exact ⟨rfl,K3.out⟩
end
section
open Go.Shelf
theorem contentB_len {s:Mst} (ho:s.ok) (x:Int):(contentB s x).length≤70001:=by
 unfold contentB
 split
 ·rename_i h;exact pairsF_len (inTree_wf ho h).2
 ·simp
structure Tv (w n2 X:World) (bm bx n0:Nat) (vx:Value) (sx s:Mst):Prop where
 now:Now n2 X bm s
 dmem:DMem X n0 bx vx sx
 kept:Kept w X
theorem Tv.on {w n2 X Y:World} {bm bx n0:Nat} {vx:Value} {sx s:Mst} (h:Tv w n2 X bm bx n0 vx sx s) (k:Kept X Y):Tv w n2 Y bm bx n0 vx sx s:=
 ⟨h.now.on k,h.dmem.kept k,h.kept.trans k⟩
theorem Tv.dm {w n2 X:World} {bm bx n0:Nat} {vx:Value} {sx s:Mst} (h:Tv w n2 X bm bx n0 vx sx s) (e:sx.xs=s.xs):DM X bx s:=⟨n0,vx,sx,e,h.dmem⟩
set_option maxHeartbeats 8000000 in
set_option maxRecDepth 20000 in
theorem viewTells_c (w:World) (cells at_ wd:Int) (a1:Option Addr) (keys:List Int) (c1:Nat) (a2:Option Addr) (l:List Int) (c2:Nat) (a3:Option Addr) (us:List Int) (c3:Nat) (hr1:Reads w a1 keys) (hc1:keys.length≤c1) (hm1:c1≤maxLen) (hr2:Reads w a2 l) (hc2:l.length≤c2) (hm2:c2≤maxLen) (hi:∀ z ∈ l,I64 z)
  (hr3:Reads w a3 us) (hc3:us.length≤c3) (hm3:c3≤maxLen) (hi3:∀ z ∈ us,I64 z) (hat:I64 at_) (hwd:I64 wd) :
  Calls Tryz.prog 7 #[.int .i64 cells,.slice a1 keys.length c1,.slice a2 l.length c2,.slice a3 us.length c3,.int .i64 at_,.int .i64 wd] w fun e w'=>e=.returned (.bool true)∧Kept w w':=by
 obtain ⟨u1,hu1⟩:∃ u,us.take 1=u:=⟨_,rfl⟩
 obtain ⟨M1,hM1⟩:∃ m,min us.length 1=m:=⟨_,rfl⟩
 have hl1:u1.length=M1:=by rw [← hu1,List.length_take];omega
 have FW:Hid (Calls Tryz.prog 41 #[.slice a3 us.length c3,.int .i64 1] w fun e w'=>e=.returned (.slice a3 M1 c3)∧w=w'):=gh (by rw [← hM1];exact few_r w a3 us us.length c3 1 hr3 rfl hc3 hm3 (by omega))
 have TR:=gh (tree_r w cells a1 keys c1 a2 l c2 a3 u1 c3 hr1 hc1 hm1 hr2 hc2 hm2 hi M1 hl1 (by rw [← hu1];exact hr3.takes 1) (by omega) hm3 (fun z hz=>hi3 z (by rw [← hu1] at hz;exact List.mem_of_mem_take hz)))
 have HWD:=gh hwd
 have HAT:=gh hat
 clear hr1 hc1 hm1 hr2 hc2 hm2 hi hr3 hc3 hm3 hi3 hl1 hM1 hu1 hwd
 go_enter Tryz.func7,Tryz.ntmps7
 go_wp2_with (fail)
 refine FW.out.mono ?_
 rintro e w' ⟨rfl,rfl⟩
 go_wp2_with (fail)
 refine TR.out.mono ?_
 rintro e W1 ⟨bx,vx,rfl,tr⟩
 obtain ⟨sx,hsx⟩:∃ s,treeF (worldZ cells keys l).m u1=s:=⟨_,rfl⟩
 rw [hsx] at tr
 have T1:=gh tr
 obtain ⟨s,hs⟩:∃ s,cp sx=s:=⟨_,rfl⟩
 have HS:=gh hs
 have OK:Hid s.ok:=gh (by rw [← hs];exact cp_ok tr.ok tr.mem.room)
 have HXS:Hid (sx.xs=s.xs):=gh (by rw [← hs,cp_xs tr.mem.room])
 have HSZ:Hid (sx.size=s.size):=gh (by rw [← hs];exact (cp_size sx).symm)
 clear tr hs hsx TR FW
 go_wp2_with (fail)
 refine (copy_c W1 _ bx vx sx T1.out.mem T1.out.big.1).mono ?_
 rintro e W2 ⟨bm,rfl,n2⟩
 rw [HS.out] at n2
 have S2:Hid (Tv w W1 W2 bm bx w.heap.size vx sx s):=gh ⟨n2,T1.out.mem.kept n2.2,T1.out.kept.trans n2.2⟩
 clear n2
 obtain ⟨SL,hSL⟩:∃ L,(if soundB s=true then spotsL s (fuel s) else [])=L:=⟨_,rfl⟩
 have HSL:=gh hSL
 have HLE:Hid (SL.length≤70000):=gh (by
  rw [← hSL]
  split
  ·rename_i hs;exact spotsL_len OK.out hs
  ·simp)
 have OI:Hid (∀ p ∈ SL,I64 p.2):=gh (by
  rw [← hSL]
  split
  ·exact spotsL_i64 OK.out _
  ·intro p hp;cases hp)
 obtain ⟨T,hT⟩:∃ T,SL.length=T:=⟨_,rfl⟩
 have HT:=gh hT
 have hT2:T≤70000:=by rw [← hT];exact HLE.out
 clear hSL hT
 go_wp2_with (fail)
 refine (spotsD_p W2 bx s (S2.out.dm HXS.out) OK.out SL HSL.out).mono ?_
 rintro e W3 ⟨v3,rfl,r3,k3⟩
 obtain ⟨la,lc,hv3,hrd,hlc,hlm,_,_⟩:=r3.reads
 rw [HT.out] at hv3 hlc
 subst hv3
 have HRD:=gh hrd
 have S3:=gh (S2.out.on k3)
 clear r3 k3 hrd S2
 obtain ⟨q3,h3⟩:∃ q,at_.tmod 3=q:=⟨_,rfl⟩
 have j3:(T:Int)≤70000:=by omega
 by_cases hT0:T=0
 ·have i1:¬ (0 < T):=by omega
  have i2:¬ ((0:Int) < (T:Int)):=by omega
  clear hT0
  have YI:Hid (I64 wd):=gh HWD.out
  obtain ⟨cs,hcs⟩:∃ c,contentB s wd=c:=⟨_,rfl⟩
  obtain ⟨dp,hdp⟩:∃ c,depthB s wd=c:=⟨_,rfl⟩
  obtain ⟨ib,hib⟩:∃ c,idealB s wd=c:=⟨_,rfl⟩
  have hcl:cs.length≤70001:=by rw [← hcs];exact contentB_len OK.out _
  have HCS:=gh hcs
  have HDP:=gh hdp
  have HIB:=gh hib
  have HCL:Hid (cs.length≤1000000):=gh (by omega)
  have ed:(dp == dp)=true:=by simp
  have ei:(ib == ib)=true:=by simp
  clear hcs hdp hib hcl
  go_wp2_with (fail)
  refine (known_c _).mono ?_
  rintro e W4 ⟨rfl,k⟩
  have S4:=gh (S3.out.on k)
  clear k S3
  go_wp2_with (fail)
  refine (like_c W1 _ bm s S4.out.now _ bx vx sx S4.out.dmem HXS.out HSZ.out).mono ?_
  rintro e W5 ⟨rfl,k⟩
  have S5:=gh (S4.out.on k)
  clear k S4
  go_wp2_with (fail)
  refine (content_p _ bm s wd S5.out.now.pm OK.out YI.out cs HCS.out).mono ?_
  rintro e W6 ⟨v5,rfl,r5,k⟩
  obtain ⟨la5,lc5,hv5,hr5,hl5,_,_,_⟩:=r5.reads
  obtain ⟨M,hM⟩:∃ m,cs.length=m:=⟨_,rfl⟩
  rw [hM] at hv5 hl5
  subst hv5
  have R5:=gh hr5
  have HM:=gh hM
  clear hr5 r5 hM
  have S6:=gh (S5.out.on k)
  clear k S5
  go_wp2_with (fail)
  refine (contentD_d _ bx s wd (S6.out.dm HXS.out) OK.out cs HCS.out).mono ?_
  rintro e W7 ⟨v6,rfl,r6,k⟩
  obtain ⟨la6,lc6,hv6,hr6,hl6,_,_,_⟩:=r6.reads
  rw [HM.out] at hv6 hl6
  subst hv6
  have R6:=gh hr6
  have R5:=gh (R5.out.kept k)
  clear hr6 r6
  have S7:=gh (S6.out.on k)
  clear k S6
  go_wp2_with (fail)
  refine (pairs_same _ la5 la6 cs M lc5 lc6 HM.out R5.out R6.out hl5 hl6 (by rw [← HM.out];exact HCL.out)).mono ?_
  rintro e W8 ⟨rfl,k⟩
  have S8:=gh (S7.out.on k)
  clear k S7
  go_wp2_with (fail)
  refine (depth_p _ bm s wd S8.out.now.pm OK.out YI.out dp HDP.out).mono ?_
  rintro e W9 ⟨rfl,k⟩
  have S9:=gh (S8.out.on k)
  clear k S8
  go_wp2_with (fail)
  refine (depthD_d _ bx s wd (S9.out.dm HXS.out) OK.out dp HDP.out).mono ?_
  rintro e W10 ⟨rfl,k⟩
  have S10:=gh (S9.out.on k)
  clear k S9
  go_wp2_with (fail)
  refine (ideal_p _ bm s wd S10.out.now.pm OK.out YI.out ib HIB.out).mono ?_
  rintro e W11 ⟨rfl,k⟩
  have S11:=gh (S10.out.on k)
  clear k S10
  go_wp2_with (fail)
  refine (idealD_d _ bx s wd (S11.out.dm HXS.out) OK.out ib HIB.out).mono ?_
  rintro e W12 ⟨rfl,k⟩
  have S12:=gh (S11.out.on k)
  clear k S11
  go_wp2
  go_ret
  exact ⟨rfl,S12.out.kept⟩
 have i1:0 < T:=by omega
 have i2:(0:Int) < (T:Int):=by omega
 by_cases z3:q3=0
 ·have i3:(q3 == 0)=true:=by simp [z3]
  have i4:(q3 != 0)=false:=by simp [z3]
  clear z3
  have YI:Hid (I64 wd):=gh HWD.out
  obtain ⟨cs,hcs⟩:∃ c,contentB s wd=c:=⟨_,rfl⟩
  obtain ⟨dp,hdp⟩:∃ c,depthB s wd=c:=⟨_,rfl⟩
  obtain ⟨ib,hib⟩:∃ c,idealB s wd=c:=⟨_,rfl⟩
  have hcl:cs.length≤70001:=by rw [← hcs];exact contentB_len OK.out _
  have HCS:=gh hcs
  have HDP:=gh hdp
  have HIB:=gh hib
  have HCL:Hid (cs.length≤1000000):=gh (by omega)
  have ed:(dp == dp)=true:=by simp
  have ei:(ib == ib)=true:=by simp
  clear hcs hdp hib hcl
  go_wp2_with (fail)
  refine (known_c _).mono ?_
  rintro e W4 ⟨rfl,k⟩
  have S4:=gh (S3.out.on k)
  clear k S3
  go_wp2_with (fail)
  refine (like_c W1 _ bm s S4.out.now _ bx vx sx S4.out.dmem HXS.out HSZ.out).mono ?_
  rintro e W5 ⟨rfl,k⟩
  have S5:=gh (S4.out.on k)
  clear k S4
  go_wp2_with (fail)
  refine (content_p _ bm s wd S5.out.now.pm OK.out YI.out cs HCS.out).mono ?_
  rintro e W6 ⟨v5,rfl,r5,k⟩
  obtain ⟨la5,lc5,hv5,hr5,hl5,_,_,_⟩:=r5.reads
  obtain ⟨M,hM⟩:∃ m,cs.length=m:=⟨_,rfl⟩
  rw [hM] at hv5 hl5
  subst hv5
  have R5:=gh hr5
  have HM:=gh hM
  clear hr5 r5 hM
  have S6:=gh (S5.out.on k)
  clear k S5
  go_wp2_with (fail)
  refine (contentD_d _ bx s wd (S6.out.dm HXS.out) OK.out cs HCS.out).mono ?_
  rintro e W7 ⟨v6,rfl,r6,k⟩
  obtain ⟨la6,lc6,hv6,hr6,hl6,_,_,_⟩:=r6.reads
  rw [HM.out] at hv6 hl6
  subst hv6
  have R6:=gh hr6
  have R5:=gh (R5.out.kept k)
  clear hr6 r6
  have S7:=gh (S6.out.on k)
  clear k S6
  go_wp2_with (fail)
  refine (pairs_same _ la5 la6 cs M lc5 lc6 HM.out R5.out R6.out hl5 hl6 (by rw [← HM.out];exact HCL.out)).mono ?_
  rintro e W8 ⟨rfl,k⟩
  have S8:=gh (S7.out.on k)
  clear k S7
  go_wp2_with (fail)
  refine (depth_p _ bm s wd S8.out.now.pm OK.out YI.out dp HDP.out).mono ?_
  rintro e W9 ⟨rfl,k⟩
  have S9:=gh (S8.out.on k)
  clear k S8
  go_wp2_with (fail)
  refine (depthD_d _ bx s wd (S9.out.dm HXS.out) OK.out dp HDP.out).mono ?_
  rintro e W10 ⟨rfl,k⟩
  have S10:=gh (S9.out.on k)
  clear k S9
  go_wp2_with (fail)
  refine (ideal_p _ bm s wd S10.out.now.pm OK.out YI.out ib HIB.out).mono ?_
  rintro e W11 ⟨rfl,k⟩
  have S11:=gh (S10.out.on k)
  clear k S10
  go_wp2_with (fail)
  refine (idealD_d _ bx s wd (S11.out.dm HXS.out) OK.out ib HIB.out).mono ?_
  rintro e W12 ⟨rfl,k⟩
  have S12:=gh (S11.out.on k)
  clear k S11
  go_wp2
  go_ret
  exact ⟨rfl,S12.out.kept⟩
 have i3:(q3 == 0)=false:=by simp [z3]
 have i4:(q3 != 0)=true:=by simp [z3]
 clear z3 hT0
 obtain ⟨q2,h2⟩:∃ q,at_.tmod 2=q:=⟨_,rfl⟩
 obtain ⟨dv,hdv⟩:∃ q,at_.tdiv 3=q:=⟨_,rfl⟩
 have b1:-3 < at_.tmod 3:=Int.lt_tmod_of_pos at_ (by omega)
 have b2:at_.tmod 3 < 3:=Int.tmod_lt_of_pos at_ (by omega)
 have b3:=Int.mul_tdiv_add_tmod at_ 3
 rw [hdv] at b3
 rw [h3] at b1 b2 b3
 have hdw:wrap64 dv=dv:=Pt.wrap_same (by have:=hat.1;have:=hat.2;omega) (by have:=hat.1;have:=hat.2;omega)
 have hmp:=Int.emod_nonneg dv (show (T:Int)≠0 by omega)
 have hmq:=Int.emod_lt_of_pos dv i2
 obtain ⟨k,hk⟩:∃ k:Nat,dv % (T:Int)=(k:Int):=⟨(dv % (T:Int)).toNat,by omega⟩
 have HC:Hid (∀ Y,Calls Tryz.prog 36 #[.int .i64 dv,.int .i64 (T:Int)] Y fun e X'=>e=.returned (.int .i64 (k:Int))∧Y=X'):=gh (fun Y=>hk ▸ cut_g Y dv (T:Int) i2 (by omega))
 have i5:(k:Int) < (T:Int):=by omega
 have i6:k < lc:=by omega
 have i7:(0:Int)≤(k:Int):=by omega
 obtain ⟨⟨sl,y⟩,hp⟩:∃ p,SL[k]? = some p:=⟨_,List.getElem?_eq_getElem (by rw [HT.out];omega)⟩
 obtain ⟨bl,off,rfl,_,_,q1⟩:=HRD.out.at hp
 have cy:W3.cell? ⟨bl,off+k * 2+1,none⟩=some (.int .i64 y):=q1
 have YI0:Hid (I64 y):=gh (OI.out _ (List.mem_of_getElem? hp))
 obtain ⟨ky,hky⟩:∃ q,kd y=q:=⟨_,rfl⟩
 obtain ⟨ay,hay⟩:∃ q,ad y=q:=⟨_,rfl⟩
 obtain ⟨y1,hy1⟩:∃ q,s.look ay=q:=⟨_,rfl⟩
 have HKY:=gh hky
 have HAY:=gh hay
 have HY1:=gh hy1
 have YI1:Hid (I64 y1):=gh (by rw [← hy1];exact OK.out.look _)
 clear hmp hmq hk hp q1 hky hay hy1 HRD b1 b2 b3
 by_cases z2:q2=0
 ·have i8:(q2 == 0)=true:=by simp [z2]
  by_cases z4:ky=4
  ·subst z4
   clear z2
   go_wp2_with (fail)
   refine (HC.out W3).mono ?_
   rintro e w' ⟨rfl,rfl⟩
   go_wp2_with (fail)
   refine (kk_d _ y 4 YI0.out HKY.out).mono ?_
   rintro e w' ⟨rfl,rfl⟩
   go_wp2_with (fail)
   refine (ak_d _ y ay YI0.out HAY.out).mono ?_
   rintro e w' ⟨rfl,rfl⟩
   go_wp2_with (fail)
   refine (lk_d _ bx s ay y1 (S3.out.dm HXS.out) HY1.out).mono ?_
   rintro e w' ⟨rfl,rfl⟩
   have YI:Hid (I64 y1):=gh YI1.out
   obtain ⟨cs,hcs⟩:∃ c,contentB s y1=c:=⟨_,rfl⟩
   obtain ⟨dp,hdp⟩:∃ c,depthB s y1=c:=⟨_,rfl⟩
   obtain ⟨ib,hib⟩:∃ c,idealB s y1=c:=⟨_,rfl⟩
   have hcl:cs.length≤70001:=by rw [← hcs];exact contentB_len OK.out _
   have HCS:=gh hcs
   have HDP:=gh hdp
   have HIB:=gh hib
   have HCL:Hid (cs.length≤1000000):=gh (by omega)
   have ed:(dp == dp)=true:=by simp
   have ei:(ib == ib)=true:=by simp
   clear hcs hdp hib hcl
   go_wp2_with (fail)
   refine (known_c _).mono ?_
   rintro e W4 ⟨rfl,k⟩
   have S4:=gh (S3.out.on k)
   clear k S3
   go_wp2_with (fail)
   refine (like_c W1 _ bm s S4.out.now _ bx vx sx S4.out.dmem HXS.out HSZ.out).mono ?_
   rintro e W5 ⟨rfl,k⟩
   have S5:=gh (S4.out.on k)
   clear k S4
   go_wp2_with (fail)
   refine (content_p _ bm s y1 S5.out.now.pm OK.out YI.out cs HCS.out).mono ?_
   rintro e W6 ⟨v5,rfl,r5,k⟩
   obtain ⟨la5,lc5,hv5,hr5,hl5,_,_,_⟩:=r5.reads
   obtain ⟨M,hM⟩:∃ m,cs.length=m:=⟨_,rfl⟩
   rw [hM] at hv5 hl5
   subst hv5
   have R5:=gh hr5
   have HM:=gh hM
   clear hr5 r5 hM
   have S6:=gh (S5.out.on k)
   clear k S5
   go_wp2_with (fail)
   refine (contentD_d _ bx s y1 (S6.out.dm HXS.out) OK.out cs HCS.out).mono ?_
   rintro e W7 ⟨v6,rfl,r6,k⟩
   obtain ⟨la6,lc6,hv6,hr6,hl6,_,_,_⟩:=r6.reads
   rw [HM.out] at hv6 hl6
   subst hv6
   have R6:=gh hr6
   have R5:=gh (R5.out.kept k)
   clear hr6 r6
   have S7:=gh (S6.out.on k)
   clear k S6
   go_wp2_with (fail)
   refine (pairs_same _ la5 la6 cs M lc5 lc6 HM.out R5.out R6.out hl5 hl6 (by rw [← HM.out];exact HCL.out)).mono ?_
   rintro e W8 ⟨rfl,k⟩
   have S8:=gh (S7.out.on k)
   clear k S7
   go_wp2_with (fail)
   refine (depth_p _ bm s y1 S8.out.now.pm OK.out YI.out dp HDP.out).mono ?_
   rintro e W9 ⟨rfl,k⟩
   have S9:=gh (S8.out.on k)
   clear k S8
   go_wp2_with (fail)
   refine (depthD_d _ bx s y1 (S9.out.dm HXS.out) OK.out dp HDP.out).mono ?_
   rintro e W10 ⟨rfl,k⟩
   have S10:=gh (S9.out.on k)
   clear k S9
   go_wp2_with (fail)
   refine (ideal_p _ bm s y1 S10.out.now.pm OK.out YI.out ib HIB.out).mono ?_
   rintro e W11 ⟨rfl,k⟩
   have S11:=gh (S10.out.on k)
   clear k S10
   go_wp2_with (fail)
   refine (idealD_d _ bx s y1 (S11.out.dm HXS.out) OK.out ib HIB.out).mono ?_
   rintro e W12 ⟨rfl,k⟩
   have S12:=gh (S11.out.on k)
   clear k S11
   go_wp2
   go_ret
   exact ⟨rfl,S12.out.kept⟩
  ·have i9:(ky == 4)=false:=by simp [z4]
   clear z2 z4
   go_wp2_with (fail)
   refine (HC.out W3).mono ?_
   rintro e w' ⟨rfl,rfl⟩
   go_wp2_with (fail)
   refine (kk_d _ y ky YI0.out HKY.out).mono ?_
   rintro e w' ⟨rfl,rfl⟩
   have YI:Hid (I64 y):=gh YI0.out
   obtain ⟨cs,hcs⟩:∃ c,contentB s y=c:=⟨_,rfl⟩
   obtain ⟨dp,hdp⟩:∃ c,depthB s y=c:=⟨_,rfl⟩
   obtain ⟨ib,hib⟩:∃ c,idealB s y=c:=⟨_,rfl⟩
   have hcl:cs.length≤70001:=by rw [← hcs];exact contentB_len OK.out _
   have HCS:=gh hcs
   have HDP:=gh hdp
   have HIB:=gh hib
   have HCL:Hid (cs.length≤1000000):=gh (by omega)
   have ed:(dp == dp)=true:=by simp
   have ei:(ib == ib)=true:=by simp
   clear hcs hdp hib hcl
   go_wp2_with (fail)
   refine (known_c _).mono ?_
   rintro e W4 ⟨rfl,k⟩
   have S4:=gh (S3.out.on k)
   clear k S3
   go_wp2_with (fail)
   refine (like_c W1 _ bm s S4.out.now _ bx vx sx S4.out.dmem HXS.out HSZ.out).mono ?_
   rintro e W5 ⟨rfl,k⟩
   have S5:=gh (S4.out.on k)
   clear k S4
   go_wp2_with (fail)
   refine (content_p _ bm s y S5.out.now.pm OK.out YI.out cs HCS.out).mono ?_
   rintro e W6 ⟨v5,rfl,r5,k⟩
   obtain ⟨la5,lc5,hv5,hr5,hl5,_,_,_⟩:=r5.reads
   obtain ⟨M,hM⟩:∃ m,cs.length=m:=⟨_,rfl⟩
   rw [hM] at hv5 hl5
   subst hv5
   have R5:=gh hr5
   have HM:=gh hM
   clear hr5 r5 hM
   have S6:=gh (S5.out.on k)
   clear k S5
   go_wp2_with (fail)
   refine (contentD_d _ bx s y (S6.out.dm HXS.out) OK.out cs HCS.out).mono ?_
   rintro e W7 ⟨v6,rfl,r6,k⟩
   obtain ⟨la6,lc6,hv6,hr6,hl6,_,_,_⟩:=r6.reads
   rw [HM.out] at hv6 hl6
   subst hv6
   have R6:=gh hr6
   have R5:=gh (R5.out.kept k)
   clear hr6 r6
   have S7:=gh (S6.out.on k)
   clear k S6
   go_wp2_with (fail)
   refine (pairs_same _ la5 la6 cs M lc5 lc6 HM.out R5.out R6.out hl5 hl6 (by rw [← HM.out];exact HCL.out)).mono ?_
   rintro e W8 ⟨rfl,k⟩
   have S8:=gh (S7.out.on k)
   clear k S7
   go_wp2_with (fail)
   refine (depth_p _ bm s y S8.out.now.pm OK.out YI.out dp HDP.out).mono ?_
   rintro e W9 ⟨rfl,k⟩
   have S9:=gh (S8.out.on k)
   clear k S8
   go_wp2_with (fail)
   refine (depthD_d _ bx s y (S9.out.dm HXS.out) OK.out dp HDP.out).mono ?_
   rintro e W10 ⟨rfl,k⟩
   have S10:=gh (S9.out.on k)
   clear k S9
   go_wp2_with (fail)
   refine (ideal_p _ bm s y S10.out.now.pm OK.out YI.out ib HIB.out).mono ?_
   rintro e W11 ⟨rfl,k⟩
   have S11:=gh (S10.out.on k)
   clear k S10
   go_wp2_with (fail)
   refine (idealD_d _ bx s y (S11.out.dm HXS.out) OK.out ib HIB.out).mono ?_
   rintro e W12 ⟨rfl,k⟩
   have S12:=gh (S11.out.on k)
   clear k S11
   go_wp2
   go_ret
   exact ⟨rfl,S12.out.kept⟩
 ·have i8:(q2 == 0)=false:=by simp [z2]
  clear z2
  go_wp2_with (fail)
  refine (HC.out W3).mono ?_
  rintro e w' ⟨rfl,rfl⟩
  have YI:Hid (I64 y):=gh YI0.out
  obtain ⟨cs,hcs⟩:∃ c,contentB s y=c:=⟨_,rfl⟩
  obtain ⟨dp,hdp⟩:∃ c,depthB s y=c:=⟨_,rfl⟩
  obtain ⟨ib,hib⟩:∃ c,idealB s y=c:=⟨_,rfl⟩
  have hcl:cs.length≤70001:=by rw [← hcs];exact contentB_len OK.out _
  have HCS:=gh hcs
  have HDP:=gh hdp
  have HIB:=gh hib
  have HCL:Hid (cs.length≤1000000):=gh (by omega)
  have ed:(dp == dp)=true:=by simp
  have ei:(ib == ib)=true:=by simp
  clear hcs hdp hib hcl
  go_wp2_with (fail)
  refine (known_c _).mono ?_
  rintro e W4 ⟨rfl,k⟩
  have S4:=gh (S3.out.on k)
  clear k S3
  go_wp2_with (fail)
  refine (like_c W1 _ bm s S4.out.now _ bx vx sx S4.out.dmem HXS.out HSZ.out).mono ?_
  rintro e W5 ⟨rfl,k⟩
  have S5:=gh (S4.out.on k)
  clear k S4
  go_wp2_with (fail)
  refine (content_p _ bm s y S5.out.now.pm OK.out YI.out cs HCS.out).mono ?_
  rintro e W6 ⟨v5,rfl,r5,k⟩
  obtain ⟨la5,lc5,hv5,hr5,hl5,_,_,_⟩:=r5.reads
  obtain ⟨M,hM⟩:∃ m,cs.length=m:=⟨_,rfl⟩
  rw [hM] at hv5 hl5
  subst hv5
  have R5:=gh hr5
  have HM:=gh hM
  clear hr5 r5 hM
  have S6:=gh (S5.out.on k)
  clear k S5
  go_wp2_with (fail)
  refine (contentD_d _ bx s y (S6.out.dm HXS.out) OK.out cs HCS.out).mono ?_
  rintro e W7 ⟨v6,rfl,r6,k⟩
  obtain ⟨la6,lc6,hv6,hr6,hl6,_,_,_⟩:=r6.reads
  rw [HM.out] at hv6 hl6
  subst hv6
  have R6:=gh hr6
  have R5:=gh (R5.out.kept k)
  clear hr6 r6
  have S7:=gh (S6.out.on k)
  clear k S6
  go_wp2_with (fail)
  refine (pairs_same _ la5 la6 cs M lc5 lc6 HM.out R5.out R6.out hl5 hl6 (by rw [← HM.out];exact HCL.out)).mono ?_
  rintro e W8 ⟨rfl,k⟩
  have S8:=gh (S7.out.on k)
  clear k S7
  go_wp2_with (fail)
  refine (depth_p _ bm s y S8.out.now.pm OK.out YI.out dp HDP.out).mono ?_
  rintro e W9 ⟨rfl,k⟩
  have S9:=gh (S8.out.on k)
  clear k S8
  go_wp2_with (fail)
  refine (depthD_d _ bx s y (S9.out.dm HXS.out) OK.out dp HDP.out).mono ?_
  rintro e W10 ⟨rfl,k⟩
  have S10:=gh (S9.out.on k)
  clear k S9
  go_wp2_with (fail)
  refine (ideal_p _ bm s y S10.out.now.pm OK.out YI.out ib HIB.out).mono ?_
  rintro e W11 ⟨rfl,k⟩
  have S11:=gh (S10.out.on k)
  clear k S10
  go_wp2_with (fail)
  refine (idealD_d _ bx s y (S11.out.dm HXS.out) OK.out ib HIB.out).mono ?_
  rintro e W12 ⟨rfl,k⟩
  have S12:=gh (S11.out.on k)
  clear k S11
  go_wp2
  go_ret
  exact ⟨rfl,S12.out.kept⟩
end
end Go.Proofs.YtnjkmmmfhponlaaGreat
