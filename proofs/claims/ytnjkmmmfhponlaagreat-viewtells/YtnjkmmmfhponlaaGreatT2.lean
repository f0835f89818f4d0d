/-
  What the proof of YtnjkmmmfhponlaaGreatU2 goes by, part 2 of 11: contracts and plain facts; each part begins with its own sentence. No conditions beyond each theorem's own.
-/
import Derived.Test.YtnjkmmmfhponlaaGreatT1
import Derived.RangeFuncNested
import Derived.RangeFuncBound
import Derived.RangeFuncLeaves
import Derived.Shelf.Abstract
import Derived.Shelf.RegionOpen
import Derived.OwnWalkIn
import Derived.TacticsInMore
import Derived.LoopNIn
import Derived.LoopIn
namespace Go.Proofs.YtnjkmmmfhponlaaGreat
open Go.RowKit
section
theorem info4_p:(Tryz.prog.info? 4).map (fun i=>(i.zero,i.size,i.bytes))=some (some (.bool false),1,1):=by kernel_rfl
theorem run_make39 (n:Nat) (h:n≤100000) (w:World):(Instr.makeSlice 56 (.int .i64 (n:Int)) (.int .i64 (n:Int))).run Tryz.prog w=.ok (.slice (some ⟨w.heap.size,0,none⟩) n n) (w.alloc (.cells (madeCells #[.int .i64 0] n) 2)):=
 run_make_row' 56 2 (.int .i64 0) 8 Tryz.underlying56 info2_p rfl .i64 .i64 n (by omega) (by omega) w
theorem run_make58 (n:Nat) (h:n≤100000) (w:World):(Instr.makeSlice 104 (.int .i64 (n:Int)) (.int .i64 (n:Int))).run Tryz.prog w=.ok (.slice (some ⟨w.heap.size,0,none⟩) n n) (w.alloc (.cells (madeCells #[.bool false] n) 4)):=
 run_make_row' 104 4 (.bool false) 1 Tryz.underlying104 info4_p rfl .i64 .i64 n (by omega) (by omega) w
def fillK (s:Mst) (a k:Nat):Nat→Value:=fun j=>if j < k then .int .i64 (ky s a (j+1)) else .int .i64 0
theorem fillK_step (s:Mst) (a k:Nat) (j:Nat):(if j=k then Value.int .i64 (ky s a (k+1)) else fillK s a k j)=fillK s a (k+1) j:=by
 unfold fillK
 by_cases e:j=k
 ·subst e;simp
 ·simp only [e,if_false]
  have:j < k↔j < k+1:=by omega
  simp only [this]
def keysL (s:Mst) (a d:Nat):List Int:=(List.range (d - 1)).map (fun j=>ky s a (j+1))
theorem keysL_len (s:Mst) (a d:Nat):(keysL s a d).length=d - 1:=by simp [keysL]
theorem keysL_get {s:Mst} {a d j:Nat} (h:j < d - 1):(keysL s a d)[j]? = some (ky s a (j+1)):=by
 unfold keysL
 rw [List.getElem?_map,List.getElem?_range h]
 rfl
theorem reads_keys {W:World} {q d a:Nat} {s:Mst} (h:W.rowIs q 2 (d - 1) (fillK s a (d - 1))):Reads W (some ⟨q,0,none⟩) (keysL s a d):=by
 refine .inr ⟨q,0,rfl,fun j z hz=>?_⟩
 have hj:j < d - 1:=by
  have:=(List.getElem?_eq_some_iff.1 hz).1
  rwa [keysL_len] at this
 rw [keysL_get hj] at hz
 cases hz
 rw [Nat.zero_add,h.cell hj,fillK,if_pos hj]
def innerT (s:Mst) (t:Tk) (a:Nat):Option Tk:=if s.look a < 2 then none else takeO (s.xs.length+1) t a (2 * (s.look a).toNat+4)
def KeysPost (w0 W:World) (b:Nat) (s:Mst) (c g a:Nat) (r:Option Tk) (e:Ending) (W':World):Prop:=
 ∃ t',Td (fun i=>i=g) W W'∧Chk w0 W' b s c g t'∧((r=none∧e=.returned (.tuple #[.slice none 0 0,.bool false]))∨
  (r=some t'∧∃ d q:Nat,s.look a=(d:Int)∧2≤d∧d≤40000∧a+2 * d+4≤s.xs.length+1∧w0.heap.size≤q∧q≠g∧q≠c∧W'.rowIs q 2 (d - 1) (fillK s a (d - 1))∧e=.returned (.tuple #[.slice (some ⟨q,0,none⟩) (d - 1) (d - 1),.bool true])))
set_option maxRecDepth 20000 in
theorem keys_p (w0 W:World) (b:Nat) (s:Mst) (c g:Nat) (t:Tk) (C:Chk w0 W b s c g t) (a:Nat) (h1:1≤a) (h2:a≤65536) (r:Option Tk) (e1:innerT s t a=r) :
  Calls Tryz.prog 200 #[.pointer (some ⟨c,0,none⟩),.int .i64 (a:Int)] W (KeysPost w0 W b s c g a r):=by
 have c0:=C.c0
 have HL:=gh C.ok.2
 have H:=gh C
 obtain ⟨D,hD⟩:∃ D,s.look a=D:=⟨_,rfl⟩
 have HD:=gh hD
 have hI:=C.ok.look a
 rw [hD] at hI
 obtain ⟨hI1,hI2⟩:=hI
 by_cases hd2:D < 2
 ·have HR:Hid (r=none):=gh (by rw [← e1,innerT,hD,if_pos hd2])
  clear C e1 hD hI1 hI2
  go_enter Tryz.func200,Tryz.ntmps200
  go_wp2_with (fail)
  refine (lk_p _ b s a D H.out.mem HD.out).mono ?_
  rintro e w' ⟨rfl,rfl⟩
  go_wp2
  go_ret2
  exact ⟨t,Td.refl _ _,H.out,.inl ⟨HR.out,rfl⟩⟩
 ·have hr:r=takeO (s.xs.length+1) t a (2 * D.toNat+4):=by rw [← e1,innerT,hD,if_neg hd2]
  obtain ⟨d,rfl⟩:∃ d:Nat,D=(d:Int):=⟨D.toNat,by omega⟩
  have hdn:((d:Int)).toNat=d:=by omega
  rw [hdn] at hr
  have hd2':¬ ((d:Int) < 2):=hd2
  by_cases hfit:a+2 * d+4≤s.xs.length+1
  ·have hN:=HL.out
   have dS:d≤40000:=by omega
   have hcz:=gh (childZ_in (n:=a) (d:=d) (i:=d) (by omega) (by omega) (by omega) (by omega) (by omega) (by omega))
   have HF:=gh hfit
   have HR:=gh hr.symm
   have i5:(a:Int)+4+d+d - a=((2 * d+4:Nat):Int):=by omega
   clear C e1 hD hI1 hI2 hd2 hfit hr hdn hN
   cases hT:takeO (s.xs.length+1) t a (2 * d+4) with
   | none=>
    have HT:=gh hT
    clear hT
    go_enter Tryz.func200,Tryz.ntmps200
    go_wp2_with (fail)
    refine (lk_p _ b s a d H.out.mem HD.out).mono ?_
    rintro e w' ⟨rfl,rfl⟩
    go_wp2_with (fail)
    refine (child_c _ a d d _ hcz.out).mono ?_
    rintro e w' ⟨rfl,rfl⟩
    go_wp2_with (fail)
    refine (take_p w0 _ b s c g t H.out a (2 * d+4) h1 (by omega) (by omega) none HT.out).mono ?_
    rintro e w' ⟨rfl,hT',t',C',_⟩
    have H':=gh C'
    have TT:=gh hT'
    clear C' hT' H c0
    go_wp2
    go_ret2
    exact ⟨t',TT.out,H'.out,.inl ⟨by rw [← HR.out,HT.out],rfl⟩⟩
   | some t1=>
    have HT:=gh hT
    clear hT
    go_enter Tryz.func200,Tryz.ntmps200
    go_wp2_with (fail)
    refine (lk_p _ b s a d H.out.mem HD.out).mono ?_
    rintro e w' ⟨rfl,rfl⟩
    go_wp2_with (fail)
    refine (child_c _ a d d _ hcz.out).mono ?_
    rintro e w' ⟨rfl,rfl⟩
    go_wp2_with (fail)
    refine (take_p w0 _ b s c g t H.out a (2 * d+4) h1 (by omega) (by omega) (some t1) HT.out).mono ?_
    rintro e W1 ⟨rfl,hT',t',C',ht'⟩
    have:=ht' _ rfl
    subst this
    have H':=gh C'
    have TT:=gh hT'
    have hq1:=Nat.le_trans H'.out.hg (Nat.le_of_lt H'.out.row.lt)
    have hq2:=H'.out.row.lt
    have hq3:c < W1.heap.size:=by
     have:=H'.out.box
     by_cases hh:c < W1.heap.size
     ·exact hh
     ·rw [Array.getElem?_eq_none (by omega)] at this;cases this
    have Q1:=gh hq1
    have Q2:=gh hq2
    have Q3:=gh hq3
    clear C' hT' H c0 ht' hq1 hq2 hq3
    have hmk:=run_make39 (d - 1) (by omega)
    have M0:=gh (World.rowIs_made W1 (.int .i64 0) (d - 1) 2)
    have HA:=gh (H'.out.on (Kept.alloc (Kept.refl _) (.cells (madeCells #[.int .i64 0] (d - 1)) 2)))
    have TA:=gh (Kept.behind TT.out (Kept.alloc (Kept.refl _) (.cells (madeCells #[.int .i64 0] (d - 1)) 2)))
    have L1:=gh (TT.out.size)
    obtain ⟨q,hq⟩:∃ q,W1.heap.size=q:=⟨_,rfl⟩
    have MM:Hid ((W1.alloc (.cells (madeCells #[.int .i64 0] (d - 1)) 2)).rowIs q 2 (d - 1) (fillK s a 0)):=gh (by
     rw [← hq]
     exact M0.out.congr (fun j _=>by simp [fillK]))
    have QW:Hid (W1.heap.size=q):=gh hq
    rw [hq] at Q1 Q2 Q3 L1
    have hm0:(d - 1:Nat)≤40000:=by omega
    obtain ⟨m,hm⟩:∃ m,d - 1=m:=⟨_,rfl⟩
    have HM:=gh hm
    have i6:(d:Int) - 1=(m:Int):=by omega
    rw [hm] at hmk MM HA TA hm0
    clear M0 hm H'
    go_wp2
    go_loopw [35] (fun v wr=>∃ k:Nat,k≤m∧v=.int .i64 (k:Int)∧Hid (wr.rowIs q 2 m (fillK s a k))∧Hid (Chk w0 wr b s c g t')∧Hid (Td (fun i=>i=g) W wr)) (fun v _=>m - (intOf v).toNat)
    case atStart=>exact ⟨0,by omega,by simp,MM,HA,TA⟩
    case round=>
     obtain ⟨k,hk,rfl,HK,HC,HTR⟩:=hrel
     by_cases hkn:k < m
     ·have j1:(k:Int) < (m:Int):=by omega
      obtain ⟨V,hV⟩:∃ V,wr.drew=V:=⟨_,rfl⟩
      have HCV:Hid (Chk w0 V b s c g t'):=gh (by rw [← hV];exact HC.out.on (Kept.drew wr))
      have HKV:Hid (V.rowIs q 2 m (fillK s a k)):=gh (by rw [← hV];exact HK.out)
      have HV:=gh hV
      have hkz:=gh (keyZ_in (n:=a) (i:=(k:Int)+1) (by omega) (by omega) (by omega) (by omega))
      obtain ⟨z,hz⟩:∃ z,s.look ((a:Int)+4+((k:Int)+1))=z:=⟨_,rfl⟩
      have HZ:=gh hz
      have b3:=HKV.out.frozen k
      have b4:=HKV.out.cell hkn
      have G1:Hid ((V.setCell ⟨q,k,none⟩ (.int .i64 z)).rowIs q 2 m (fillK s a (k+1))):=gh ((HKV.out.set k (.int .i64 z)).congr (fun j _=>by
       rw [← fillK_step,← hz]
       have:ky s a (k+1)=s.look ((a:Int)+4+((k:Int)+1)):=by unfold ky;rfl
       rw [this]))
      have G2:Hid (Chk w0 (V.setCell ⟨q,k,none⟩ (.int .i64 z)) b s c g t'):=gh (by
       have T:Td (fun i=>i=q) V (V.setCell ⟨q,k,none⟩ (.int .i64 z)):=Td.setCell V ⟨q,k,none⟩ (.int .i64 z) rfl
       have C:=HCV.out
       exact ⟨C.mem0,C.ok,C.kept.did Q1.out T,C.hc,C.hg,C.ne,T.heap C.box (by have:=Q3.out;omega),C.row.of_block (T.block g C.row.lt (by have:=Q2.out;omega))⟩)
      have x0:∀ y:Wd (fun U=>U=V∨U=V.setCell ⟨q,k,none⟩ (.int .i64 z)),y.w.cell? ⟨c,0,none⟩=some (.pointer (some ⟨b,0,none⟩)):=fun y=>by
       rcases y.ok with e | e
       ·rw [e];exact HCV.out.c0
       ·rw [e];exact G2.out.c0
      have G3:Hid (Td (fun i=>i=g) W (V.setCell ⟨q,k,none⟩ (.int .i64 z))):=gh (by
       have T:Td (fun i=>i=q) V (V.setCell ⟨q,k,none⟩ (.int .i64 z)):=Td.setCell V ⟨q,k,none⟩ (.int .i64 z) rfl
       rw [← hV] at T ⊢
       exact (Kept.behind HTR.out (Kept.drew wr)).trans T (fun _ e=>e) (fun i hi e=>absurd hi (by have:=L1.out;omega)))
      clear hz HK HC HTR
      go_wp2_with (fail)
      refine region_wide [0,1,2,3,4,5,6,7,8,9,10,11,12] (fun U=>U=V∨U=V.setCell ⟨q,k,none⟩ (.int .i64 z)) (by kernel_rfl) (by kernel_rfl) (.inl HV.out) (fun _=>?_)
      clear hV
      rw [HV.out]
      repeat (refine pq rfl rfl ?_;go_big_quiet_step (fail);refine wpQuiet_nil ?_)
      refine pl rfl rfl ?_
      gi_wp2_with (fail)
      refine ⟨trivial,?_⟩
      refine (callsIn_wide.2 (key_c _ a ((k:Int)+1) _ hkz.out)).mono ?_
      rintro e U ⟨rfl,rfl⟩
      gi_wp2_with (fail)
      refine ⟨Wd.mem (.inl rfl),?_⟩
      refine pl rfl rfl ?_
      gi_wp2_with (fail)
      refine ⟨trivial,?_⟩
      refine (callsIn_wide.2 (lk_p _ b s _ z HCV.out.mem HZ.out)).mono ?_
      rintro e U ⟨rfl,rfl⟩
      gi_wp2_with (fail)
      refine ⟨Wd.mem (.inl rfl),?_⟩
      refine pq rfl rfl ?_
      go_big_quiet_step (fail)
      refine wpQuiet_nil ?_
      refine pl rfl rfl ?_
      gi_wp2
      refine ⟨Wd.mem (.inr rfl),?_⟩
      refine perm_done ?_
      go_wp2
      exact ⟨⟨k+1,by omega,by simp,G1,G2,G3⟩,by simp [intOf];omega⟩
     ·have hkn':k=m:=by omega
      subst hkn'
      have j1:¬ ((k:Int) < (k:Int)):=by omega
      go_wp2
      go_ret2
      have HR2:r=some t':=by rw [← HR.out,HT.out]
      refine ⟨t',HTR.out,HC.out,.inr ⟨HR2,d,q,HD.out,by omega,by omega,HF.out,Q1.out,by have:=Q2.out;omega,by have:=Q3.out;omega,?_,?_⟩⟩
      ·rw [HM.out];exact HK.out
      ·rw [HM.out];rfl
  ·have hr':r=none:=by
    rw [hr];unfold takeO
    rw [if_neg]
    intro hh
    simp only [Bool.and_eq_true,decide_eq_true_eq] at hh
    omega
   obtain ⟨n',hn'⟩:∃ n',childZ a d d=n':=⟨_,rfl⟩
   have hn2:n'=0∨(n'=a+4+d+d∧(d:Int)≤1099511627776):=by
    rw [← hn'];unfold childZ;split
    ·rename_i hh
     simp only [Bool.and_eq_true,nearB_iff] at hh
     exact .inr ⟨rfl,by omega⟩
    ·exact .inl rfl
   have HC:=gh hn'
   have HR:=gh hr'
   have i1:-100000≤n' - a:=by omega
   have i2:n' - a≤5000000000000:=by omega
   have i3:¬ (1≤n' - a∧a+(n' - a)≤(s.xs.length:Int)+1):=by omega
   have J1:=gh i1
   have J2:=gh i2
   have J3:=gh i3
   clear C e1 hD hI1 hI2 hd2 hfit hr hdn hr' hn' hn2 i3
   go_enter Tryz.func200,Tryz.ntmps200
   go_wp2_with (fail)
   refine (lk_p _ b s a d H.out.mem HD.out).mono ?_
   rintro e w' ⟨rfl,rfl⟩
   go_wp2_with (fail)
   refine (child_c _ a d d _ HC.out).mono ?_
   rintro e w' ⟨rfl,rfl⟩
   go_wp2_with (fail)
   refine (take0_p w0 _ b s c g t H.out a (n' - a) (by omega) (by omega) J1.out J2.out J3.out).mono ?_
   rintro e w' ⟨rfl,hT',t',C',_⟩
   have H':=gh C'
   have TT:=gh hT'
   clear C' hT' H c0
   go_wp2
   go_ret2
   exact ⟨t',TT.out,H'.out,.inl ⟨HR.out,rfl⟩⟩
end
section
def WordC (f:Nat):Prop:=∀ (w0 W:World) (b:Nat) (s:Mst) (c g:Nat) (t:Tk) (_:Chk w0 W b s c g t) (x lo hi:Int) (_:I64 x) (_:I64 lo) (_:I64 hi) (_:freeN (s.xs.length+1) t < f) (r:Option Tk) (_:sndW s f x lo hi t=r),
  Calls Tryz.prog 125 #[.pointer (some ⟨c,0,none⟩),.int .i64 x,.int .i64 lo,.int .i64 hi] W (SndPost w0 W b s c g r)
def SlotC (f:Nat):Prop:=∀ (w0 W:World) (b:Nat) (s:Mst) (c g:Nat) (t:Tk) (_:Chk w0 W b s c g t) (x lo hi:Int) (_:I64 lo) (_:I64 hi) (_:freeN (s.xs.length+1) t < f) (r:Option Tk) (_:sndSlot s (sndW s f) x lo hi t=r),
  Calls Tryz.prog 84 #[.pointer (some ⟨c,0,none⟩),.int .i64 x,.int .i64 lo,.int .i64 hi] W (SndPost w0 W b s c g r)
theorem slot_of_word (f:Nat) (hW:WordC f):SlotC f:=by
 intro w0 W b s c g t C x lo hi hlo hhi hf r e1
 have c0:=C.c0
 have H:=gh C
 obtain ⟨z,hz⟩:∃ z,s.look x=z:=⟨_,rfl⟩
 obtain ⟨k,hk⟩:∃ k,kd z=k:=⟨_,rfl⟩
 obtain ⟨p,hp⟩:∃ p,ad z=p:=⟨_,rfl⟩
 obtain ⟨l,hl⟩:∃ l,s.logicZ x=l:=⟨_,rfl⟩
 have hzb:=C.ok.look x
 rw [hz] at hzb
 have hlb:=C.ok.logic x
 rw [hl] at hlb
 have kr:=ad_range z
 rw [hp] at kr
 have HZ:=gh hz
 have HK:=gh hk
 have HP:=gh hp
 have HL:=gh hl
 have HZB:=gh hzb
 have HLB:=gh hlb
 have HLO:=gh hlo
 have HHI:=gh hhi
 have HFU:=gh hf
 have KR:=gh kr
 have HO:=gh C.ok
 by_cases hk5:k=5
 ·cases hd:(decide (p+4≤(s.xs.length:Int)) && (s.look (p+1) == x)) with
  | false=>
   have HR:Hid (r=none):=gh (by
    rw [← e1,sndSlot,dcssB,hz,hk,hp,hd,hk5];rfl)
   have HD:=gh hd
   subst hk5
   clear C hz hk hp hl hzb hlb hlo hhi hf kr e1 hd
   go_enter Tryz.func84,Tryz.ntmps84
   go_wp2_with (fail)
   refine (lk_p _ b s x z H.out.mem HZ.out).mono ?_
   rintro e w' ⟨rfl,rfl⟩
   go_wp2_with (fail)
   refine (kk_p _ z 5 HZB.out HK.out).mono ?_
   rintro e w' ⟨rfl,rfl⟩
   go_wp2_with (fail)
   refine (ak_p _ z p HZB.out HP.out).mono ?_
   rintro e w' ⟨rfl,rfl⟩
   go_wp2_with (fail)
   refine (dcss_p w0 _ b s c g t H.out p x false KR.out.1 (by have:=KR.out.2;omega) HD.out).mono ?_
   rintro e w' ⟨rfl,rfl⟩
   go_wp2
   go_ret
   exact ⟨by rw [HR.out];rfl,Td.refl _ _,t,H.out,fun u h=>by rw [HR.out] at h;cases h⟩
  | true=>
   have HR:Hid (sndW s f l lo hi t=r):=gh (by
    rw [← e1,sndSlot,dcssB,hz,hk,hp,hd,hk5,hl];rfl)
   have HD:=gh hd
   subst hk5
   clear C hz hk hp hl hzb hlb hlo hhi hf kr e1 hd
   go_enter Tryz.func84,Tryz.ntmps84
   go_wp2_with (fail)
   refine (lk_p _ b s x z H.out.mem HZ.out).mono ?_
   rintro e w' ⟨rfl,rfl⟩
   go_wp2_with (fail)
   refine (kk_p _ z 5 HZB.out HK.out).mono ?_
   rintro e w' ⟨rfl,rfl⟩
   go_wp2_with (fail)
   refine (ak_p _ z p HZB.out HP.out).mono ?_
   rintro e w' ⟨rfl,rfl⟩
   go_wp2_with (fail)
   refine (dcss_p w0 _ b s c g t H.out p x true KR.out.1 (by have:=KR.out.2;omega) HD.out).mono ?_
   rintro e w' ⟨rfl,rfl⟩
   go_wp2_with (fail)
   refine (logic_p _ b s x l H.out.mem HO.out HL.out).mono ?_
   rintro e w' ⟨rfl,rfl⟩
   go_wp2_with (fail)
   refine (hW w0 _ b s c g t H.out l lo hi HLB.out HLO.out HHI.out HFU.out r HR.out).mono ?_
   rintro e w' ⟨rfl,hT,hC⟩
   have HC:=gh hC
   have HT:=gh hT
   clear hC hT H c0
   go_wp2
   go_ret
   exact ⟨rfl,HT.out,HC.out⟩
 ·have HR:Hid (sndW s f l lo hi t=r):=gh (by
   have:(k == 5)=false:=by simp [hk5]
   rw [← e1,sndSlot,dcssB,hz,hk,this,hl];rfl)
  have g1:(k == 5)=false:=by simp [hk5]
  have g2:(k != 5)=true:=by simp [hk5]
  clear C hz hk hp hl hzb hlb hlo hhi hf kr e1 hk5
  go_enter Tryz.func84,Tryz.ntmps84
  go_wp2_with (fail)
  refine (lk_p _ b s x z H.out.mem HZ.out).mono ?_
  rintro e w' ⟨rfl,rfl⟩
  go_wp2_with (fail)
  refine (kk_p _ z k HZB.out HK.out).mono ?_
  rintro e w' ⟨rfl,rfl⟩
  go_wp2_with (fail)
  refine (logic_p _ b s x l H.out.mem HO.out HL.out).mono ?_
  rintro e w' ⟨rfl,rfl⟩
  go_wp2_with (fail)
  refine (hW w0 _ b s c g t H.out l lo hi HLB.out HLO.out HHI.out HFU.out r HR.out).mono ?_
  rintro e w' ⟨rfl,hT,hC⟩
  have HC:=gh hC
  have HT:=gh hT
  clear hC hT H c0
  go_wp2
  go_ret
  exact ⟨rfl,HT.out,HC.out⟩
theorem right_k (W:World) (q M:Nat) (L:List Int) (hM:L.length=M) (hm:M≤100000) (hr:Reads W (some ⟨q,0,none⟩) L) (r:Bool) (e1:Pb.upB L=r) :
  Calls Tryz.prog 201 #[.slice (some ⟨q,0,none⟩) M M] W fun e W'=>e=.returned (.bool r)∧Kept W W':=by
 subst hM e1
 refine (Pb.right_c W (some ⟨q,0,none⟩) L L.length hr (Nat.le_refl _) (by unfold maxLen;omega)).mono ?_
 rintro e W' ⟨rfl,m,rfl⟩
 exact ⟨rfl,Kept.drewN _ _⟩
theorem keysB_iff {s:Mst} {a d:Nat} {lo hi:Int}:keysB s a d lo hi=true↔∀ i,i < d - 1→lowZ s a lo i < ky s a (i+1)∧ky s a (i+1)≤hi:=by
 unfold keysB
 rw [List.all_eq_true]
 constructor
 ·intro h i hi'
  have:=h i (by simpa using hi')
  simpa using this
 ·intro h i hi'
  have:=h i (by simpa using hi')
  simpa using this
theorem keysB_up {s:Mst} {a d:Nat} {lo hi:Int} (hd:d≤60000) (h:keysB s a d lo hi=true):Pb.upB (keysL s a d)=true:=by
 refine Pb.up_true (by rw [keysL_len];omega) ?_
 have hk:=keysB_iff.1 h
 have key:∀ i j,i < j→j < d - 1→ky s a (i+1) < ky s a (j+1):=by
  intro i j hij
  induction j with
  | zero=>omega
  | succ j ih=>
   intro hj
   have h1:=(hk (j+1) hj).1
   rw [lowZ,if_neg (by omega)] at h1
   by_cases e:i=j
   ·subst e;exact h1
   ·exact Int.lt_trans (ih (by omega) (by omega)) h1
 rw [List.pairwise_iff_getElem]
 intro i j hi hj hij
 rw [keysL_len] at hi hj
 simp only [keysL,List.getElem_map,List.getElem_range]
 exact key i j hij hj
theorem keysB_of {s:Mst} {a d:Nat} {lo hi:Int} (hd:2≤d) (hu:Pb.upB (keysL s a d)=true) (h0:lo < ky s a 1) (h1:ky s a (d - 1)≤hi):keysB s a d lo hi=true:=by
 have hp:(keysL s a d).Pairwise (· < ·):=(of_decide_eq_true hu).2
 apply keysB_iff.2
 intro i hi'
 have up:∀ i j,i < j→j < d - 1→ky s a (i+1) < ky s a (j+1):=fun i j hij hj=>
  Pb.up_lt hp (keysL_get (by omega)) (keysL_get hj) hij
 constructor
 ·unfold lowZ
  split
  ·rename_i e;subst e;exact h0
  ·rename_i e
   have:=up (i - 1) i (by omega) hi'
   rwa [Nat.sub_add_cancel (by omega)] at this
 ·by_cases e:i=d - 2
  ·subst e
   have:d - 2+1=d - 1:=by omega
   rwa [this]
  ·have:=up i (d - 2) (by omega) (by omega)
   rw [show d - 2+1=d - 1 by omega] at this
   omega
set_option maxHeartbeats 2000000 in
set_option maxRecDepth 20000 in
theorem inner_of_slot (f:Nat) (hS:SlotC f) (w0 W:World) (b:Nat) (s:Mst) (c g:Nat) (t:Tk) (C:Chk w0 W b s c g t) (a:Nat) (lo hi:Int) (h1:1≤a) (h2:a≤65536) (hlo:I64 lo) (hhi:I64 hi) (hf:freeN (s.xs.length+1) t < f+1) (r:Option Tk) (e1:sndInner s (sndW s f) a lo hi t=r) :
  Calls Tryz.prog 166 #[.pointer (some ⟨c,0,none⟩),.int .i64 (a:Int),.int .i64 lo,.int .i64 hi] W (SndPost w0 W b s c g r):=by
 have H:=gh C
 have HO:=gh C.ok
 have HLO:=gh hlo
 have HHI:=gh hhi
 have HSL:=gh hS
 have HTT:Hid (∀ W',Chk w0 W' b s c g t→True):=gh (fun _ _=>trivial)
 have e2:r=(innerT s t a).bind fun t1=>if (keysB s a (s.look a).toNat lo hi && shutB s a)=true then chain (kidG s (sndW s f) a (s.look a).toNat lo hi) (s.look a).toNat t1 else none:=by
  rw [← e1,sndInner,innerT]
  by_cases h:s.look a < 2
  ·rw [if_pos h,if_pos h];rfl
  ·rw [if_neg h,if_neg h]
 cases hT:innerT s t a with
 | none=>
  have HT:=gh hT
  have HR:Hid (r=none):=gh (by rw [e2,hT];rfl)
  have HKC:=gh (keys_p w0 W b s c g t C a h1 h2 none hT)
  clear C hS hlo hhi hf e1 e2 hT
  go_enter Tryz.func166,Tryz.ntmps166
  go_wp2_with (fail)
  refine HKC.out.mono ?_
  rintro e W1 ⟨t',hT1,C1,h | h⟩
  ·obtain ⟨_,rfl⟩:=h
   have H1:=gh C1
   have HT1:=gh hT1
   clear C1 H HKC hT1
   go_wp2
   go_ret
   exact ⟨by rw [HR.out];rfl,HT1.out,t',H1.out,fun u h=>by rw [HR.out] at h;cases h⟩
  ·exact absurd h.1 (by simp)
 | some t1=>
  have HT:=gh hT
  have hfr:freeN (s.xs.length+1) t1 < freeN (s.xs.length+1) t:=by
   unfold innerT at hT
   split at hT
   ·cases hT
   ·exact takeO_free hT
  have HFR:Hid (freeN (s.xs.length+1) t1 < f):=gh (by omega)
  have E2:=gh e2
  have HKC:=gh (keys_p w0 W b s c g t C a h1 h2 (some t1) hT)
  clear C hS hlo hhi hf e1 e2 hT hfr
  refine Exists.elim (show ∃ R,R=r from ⟨r,rfl⟩) (fun R hR=>?_)
  subst hR
  go_enter Tryz.func166,Tryz.ntmps166
  go_wp2_with (fail)
  refine HKC.out.mono ?_
  rintro e W1 ⟨t',hT1,C1,h | h⟩
  ·exact absurd h.1 (by simp)
  obtain ⟨h0,d,q,hd,hd2,hd4,hfit,hq0,hqg,hqc,hq,rfl⟩:=h
  cases h0
  have HT1:=gh hT1
  have H1:=gh C1
  have hdn:(s.look a).toNat=d:=by omega
  have E3:=E2.out
  rw [HT.out,hdn] at E3
  have E4:Hid (R=if (keysB s a d lo hi && shutB s a)=true then chain (kidG s (sndW s f) a d lo hi) d t1 else none):=gh E3
  have HQ0:=gh hq0
  have HQG:=gh hqg
  have HQC:=gh hqc
  have HQ:=gh hq
  have HD:=gh hd
  have hfa:(a:Int)≤65536:=by omega
  obtain ⟨M,hM⟩:∃ M,d - 1=M:=⟨_,rfl⟩
  have dM:d=M+1:=by omega
  subst dM
  have hM1:1≤M:=by omega
  have hM2:M≤40000:=by omega
  have hMM:M+1 - 1=M:=by omega
  rw [hMM] at HQ
  rw [hMM]
  obtain ⟨L,hL⟩:∃ L,keysL s a (M+1)=L:=⟨_,rfl⟩
  have HLL:Hid (L.length=M):=gh (by rw [← hL,keysL_len];omega)
  have HRD:Hid (Reads W1 (some ⟨q,0,none⟩) L):=gh (by rw [← hL];exact reads_keys (by rw [hMM];exact HQ.out))
  have HL:=gh hL
  obtain ⟨k1,hk1⟩:∃ k1,ky s a 1=k1:=⟨_,rfl⟩
  obtain ⟨kM,hkM⟩:∃ kM,ky s a M=kM:=⟨_,rfl⟩
  have HK1:=gh hk1
  have HKM:=gh hkM
  clear hT1 C1 hdn E3 hq0 hqg hqc hq hd hfit HKC H hM hMM hL hk1 hkM hd2 hd4 HT E2
  cases hu:Pb.upB L with
  | false=>
   have HU:=gh hu
   have HR:Hid (R=none):=gh (by
    rw [E4.out,if_neg]
    intro hh
    simp only [Bool.and_eq_true] at hh
    have:=keysB_up (by omega) hh.1
    rw [HL.out,hu] at this
    cases this)
   clear hu
   go_wp2_with (fail)
   refine (right_k _ q M L HLL.out (by omega) HRD.out false HU.out).mono ?_
   rintro e W2 ⟨rfl,hk⟩
   have HK2:=gh hk
   have H2:=gh (H1.out.on hk)
   have HQ2:Hid (W2.rowIs q 2 M (fillK s a M)):=gh (HQ.out.of_block (hk.block q HQ.out.lt (fun e=>e)))
   have T2:Hid (Td (fun i=>i=g) W W2):=gh (Kept.behind HT1.out hk)
   clear hk
   go_wp2
   go_ret
   exact ⟨by rw [HR.out];rfl,T2.out,t1,H2.out,fun u h=>by rw [HR.out] at h;cases h⟩
  | true=>
   have HU:=gh hu
   clear hu
   by_cases hk1:k1≤lo
   ·have HR:Hid (R=none):=gh (by
     rw [E4.out,if_neg]
     intro hh
     simp only [Bool.and_eq_true] at hh
     have:=(keysB_iff.1 hh.1 0 (by omega)).1
     rw [lowZ,if_pos rfl,HK1.out] at this
     omega)
    go_wp2_with (fail)
    refine (right_k _ q M L HLL.out (by omega) HRD.out true HU.out).mono ?_
    rintro e W2 ⟨rfl,hk⟩
    have HK2:=gh hk
    have H2:=gh (H1.out.on hk)
    have HQ2:Hid (W2.rowIs q 2 M (fillK s a M)):=gh (HQ.out.of_block (hk.block q HQ.out.lt (fun e=>e)))
    have T2:Hid (Td (fun i=>i=g) W W2):=gh (Kept.behind HT1.out hk)
    clear hk
    have q1:W2.cell? ⟨q,0,none⟩=some (.int .i64 k1):=by
     rw [HQ2.out.cell (by omega),fillK,if_pos (by omega),← HK1.out]
    have q2:W2.cell? ⟨q,M - 1,none⟩=some (.int .i64 kM):=by
     rw [HQ2.out.cell (by omega),fillK,if_pos (by omega),← HKM.out,Nat.sub_add_cancel (by omega)]
    have q3:((M:Int) - 1).toNat=M - 1:=by omega
    have q4:(M:Int) - 1 < (M:Int):=by omega
    have q5:(0:Int) < (M:Int):=by omega
    have q6:=H2.out.c0
    go_wp2
    go_ret
    exact ⟨by rw [HR.out];rfl,T2.out,t1,H2.out,fun u h=>by rw [HR.out] at h;cases h⟩
   ·by_cases hk2:hi < kM
    ·have HR:Hid (R=none):=gh (by
      rw [E4.out,if_neg]
      intro hh
      simp only [Bool.and_eq_true] at hh
      have:=(keysB_iff.1 hh.1 (M - 1) (by omega)).2
      rw [Nat.sub_add_cancel (by omega),HKM.out] at this
      omega)
     go_wp2_with (fail)
     refine (right_k _ q M L HLL.out (by omega) HRD.out true HU.out).mono ?_
     rintro e W2 ⟨rfl,hk⟩
     have HK2:=gh hk
     have H2:=gh (H1.out.on hk)
     have HQ2:Hid (W2.rowIs q 2 M (fillK s a M)):=gh (HQ.out.of_block (hk.block q HQ.out.lt (fun e=>e)))
     have T2:Hid (Td (fun i=>i=g) W W2):=gh (Kept.behind HT1.out hk)
     clear hk
     have q1:W2.cell? ⟨q,0,none⟩=some (.int .i64 k1):=by
      rw [HQ2.out.cell (by omega),fillK,if_pos (by omega),← HK1.out]
     have q2:W2.cell? ⟨q,M - 1,none⟩=some (.int .i64 kM):=by
      rw [HQ2.out.cell (by omega),fillK,if_pos (by omega),← HKM.out,Nat.sub_add_cancel (by omega)]
     have q3:((M:Int) - 1).toNat=M - 1:=by omega
     have q4:(M:Int) - 1 < (M:Int):=by omega
     have q5:(0:Int) < (M:Int):=by omega
     have q6:=H2.out.c0
     go_wp2
     go_ret
     exact ⟨by rw [HR.out];rfl,T2.out,t1,H2.out,fun u h=>by rw [HR.out] at h;cases h⟩
    ·have KB:Hid (keysB s a (M+1) lo hi=true):=gh (keysB_of (by omega) (by rw [HL.out];exact HU.out) (by rw [HK1.out];omega) (by rw [show M+1 - 1=M by omega,HKM.out];omega))
     obtain ⟨z,hz⟩:∃ z,s.look ((a:Int)+2)=z:=⟨_,rfl⟩
     have HZ:=gh hz
     clear hz
     have hk1':lo < k1:=by omega
     have hk2':kM≤hi:=by omega
     clear hk1 hk2
     by_cases hz01:z=0∨z=1
     ·have SB:Hid (shutB s a=true):=gh (by unfold shutB;rw [HZ.out];rcases hz01 with e | e <;> subst e <;> rfl)
      have E5:Hid (R=chain (kidG s (sndW s f) a (M+1) lo hi) (M+1) t1):=gh (by rw [E4.out,KB.out,SB.out];rfl)
      have START:Hid (chain (kidG s (sndW s f) a (M+1) lo hi) 0 t1=some t1):=gh rfl
      clear SB E4
      rcases hz01 with hz0 | hz0
      ·subst hz0
       go_wp2_with (fail)
       refine (right_k _ q M L HLL.out (by omega) HRD.out true HU.out).mono ?_
       rintro e W2 ⟨rfl,hk⟩
       have HK2:=gh hk
       have H2:=gh (H1.out.on hk)
       have HQ2:Hid (W2.rowIs q 2 M (fillK s a M)):=gh (HQ.out.of_block (hk.block q HQ.out.lt (fun e=>e)))
       have T2:Hid (Td (fun i=>i=g) W W2):=gh (Kept.behind HT1.out hk)
       clear hk
       have q1:W2.cell? ⟨q,0,none⟩=some (.int .i64 k1):=by
        rw [HQ2.out.cell (by omega),fillK,if_pos (by omega),← HK1.out]
       have q2:W2.cell? ⟨q,M - 1,none⟩=some (.int .i64 kM):=by
        rw [HQ2.out.cell (by omega),fillK,if_pos (by omega),← HKM.out,Nat.sub_add_cancel (by omega)]
       have q3:((M:Int) - 1).toNat=M - 1:=by omega
       have q4:(M:Int) - 1 < (M:Int):=by omega
       have q5:(0:Int) < (M:Int):=by omega
       have q6:=H2.out.c0
       go_wp2_with (fail)
       refine (lk_p _ b s ((a:Int)+2) 0 H2.out.mem HZ.out).mono ?_
       rintro e w' ⟨rfl,rfl⟩
       clear q1 q2 q3 q4 q5 q6
       go_wp2
       go_loopw [63] (fun v wr=>∃ (k:Nat) (tk:Tk),k≤M+1∧v=.int .i64 (k:Int)∧Hid (chain (kidG s (sndW s f) a (M+1) lo hi) k t1=some tk)∧Hid (Chk w0 wr b s c g tk)∧Hid (wr.rowIs q 2 M (fillK s a M))∧Hid (Td (fun i=>i=g) W wr)) (fun v _=>M+1 - (intOf v).toNat)
       case atStart=>exact ⟨0,t1,by omega,by simp,START,H2,HQ2,T2⟩
       case round=>
        obtain ⟨k,tk,hk,rfl,HCH,HC,HW,HTW⟩:=hrel
        by_cases hkn:k < M+1
        ·have j1:(k:Int) < (M:Int)+1:=by omega
         have HFK:Hid (freeN (s.xs.length+1) tk < f):=gh (Nat.lt_of_le_of_lt (chain_free (sndW_free s f) HCH.out) HFR.out)
         have hcz:=gh (childZ_in (n:=a) (d:=(M:Int)+1) (i:=k) (by omega) (by omega) (by omega) (by omega) (by omega) (by omega))
         obtain ⟨u,hu⟩:∃ u,kidG s (sndW s f) a (M+1) lo hi k tk=u:=⟨_,rfl⟩
         have HUU:=gh hu
         have HNX:Hid (chain (kidG s (sndW s f) a (M+1) lo hi) (k+1) t1=u):=gh (by rw [chain,HCH.out];exact hu)
         clear hu HCH
         by_cases hk0:k=0
         ·by_cases hkM:k < M
          ·obtain ⟨kh,hkh⟩:∃ kh,ky s a (k+1)=kh:=⟨_,rfl⟩
           have r1:wr.cell? ⟨q,k,none⟩=some (.int .i64 kh):=by
            rw [HW.out.cell (by omega),fillK,if_pos (by omega),← hkh]
           have r2:(k:Int) < (M:Int):=by omega
           have bh1:I64 kh:=by rw [← hkh];exact HO.out.look _
           have bh2:lo < kh:=by
            have h1:=keysB_iff.1 KB.out
            have:∀ j,j < M→lo < ky s a (j+1):=by
             intro j
             induction j with
             | zero=>intro hj;have:=(h1 0 (by omega)).1;rwa [lowZ,if_pos rfl] at this
             | succ j ih=>
              intro hj
              have h2:=(h1 (j+1) (by omega)).1
              rw [lowZ,if_neg (by omega)] at h2
              have:=ih (by omega)
              omega
            have:=this k (by omega)
            rwa [hkh] at this
           have bl:=HLO.out
           have bh3:-9223372036854775808≤kh - 1:=by have:=bl.1;omega
           have bh4:kh - 1≤9223372036854775807:=by have:=bh1.2;omega
           have BH:Hid (I64 (kh - 1)):=gh ⟨bh3,bh4⟩
           have HU2:Hid (sndSlot s (sndW s f) ((a:Int)+4+((M:Int)+1)+k) lo (kh - 1) tk=u):=gh (by
            rw [← HUU.out];unfold kidG childS lowZ highZ
            rw [if_pos hk0,if_pos (by omega),hkh]
            rfl)
           subst hk0
           clear HUU hkh bh1 bl bh2
           go_wp2_with (fail)
           refine (child_c _ a ((M:Int)+1) 0 _ hcz.out).mono ?_
           rintro e w' ⟨rfl,rfl⟩
           go_wp2_with (fail)
           refine (HSL.out w0 _ b s c g tk HC.out _ lo (kh - 1) HLO.out BH.out HFK.out u HU2.out).mono ?_
           rintro e W4 ⟨rfl,hT4,t4,C4,ht4⟩
           have H4:=gh C4
           have T4:Hid (Td (fun i=>i=g) W W4):=gh (HTW.out.trans hT4 (fun _ e=>e) (fun _ _ e=>e))
           have Q4:Hid (W4.rowIs q 2 M (fillK s a M)):=gh (HW.out.of_block (hT4.block q HW.out.lt HQG.out))
           cases u with
           | none=>
            have HR:Hid (R=none):=gh (by rw [E5.out];exact chain_none HNX.out (by omega))
            clear hT4 C4 ht4 HC HW HTW r1
            go_wp2
            go_ret
            exact ⟨by rw [HR.out];rfl,T4.out,t4,H4.out,fun u h=>by rw [HR.out] at h;cases h⟩
           | some u=>
            have:=ht4 u rfl
            subst this
            clear hT4 C4 ht4 HC HW HTW r1
            go_wp2
            exact ⟨⟨1,_,by omega,by simp,HNX,H4,Q4,T4⟩,by simp [intOf]⟩
          ·omega
         ·by_cases hkM:k < M
          ·obtain ⟨kl,hkl⟩:∃ kl,ky s a k=kl:=⟨_,rfl⟩
           have p1:wr.cell? ⟨q,k - 1,none⟩=some (.int .i64 kl):=by
            rw [HW.out.cell (by omega),fillK,if_pos (by omega),← hkl,Nat.sub_add_cancel (by omega)]
           have p2:((k:Int) - 1).toNat=k - 1:=by omega
           have p3:(0:Int) < (k:Int):=by omega
           have p4:(k:Int) - 1 < (M:Int):=by omega
           have BL:Hid (I64 kl):=gh (by rw [← hkl];exact HO.out.look _)
           obtain ⟨kh,hkh⟩:∃ kh,ky s a (k+1)=kh:=⟨_,rfl⟩
           have r1:wr.cell? ⟨q,k,none⟩=some (.int .i64 kh):=by
            rw [HW.out.cell (by omega),fillK,if_pos (by omega),← hkh]
           have r2:(k:Int) < (M:Int):=by omega
           have bh1:I64 kh:=by rw [← hkh];exact HO.out.look _
           have bh2:lo < kh:=by
            have h1:=keysB_iff.1 KB.out
            have:∀ j,j < M→lo < ky s a (j+1):=by
             intro j
             induction j with
             | zero=>intro hj;have:=(h1 0 (by omega)).1;rwa [lowZ,if_pos rfl] at this
             | succ j ih=>
              intro hj
              have h2:=(h1 (j+1) (by omega)).1
              rw [lowZ,if_neg (by omega)] at h2
              have:=ih (by omega)
              omega
            have:=this k (by omega)
            rwa [hkh] at this
           have bl:=HLO.out
           have bh3:-9223372036854775808≤kh - 1:=by have:=bl.1;omega
           have bh4:kh - 1≤9223372036854775807:=by have:=bh1.2;omega
           have BH:Hid (I64 (kh - 1)):=gh ⟨bh3,bh4⟩
           have HU2:Hid (sndSlot s (sndW s f) ((a:Int)+4+((M:Int)+1)+k) kl (kh - 1) tk=u):=gh (by
            rw [← HUU.out];unfold kidG childS lowZ highZ
            rw [if_neg hk0,hkl,if_pos (by omega),hkh]
            rfl)
           clear HUU hkl hkh bh1 bl bh2
           go_wp2_with (fail)
           refine (child_c _ a ((M:Int)+1) k _ hcz.out).mono ?_
           rintro e w' ⟨rfl,rfl⟩
           go_wp2_with (fail)
           refine (HSL.out w0 _ b s c g tk HC.out _ kl (kh - 1) BL.out BH.out HFK.out u HU2.out).mono ?_
           rintro e W4 ⟨rfl,hT4,t4,C4,ht4⟩
           have H4:=gh C4
           have T4:Hid (Td (fun i=>i=g) W W4):=gh (HTW.out.trans hT4 (fun _ e=>e) (fun _ _ e=>e))
           have Q4:Hid (W4.rowIs q 2 M (fillK s a M)):=gh (HW.out.of_block (hT4.block q HW.out.lt HQG.out))
           cases u with
           | none=>
            have HR:Hid (R=none):=gh (by rw [E5.out];exact chain_none HNX.out (by omega))
            clear hT4 C4 ht4 HC HW HTW p1 r1
            go_wp2
            go_ret
            exact ⟨by rw [HR.out];rfl,T4.out,t4,H4.out,fun u h=>by rw [HR.out] at h;cases h⟩
           | some u=>
            have:=ht4 u rfl
            subst this
            clear hT4 C4 ht4 HC HW HTW p1 r1
            go_wp2
            exact ⟨⟨k+1,_,by omega,by simp,HNX,H4,Q4,T4⟩,by simp [intOf];omega⟩
          ·obtain ⟨kl,hkl⟩:∃ kl,ky s a k=kl:=⟨_,rfl⟩
           have p1:wr.cell? ⟨q,k - 1,none⟩=some (.int .i64 kl):=by
            rw [HW.out.cell (by omega),fillK,if_pos (by omega),← hkl,Nat.sub_add_cancel (by omega)]
           have p2:((k:Int) - 1).toNat=k - 1:=by omega
           have p3:(0:Int) < (k:Int):=by omega
           have p4:(k:Int) - 1 < (M:Int):=by omega
           have BL:Hid (I64 kl):=gh (by rw [← hkl];exact HO.out.look _)
           have r2:¬ ((k:Int) < (M:Int)):=by omega
           have HU2:Hid (sndSlot s (sndW s f) ((a:Int)+4+((M:Int)+1)+k) kl hi tk=u):=gh (by
            rw [← HUU.out];unfold kidG childS lowZ highZ
            rw [if_neg hk0,hkl,if_neg (by omega)]
            rfl)
           clear HUU hkl
           go_wp2_with (fail)
           refine (child_c _ a ((M:Int)+1) k _ hcz.out).mono ?_
           rintro e w' ⟨rfl,rfl⟩
           go_wp2_with (fail)
           refine (HSL.out w0 _ b s c g tk HC.out _ kl hi BL.out HHI.out HFK.out u HU2.out).mono ?_
           rintro e W4 ⟨rfl,hT4,t4,C4,ht4⟩
           have H4:=gh C4
           have T4:Hid (Td (fun i=>i=g) W W4):=gh (HTW.out.trans hT4 (fun _ e=>e) (fun _ _ e=>e))
           have Q4:Hid (W4.rowIs q 2 M (fillK s a M)):=gh (HW.out.of_block (hT4.block q HW.out.lt HQG.out))
           cases u with
           | none=>
            have HR:Hid (R=none):=gh (by rw [E5.out];exact chain_none HNX.out (by omega))
            clear hT4 C4 ht4 HC HW HTW p1
            go_wp2
            go_ret
            exact ⟨by rw [HR.out];rfl,T4.out,t4,H4.out,fun u h=>by rw [HR.out] at h;cases h⟩
           | some u=>
            have:=ht4 u rfl
            subst this
            clear hT4 C4 ht4 HC HW HTW p1
            go_wp2
            exact ⟨⟨k+1,_,by omega,by simp,HNX,H4,Q4,T4⟩,by simp [intOf];omega⟩
        ·have hkn':k=M+1:=by omega
         subst hkn'
         have j1:¬ (((M+1:Nat):Int) < (M:Int)+1):=by omega
         have HR:Hid (R=some tk):=gh (by rw [E5.out];exact HCH.out)
         clear HCH
         go_wp2
         go_ret
         exact ⟨by rw [HR.out];rfl,HTW.out,tk,HC.out,fun u h=>by rw [HR.out] at h;cases h;rfl⟩
      ·subst hz0
       go_wp2_with (fail)
       refine (right_k _ q M L HLL.out (by omega) HRD.out true HU.out).mono ?_
       rintro e W2 ⟨rfl,hk⟩
       have HK2:=gh hk
       have H2:=gh (H1.out.on hk)
       have HQ2:Hid (W2.rowIs q 2 M (fillK s a M)):=gh (HQ.out.of_block (hk.block q HQ.out.lt (fun e=>e)))
       have T2:Hid (Td (fun i=>i=g) W W2):=gh (Kept.behind HT1.out hk)
       clear hk
       have q1:W2.cell? ⟨q,0,none⟩=some (.int .i64 k1):=by
        rw [HQ2.out.cell (by omega),fillK,if_pos (by omega),← HK1.out]
       have q2:W2.cell? ⟨q,M - 1,none⟩=some (.int .i64 kM):=by
        rw [HQ2.out.cell (by omega),fillK,if_pos (by omega),← HKM.out,Nat.sub_add_cancel (by omega)]
       have q3:((M:Int) - 1).toNat=M - 1:=by omega
       have q4:(M:Int) - 1 < (M:Int):=by omega
       have q5:(0:Int) < (M:Int):=by omega
       have q6:=H2.out.c0
       go_wp2_with (fail)
       refine (lk_p _ b s ((a:Int)+2) 1 H2.out.mem HZ.out).mono ?_
       rintro e w' ⟨rfl,rfl⟩
       clear q1 q2 q3 q4 q5 q6
       go_wp2
       go_loopw [63] (fun v wr=>∃ (k:Nat) (tk:Tk),k≤M+1∧v=.int .i64 (k:Int)∧Hid (chain (kidG s (sndW s f) a (M+1) lo hi) k t1=some tk)∧Hid (Chk w0 wr b s c g tk)∧Hid (wr.rowIs q 2 M (fillK s a M))∧Hid (Td (fun i=>i=g) W wr)) (fun v _=>M+1 - (intOf v).toNat)
       case atStart=>exact ⟨0,t1,by omega,by simp,START,H2,HQ2,T2⟩
       case round=>
        obtain ⟨k,tk,hk,rfl,HCH,HC,HW,HTW⟩:=hrel
        by_cases hkn:k < M+1
        ·have j1:(k:Int) < (M:Int)+1:=by omega
         have HFK:Hid (freeN (s.xs.length+1) tk < f):=gh (Nat.lt_of_le_of_lt (chain_free (sndW_free s f) HCH.out) HFR.out)
         have hcz:=gh (childZ_in (n:=a) (d:=(M:Int)+1) (i:=k) (by omega) (by omega) (by omega) (by omega) (by omega) (by omega))
         obtain ⟨u,hu⟩:∃ u,kidG s (sndW s f) a (M+1) lo hi k tk=u:=⟨_,rfl⟩
         have HUU:=gh hu
         have HNX:Hid (chain (kidG s (sndW s f) a (M+1) lo hi) (k+1) t1=u):=gh (by rw [chain,HCH.out];exact hu)
         clear hu HCH
         by_cases hk0:k=0
         ·by_cases hkM:k < M
          ·obtain ⟨kh,hkh⟩:∃ kh,ky s a (k+1)=kh:=⟨_,rfl⟩
           have r1:wr.cell? ⟨q,k,none⟩=some (.int .i64 kh):=by
            rw [HW.out.cell (by omega),fillK,if_pos (by omega),← hkh]
           have r2:(k:Int) < (M:Int):=by omega
           have bh1:I64 kh:=by rw [← hkh];exact HO.out.look _
           have bh2:lo < kh:=by
            have h1:=keysB_iff.1 KB.out
            have:∀ j,j < M→lo < ky s a (j+1):=by
             intro j
             induction j with
             | zero=>intro hj;have:=(h1 0 (by omega)).1;rwa [lowZ,if_pos rfl] at this
             | succ j ih=>
              intro hj
              have h2:=(h1 (j+1) (by omega)).1
              rw [lowZ,if_neg (by omega)] at h2
              have:=ih (by omega)
              omega
            have:=this k (by omega)
            rwa [hkh] at this
           have bl:=HLO.out
           have bh3:-9223372036854775808≤kh - 1:=by have:=bl.1;omega
           have bh4:kh - 1≤9223372036854775807:=by have:=bh1.2;omega
           have BH:Hid (I64 (kh - 1)):=gh ⟨bh3,bh4⟩
           have HU2:Hid (sndSlot s (sndW s f) ((a:Int)+4+((M:Int)+1)+k) lo (kh - 1) tk=u):=gh (by
            rw [← HUU.out];unfold kidG childS lowZ highZ
            rw [if_pos hk0,if_pos (by omega),hkh]
            rfl)
           subst hk0
           clear HUU hkh bh1 bl bh2
           go_wp2_with (fail)
           refine (child_c _ a ((M:Int)+1) 0 _ hcz.out).mono ?_
           rintro e w' ⟨rfl,rfl⟩
           go_wp2_with (fail)
           refine (HSL.out w0 _ b s c g tk HC.out _ lo (kh - 1) HLO.out BH.out HFK.out u HU2.out).mono ?_
           rintro e W4 ⟨rfl,hT4,t4,C4,ht4⟩
           have H4:=gh C4
           have T4:Hid (Td (fun i=>i=g) W W4):=gh (HTW.out.trans hT4 (fun _ e=>e) (fun _ _ e=>e))
           have Q4:Hid (W4.rowIs q 2 M (fillK s a M)):=gh (HW.out.of_block (hT4.block q HW.out.lt HQG.out))
           cases u with
           | none=>
            have HR:Hid (R=none):=gh (by rw [E5.out];exact chain_none HNX.out (by omega))
            clear hT4 C4 ht4 HC HW HTW r1
            go_wp2
            go_ret
            exact ⟨by rw [HR.out];rfl,T4.out,t4,H4.out,fun u h=>by rw [HR.out] at h;cases h⟩
           | some u=>
            have:=ht4 u rfl
            subst this
            clear hT4 C4 ht4 HC HW HTW r1
            go_wp2
            exact ⟨⟨1,_,by omega,by simp,HNX,H4,Q4,T4⟩,by simp [intOf]⟩
          ·omega
         ·by_cases hkM:k < M
          ·obtain ⟨kl,hkl⟩:∃ kl,ky s a k=kl:=⟨_,rfl⟩
           have p1:wr.cell? ⟨q,k - 1,none⟩=some (.int .i64 kl):=by
            rw [HW.out.cell (by omega),fillK,if_pos (by omega),← hkl,Nat.sub_add_cancel (by omega)]
           have p2:((k:Int) - 1).toNat=k - 1:=by omega
           have p3:(0:Int) < (k:Int):=by omega
           have p4:(k:Int) - 1 < (M:Int):=by omega
           have BL:Hid (I64 kl):=gh (by rw [← hkl];exact HO.out.look _)
           obtain ⟨kh,hkh⟩:∃ kh,ky s a (k+1)=kh:=⟨_,rfl⟩
           have r1:wr.cell? ⟨q,k,none⟩=some (.int .i64 kh):=by
            rw [HW.out.cell (by omega),fillK,if_pos (by omega),← hkh]
           have r2:(k:Int) < (M:Int):=by omega
           have bh1:I64 kh:=by rw [← hkh];exact HO.out.look _
           have bh2:lo < kh:=by
            have h1:=keysB_iff.1 KB.out
            have:∀ j,j < M→lo < ky s a (j+1):=by
             intro j
             induction j with
             | zero=>intro hj;have:=(h1 0 (by omega)).1;rwa [lowZ,if_pos rfl] at this
             | succ j ih=>
              intro hj
              have h2:=(h1 (j+1) (by omega)).1
              rw [lowZ,if_neg (by omega)] at h2
              have:=ih (by omega)
              omega
            have:=this k (by omega)
            rwa [hkh] at this
           have bl:=HLO.out
           have bh3:-9223372036854775808≤kh - 1:=by have:=bl.1;omega
           have bh4:kh - 1≤9223372036854775807:=by have:=bh1.2;omega
           have BH:Hid (I64 (kh - 1)):=gh ⟨bh3,bh4⟩
           have HU2:Hid (sndSlot s (sndW s f) ((a:Int)+4+((M:Int)+1)+k) kl (kh - 1) tk=u):=gh (by
            rw [← HUU.out];unfold kidG childS lowZ highZ
            rw [if_neg hk0,hkl,if_pos (by omega),hkh]
            rfl)
           clear HUU hkl hkh bh1 bl bh2
           go_wp2_with (fail)
           refine (child_c _ a ((M:Int)+1) k _ hcz.out).mono ?_
           rintro e w' ⟨rfl,rfl⟩
           go_wp2_with (fail)
           refine (HSL.out w0 _ b s c g tk HC.out _ kl (kh - 1) BL.out BH.out HFK.out u HU2.out).mono ?_
           rintro e W4 ⟨rfl,hT4,t4,C4,ht4⟩
           have H4:=gh C4
           have T4:Hid (Td (fun i=>i=g) W W4):=gh (HTW.out.trans hT4 (fun _ e=>e) (fun _ _ e=>e))
           have Q4:Hid (W4.rowIs q 2 M (fillK s a M)):=gh (HW.out.of_block (hT4.block q HW.out.lt HQG.out))
           cases u with
           | none=>
            have HR:Hid (R=none):=gh (by rw [E5.out];exact chain_none HNX.out (by omega))
            clear hT4 C4 ht4 HC HW HTW p1 r1
            go_wp2
            go_ret
            exact ⟨by rw [HR.out];rfl,T4.out,t4,H4.out,fun u h=>by rw [HR.out] at h;cases h⟩
           | some u=>
            have:=ht4 u rfl
            subst this
            clear hT4 C4 ht4 HC HW HTW p1 r1
            go_wp2
            exact ⟨⟨k+1,_,by omega,by simp,HNX,H4,Q4,T4⟩,by simp [intOf];omega⟩
          ·obtain ⟨kl,hkl⟩:∃ kl,ky s a k=kl:=⟨_,rfl⟩
           have p1:wr.cell? ⟨q,k - 1,none⟩=some (.int .i64 kl):=by
            rw [HW.out.cell (by omega),fillK,if_pos (by omega),← hkl,Nat.sub_add_cancel (by omega)]
           have p2:((k:Int) - 1).toNat=k - 1:=by omega
           have p3:(0:Int) < (k:Int):=by omega
           have p4:(k:Int) - 1 < (M:Int):=by omega
           have BL:Hid (I64 kl):=gh (by rw [← hkl];exact HO.out.look _)
           have r2:¬ ((k:Int) < (M:Int)):=by omega
           have HU2:Hid (sndSlot s (sndW s f) ((a:Int)+4+((M:Int)+1)+k) kl hi tk=u):=gh (by
            rw [← HUU.out];unfold kidG childS lowZ highZ
            rw [if_neg hk0,hkl,if_neg (by omega)]
            rfl)
           clear HUU hkl
           go_wp2_with (fail)
           refine (child_c _ a ((M:Int)+1) k _ hcz.out).mono ?_
           rintro e w' ⟨rfl,rfl⟩
           go_wp2_with (fail)
           refine (HSL.out w0 _ b s c g tk HC.out _ kl hi BL.out HHI.out HFK.out u HU2.out).mono ?_
           rintro e W4 ⟨rfl,hT4,t4,C4,ht4⟩
           have H4:=gh C4
           have T4:Hid (Td (fun i=>i=g) W W4):=gh (HTW.out.trans hT4 (fun _ e=>e) (fun _ _ e=>e))
           have Q4:Hid (W4.rowIs q 2 M (fillK s a M)):=gh (HW.out.of_block (hT4.block q HW.out.lt HQG.out))
           cases u with
           | none=>
            have HR:Hid (R=none):=gh (by rw [E5.out];exact chain_none HNX.out (by omega))
            clear hT4 C4 ht4 HC HW HTW p1
            go_wp2
            go_ret
            exact ⟨by rw [HR.out];rfl,T4.out,t4,H4.out,fun u h=>by rw [HR.out] at h;cases h⟩
           | some u=>
            have:=ht4 u rfl
            subst this
            clear hT4 C4 ht4 HC HW HTW p1
            go_wp2
            exact ⟨⟨k+1,_,by omega,by simp,HNX,H4,Q4,T4⟩,by simp [intOf];omega⟩
        ·have hkn':k=M+1:=by omega
         subst hkn'
         have j1:¬ (((M+1:Nat):Int) < (M:Int)+1):=by omega
         have HR:Hid (R=some tk):=gh (by rw [E5.out];exact HCH.out)
         clear HCH
         go_wp2
         go_ret
         exact ⟨by rw [HR.out];rfl,HTW.out,tk,HC.out,fun u h=>by rw [HR.out] at h;cases h;rfl⟩
     ·have SB:Hid (shutB s a=false):=gh (by unfold shutB;rw [HZ.out];simp;omega)
      have HR:Hid (R=none):=gh (by rw [E4.out,KB.out,SB.out];rfl)
      have g1:(z == 0)=false:=by simp;omega
      have g2:(z != 0)=true:=by simp;omega
      have g3:(z == 1)=false:=by simp;omega
      have g4:(z != 1)=true:=by simp;omega
      clear hz01 SB E4
      go_wp2_with (fail)
      refine (right_k _ q M L HLL.out (by omega) HRD.out true HU.out).mono ?_
      rintro e W2 ⟨rfl,hk⟩
      have HK2:=gh hk
      have H2:=gh (H1.out.on hk)
      have HQ2:Hid (W2.rowIs q 2 M (fillK s a M)):=gh (HQ.out.of_block (hk.block q HQ.out.lt (fun e=>e)))
      have T2:Hid (Td (fun i=>i=g) W W2):=gh (Kept.behind HT1.out hk)
      clear hk
      have q1:W2.cell? ⟨q,0,none⟩=some (.int .i64 k1):=by
       rw [HQ2.out.cell (by omega),fillK,if_pos (by omega),← HK1.out]
      have q2:W2.cell? ⟨q,M - 1,none⟩=some (.int .i64 kM):=by
       rw [HQ2.out.cell (by omega),fillK,if_pos (by omega),← HKM.out,Nat.sub_add_cancel (by omega)]
      have q3:((M:Int) - 1).toNat=M - 1:=by omega
      have q4:(M:Int) - 1 < (M:Int):=by omega
      have q5:(0:Int) < (M:Int):=by omega
      have q6:=H2.out.c0
      go_wp2_with (fail)
      refine (lk_p _ b s ((a:Int)+2) z H2.out.mem HZ.out).mono ?_
      rintro e w' ⟨rfl,rfl⟩
      go_wp2
      go_ret
      exact ⟨by rw [HR.out];rfl,T2.out,t1,H2.out,fun u h=>by rw [HR.out] at h;cases h⟩
end
section
theorem sndW_succ (s:Mst) (f:Nat) (w lo hi:Int) (t:Tk):sndW s (f+1) w lo hi t =
  if kd w=1 then takeO (s.xs.length+1) t (ad w).toNat 1
  else if kd w=2 then (if lo≤s.look (ad w)∧s.look (ad w)≤hi then takeO (s.xs.length+1) t (ad w).toNat 2 else none)
  else if kd w=3 then sndInner s (sndW s f) (ad w).toNat lo hi t
  else if kd w=4 then (if kd (s.look (ad w))=3 then (takeO (s.xs.length+1) t (ad w).toNat 5).bind fun t1=>sndW s f (s.look (ad w)) lo hi t1 else none)
  else none:=rfl
set_option maxHeartbeats 1000000 in
set_option maxRecDepth 20000 in
theorem word_p:∀ f,WordC f
 | 0=>fun w0 W b s c g t C x lo hi hx hlo hhi hf r e1=>absurd hf (by omega)
 | f+1=>by
  have ih:=word_p f
  have hS:=slot_of_word f ih
  intro w0 W b s c g t C x lo hi hx hlo hhi hf r e1
  have c0:=C.c0
  have H:=gh C
  have HX:=gh hx
  have HLO:=gh hlo
  have HHI:=gh hhi
  have HF:=gh hf
  have IH:=gh ih
  have HS:=gh hS
  obtain ⟨k,hk⟩:∃ k,kd x=k:=⟨_,rfl⟩
  obtain ⟨p,hp⟩:∃ p,ad x=p:=⟨_,rfl⟩
  have kr:=ad_range x
  rw [hp] at kr
  have HK:=gh hk
  obtain ⟨a,rfl⟩:∃ a:Nat,p=(a:Int):=⟨p.toNat,by omega⟩
  have HP:=gh hp
  have hap:k≠0→1≤a:=fun h=>by
   have:=ad_pos (w:=x) (by rw [hk];exact h)
   rw [hp] at this;omega
  have HA:=gh hap
  have a1:(a:Int)≤65536:=kr.2
  have haN:(ad x).toNat=a:=by rw [hp];omega
  obtain ⟨z,hz⟩:∃ z,s.look (a:Int)=z:=⟨_,rfl⟩
  have HZ:=gh hz
  have HZB:Hid (I64 z):=gh (by rw [← hz];exact C.ok.look _)
  have e2:r=if k=1 then takeO (s.xs.length+1) t a 1
   else if k=2 then (if lo≤z∧z≤hi then takeO (s.xs.length+1) t a 2 else none)
   else if k=3 then sndInner s (sndW s f) a lo hi t
   else if k=4 then (if kd z=3 then (takeO (s.xs.length+1) t a 5).bind fun t1=>sndW s f z lo hi t1 else none)
   else none:=by
   rw [← e1,sndW_succ,hk,hp,hz,Int.toNat_natCast]
  have hkr:=kd_range x
  rw [hk] at hkr
  have E2:=gh e2
  by_cases k1:k=1
  ·have HR:Hid (takeO (s.xs.length+1) t a 1=r):=gh (by rw [E2.out,if_pos k1])
   have ha:=hap (by omega)
   subst k1
   clear C hx hlo hhi hf ih hS hk hp kr hap haN hz e1 e2 E2 hkr
   go_enter Tryz.func125,Tryz.ntmps125
   go_wp2_with (fail)
   refine (ak_p _ x a HX.out HP.out).mono ?_
   rintro e w' ⟨rfl,rfl⟩
   go_wp2_with (fail)
   refine (kk_p _ x 1 HX.out HK.out).mono ?_
   rintro e w' ⟨rfl,rfl⟩
   go_wp2_with (fail)
   refine (take_p w0 _ b s c g t H.out a 1 ha (by omega) (by omega) r HR.out).mono ?_
   rintro e w' ⟨rfl,hT,hC⟩
   have HC:=gh hC
   have HT:=gh hT
   clear hC hT H c0
   go_wp2
   go_ret
   exact ⟨rfl,HT.out,HC.out⟩
  by_cases k2:k=2
  ·have ha:=hap (by omega)
   have e3:r=if lo≤z∧z≤hi then takeO (s.xs.length+1) t a 2 else none:=by rw [E2.out,if_neg k1,if_pos k2]
   obtain ⟨u,hu⟩:∃ u,takeO (s.xs.length+1) t a 2=u:=⟨_,rfl⟩
   have HU:=gh hu
   rw [hu] at e3
   have E3:=gh e3
   subst k2
   clear C hx hlo hhi hf ih hS hk hp kr hap haN hz e1 e2 E2 hkr k1 hu e3
   cases u with
   | none=>
    have HR:Hid (r=none):=gh (by rw [E3.out];split <;> rfl)
    go_enter Tryz.func125,Tryz.ntmps125
    go_wp2_with (fail)
    refine (ak_p _ x a HX.out HP.out).mono ?_
    rintro e w' ⟨rfl,rfl⟩
    go_wp2_with (fail)
    refine (kk_p _ x 2 HX.out HK.out).mono ?_
    rintro e w' ⟨rfl,rfl⟩
    go_wp2_with (fail)
    refine (lk_p _ b s a z H.out.mem HZ.out).mono ?_
    rintro e w' ⟨rfl,rfl⟩
    go_wp2_with (fail)
    refine (take_p w0 _ b s c g t H.out a 2 ha (by omega) (by omega) none HU.out).mono ?_
    rintro e w' ⟨rfl,hT,t',hC,_⟩
    have HC:=gh hC
    have HT:=gh hT
    clear hC hT H c0
    go_wp2
    go_ret
    exact ⟨by rw [HR.out];rfl,HT.out,t',HC.out,fun u h=>by rw [HR.out] at h;cases h⟩
   | some u=>
    by_cases hl1:lo≤z
    ·by_cases hl2:z≤hi
     ·have HR:Hid (r=some u):=gh (by rw [E3.out,if_pos ⟨hl1,hl2⟩])
      go_enter Tryz.func125,Tryz.ntmps125
      go_wp2_with (fail)
      refine (ak_p _ x a HX.out HP.out).mono ?_
      rintro e w' ⟨rfl,rfl⟩
      go_wp2_with (fail)
      refine (kk_p _ x 2 HX.out HK.out).mono ?_
      rintro e w' ⟨rfl,rfl⟩
      go_wp2_with (fail)
      refine (lk_p _ b s a z H.out.mem HZ.out).mono ?_
      rintro e w' ⟨rfl,rfl⟩
      go_wp2_with (fail)
      refine (take_p w0 _ b s c g t H.out a 2 ha (by omega) (by omega) (some u) HU.out).mono ?_
      rintro e w' ⟨rfl,hT,t',hC,ht'⟩
      have:=ht' u rfl
      subst this
      have HC:=gh hC
      have HT:=gh hT
      clear hC hT H c0 ht'
      go_wp2
      go_ret
      exact ⟨by rw [HR.out];rfl,HT.out,t',HC.out,fun u h=>by rw [HR.out] at h;cases h;rfl⟩
     ·have HR:Hid (r=none):=gh (by rw [E3.out,if_neg (fun h=>hl2 h.2)])
      have g1:decide (z≤hi)=false:=by simp;omega
      have hl2':hi < z:=by omega
      clear hl2
      go_enter Tryz.func125,Tryz.ntmps125
      go_wp2_with (fail)
      refine (ak_p _ x a HX.out HP.out).mono ?_
      rintro e w' ⟨rfl,rfl⟩
      go_wp2_with (fail)
      refine (kk_p _ x 2 HX.out HK.out).mono ?_
      rintro e w' ⟨rfl,rfl⟩
      go_wp2_with (fail)
      refine (lk_p _ b s a z H.out.mem HZ.out).mono ?_
      rintro e w' ⟨rfl,rfl⟩
      go_wp2_with (fail)
      refine (take_p w0 _ b s c g t H.out a 2 ha (by omega) (by omega) (some u) HU.out).mono ?_
      rintro e w' ⟨rfl,hT,t',hC,_⟩
      have HC:=gh hC
      have HT:=gh hT
      clear hC hT H c0
      go_wp2
      go_ret
      exact ⟨by rw [HR.out];rfl,HT.out,t',HC.out,fun u h=>by rw [HR.out] at h;cases h⟩
    ·have HR:Hid (r=none):=gh (by rw [E3.out,if_neg (fun h=>hl1 h.1)])
     have g1:decide (lo≤z)=false:=by simp;omega
     have hl1':z < lo:=by omega
     clear hl1
     go_enter Tryz.func125,Tryz.ntmps125
     go_wp2_with (fail)
     refine (ak_p _ x a HX.out HP.out).mono ?_
     rintro e w' ⟨rfl,rfl⟩
     go_wp2_with (fail)
     refine (kk_p _ x 2 HX.out HK.out).mono ?_
     rintro e w' ⟨rfl,rfl⟩
     go_wp2_with (fail)
     refine (lk_p _ b s a z H.out.mem HZ.out).mono ?_
     rintro e w' ⟨rfl,rfl⟩
     go_wp2_with (fail)
     refine (take_p w0 _ b s c g t H.out a 2 ha (by omega) (by omega) (some u) HU.out).mono ?_
     rintro e w' ⟨rfl,hT,t',hC,_⟩
     have HC:=gh hC
     have HT:=gh hT
     clear hC hT H c0
     go_wp2
     go_ret
     exact ⟨by rw [HR.out];rfl,HT.out,t',HC.out,fun u h=>by rw [HR.out] at h;cases h⟩
  by_cases k3:k=3
  ·have HR:Hid (sndInner s (sndW s f) a lo hi t=r):=gh (by rw [E2.out,if_neg k1,if_neg k2,if_pos k3])
   have ha:=hap (by omega)
   subst k3
   clear C hx hlo hhi hf ih hS hk hp kr hap haN hz e1 e2 E2 hkr k1 k2
   go_enter Tryz.func125,Tryz.ntmps125
   go_wp2_with (fail)
   refine (ak_p _ x a HX.out HP.out).mono ?_
   rintro e w' ⟨rfl,rfl⟩
   go_wp2_with (fail)
   refine (kk_p _ x 3 HX.out HK.out).mono ?_
   rintro e w' ⟨rfl,rfl⟩
   go_wp2_with (fail)
   refine (inner_of_slot f HS.out w0 _ b s c g t H.out a lo hi ha (by omega) HLO.out HHI.out HF.out r HR.out).mono ?_
   rintro e w' ⟨rfl,hT,hC⟩
   have HC:=gh hC
   have HT:=gh hT
   clear hC hT H c0
   go_wp2
   go_ret
   exact ⟨rfl,HT.out,HC.out⟩
  by_cases k4:k=4
  ·have ha:=hap (by omega)
   have e3:r=if kd z=3 then (takeO (s.xs.length+1) t a 5).bind (fun t1=>sndW s f z lo hi t1) else none:=by rw [E2.out,if_neg k1,if_neg k2,if_neg k3,if_pos k4]
   obtain ⟨u,hu⟩:∃ u,takeO (s.xs.length+1) t a 5=u:=⟨_,rfl⟩
   have HU:=gh hu
   obtain ⟨j,hj⟩:∃ j,kd z=j:=⟨_,rfl⟩
   have HJ:=gh hj
   rw [hu,hj] at e3
   have E3:=gh e3
   subst k4
   clear C hx hlo hhi hf ih hS hk hp kr hap haN hz e1 e2 E2 hkr k1 k2 k3 e3 hj
   cases u with
   | none=>
    have HR:Hid (r=none):=gh (by rw [E3.out];split <;> rfl)
    clear hu
    go_enter Tryz.func125,Tryz.ntmps125
    go_wp2_with (fail)
    refine (ak_p _ x a HX.out HP.out).mono ?_
    rintro e w' ⟨rfl,rfl⟩
    go_wp2_with (fail)
    refine (kk_p _ x 4 HX.out HK.out).mono ?_
    rintro e w' ⟨rfl,rfl⟩
    go_wp2_with (fail)
    refine (lk_p _ b s a z H.out.mem HZ.out).mono ?_
    rintro e w' ⟨rfl,rfl⟩
    go_wp2_with (fail)
    refine (take_p w0 _ b s c g t H.out a 5 ha (by omega) (by omega) none HU.out).mono ?_
    rintro e w' ⟨rfl,hT,t',hC,_⟩
    have HC:=gh hC
    have HT:=gh hT
    clear hC hT H c0
    go_wp2
    go_ret
    exact ⟨by rw [HR.out];rfl,HT.out,t',HC.out,fun u h=>by rw [HR.out] at h;cases h⟩
   | some u=>
    have HFU:Hid (freeN (s.xs.length+1) u < f):=gh (by have:=takeO_free hu;have:=HF.out;omega)
    clear hu
    by_cases j3:j=3
    ·have HR:Hid (sndW s f z lo hi u=r):=gh (by rw [E3.out,if_pos j3];rfl)
     subst j3
     go_enter Tryz.func125,Tryz.ntmps125
     go_wp2_with (fail)
     refine (ak_p _ x a HX.out HP.out).mono ?_
     rintro e w' ⟨rfl,rfl⟩
     go_wp2_with (fail)
     refine (kk_p _ x 4 HX.out HK.out).mono ?_
     rintro e w' ⟨rfl,rfl⟩
     go_wp2_with (fail)
     refine (lk_p _ b s a z H.out.mem HZ.out).mono ?_
     rintro e w' ⟨rfl,rfl⟩
     go_wp2_with (fail)
     refine (take_p w0 _ b s c g t H.out a 5 ha (by omega) (by omega) (some u) HU.out).mono ?_
     rintro e w' ⟨rfl,hT,t',hC,ht'⟩
     have:=ht' u rfl
     subst this
     have HC:=gh hC
     have HT:=gh hT
     clear hC hT H c0 ht'
     go_wp2_with (fail)
     refine (kk_p _ z 3 HZB.out HJ.out).mono ?_
     rintro e w'' ⟨rfl,rfl⟩
     go_wp2_with (fail)
     refine (IH.out w0 _ b s c g _ HC.out z lo hi HZB.out HLO.out HHI.out HFU.out r HR.out).mono ?_
     rintro e w'' ⟨rfl,hT,hC⟩
     have HC2:=gh hC
     have HT2:=gh (HT.out.trans hT (fun _ e=>e) (fun _ _ e=>e))
     clear hC hT HC HT
     go_wp2
     go_ret
     exact ⟨rfl,HT2.out,HC2.out⟩
    ·have HR:Hid (r=none):=gh (by rw [E3.out,if_neg j3])
     have g1:(j == 3)=false:=by simp [j3]
     have g2:(j != 3)=true:=by simp [j3]
     clear j3
     go_enter Tryz.func125,Tryz.ntmps125
     go_wp2_with (fail)
     refine (ak_p _ x a HX.out HP.out).mono ?_
     rintro e w' ⟨rfl,rfl⟩
     go_wp2_with (fail)
     refine (kk_p _ x 4 HX.out HK.out).mono ?_
     rintro e w' ⟨rfl,rfl⟩
     go_wp2_with (fail)
     refine (lk_p _ b s a z H.out.mem HZ.out).mono ?_
     rintro e w' ⟨rfl,rfl⟩
     go_wp2_with (fail)
     refine (take_p w0 _ b s c g t H.out a 5 ha (by omega) (by omega) (some u) HU.out).mono ?_
     rintro e w' ⟨rfl,hT,t',hC,_⟩
     have HC:=gh hC
     have HT:=gh hT
     clear hC hT H c0
     go_wp2_with (fail)
     refine (kk_p _ z j HZB.out HJ.out).mono ?_
     rintro e w'' ⟨rfl,rfl⟩
     go_wp2
     go_ret
     exact ⟨by rw [HR.out];rfl,HT.out,t',HC.out,fun u h=>by rw [HR.out] at h;cases h⟩
  ·have HR:Hid (r=none):=gh (by rw [E2.out,if_neg k1,if_neg k2,if_neg k3,if_neg k4])
   have g1:(k == 1)=false:=by simp [k1]
   have g2:(k == 2)=false:=by simp [k2]
   have g3:(k == 3)=false:=by simp [k3]
   have g4:(k == 4)=false:=by simp [k4]
   clear C hx hlo hhi hf ih hS hk hp kr hap haN hz e1 e2 E2 hkr k1 k2 k3 k4
   go_enter Tryz.func125,Tryz.ntmps125
   go_wp2_with (fail)
   refine (ak_p _ x a HX.out HP.out).mono ?_
   rintro e w' ⟨rfl,rfl⟩
   go_wp2_with (fail)
   refine (kk_p _ x k HX.out HK.out).mono ?_
   rintro e w' ⟨rfl,rfl⟩
   go_wp2
   go_ret
   exact ⟨by rw [HR.out];rfl,Td.refl _ _,t,H.out,fun u h=>by rw [HR.out] at h;cases h⟩
end
section
structure DCk (w0 W:World) (b:Nat) (s:Mst) (g:Nat) (t:Tk):Prop where
 mem0:DM w0 b s
 ok:s.ok
 kept:Kept w0 W
 hg:w0.heap.size≤g
 row:W.rowIs g 4 (s.xs.length+1) (fun j=>.bool (t j))
namespace DCk
variable {w0 W W':World} {b g:Nat} {s:Mst} {t t':Tk}
theorem mem (h:DCk w0 W b s g t):DM W b s:=h.mem0.kept h.kept
theorem on (h:DCk w0 W b s g t) (k:Kept W W'):DCk w0 W' b s g t:=
 ⟨h.mem0,h.ok,h.kept.trans k,h.hg,h.row.of_block (k.block g h.row.lt (fun e=>e))⟩
theorem put (h:DCk w0 W b s g t) (i:Nat) (e:(fun j=>if j=i then true else t j)=t'):DCk w0 (W.setCell ⟨g,i,none⟩ (.bool true)) b s g t':=by
 have T:Td (fun k=>k=g) W (W.setCell ⟨g,i,none⟩ (.bool true)):=Td.setCell W ⟨g,i,none⟩ (.bool true) rfl
 refine ⟨h.mem0,h.ok,h.kept.did h.hg T,h.hg,?_⟩
 refine (h.row.set i (.bool true)).congr (fun j _=>?_)
 rw [← e]
 by_cases e:j=i
 ·simp [e]
 ·simp [e]
theorem cells (h:DM W b s):∃ a cap,W.cell? ⟨b,1,none⟩=some (.slice a s.xs.length cap)∧Reads W a s.xs:=by
 obtain ⟨n₀,v,s0,e,h⟩:=h
 obtain ⟨a,cap,rfl,h2,_,_⟩:=h.form
 rw [← e]
 exact ⟨a,cap,(DMem.opened h).1.1,h2⟩
end DCk
def DPost (w0 W:World) (b:Nat) (s:Mst) (g:Nat) (r:Option Tk) (e:Ending) (W':World):Prop:=
 e=.returned (.bool r.isSome)∧Td (fun i=>i=g) W W'∧∃ t',DCk w0 W' b s g t'∧∀ u,r=some u→t'=u
abbrev metS (s:Mst) (g:Nat):Value:=.slice (some ⟨g,0,none⟩) (s.xs.length+1) (s.xs.length+1)
theorem take_d (w0 W:World) (b:Nat) (s:Mst) (g:Nat) (t:Tk) (C:DCk w0 W b s g t) (a n:Nat) (h1:1≤a) (h2:a≤100000) (h3:1≤n) (h4:n≤500000000) (r:Option Tk) (e1:takeO (s.xs.length+1) t a n=r) :
  Calls Tryz.prog 167 #[.pointer (some ⟨b,0,none⟩),.int .i64 (a:Int),.int .i64 (n:Int),metS s g] W (DPost w0 W b s g r):=by
 obtain ⟨la,lc,c1,_⟩:=DCk.cells C.mem
 have HL:=gh C.ok.2
 have H:=gh C
 obtain ⟨N,hN⟩:∃ N,s.xs.length=N:=⟨_,rfl⟩
 have hN2:N≤65536:=by rw [← hN];exact HL.out
 have HN:=gh hN
 unfold metS
 rw [hN] at c1 ⊢
 by_cases h5:a+n≤N+1
 ·have e2:r=if freeB t a n=true then some (takeT t a n) else none:=by
   rw [← e1,hN];unfold takeO
   have d1:decide (1≤n)=true:=by simp;omega
   have d2:decide (a+n≤N+1)=true:=by simp;omega
   rw [d1,d2];rfl
  have E2:=gh e2
  have HS:Hid (DCk w0 W b s g (takeT t a 0)):=gh (by rw [takeT_zero];exact C)
  have i0:¬ ((N:Int) < (a:Int)+n - 1):=by omega
  have i1:¬ ((a:Int) < 1):=by omega
  clear C e1 e2 hN
  go_enter Tryz.func167,Tryz.ntmps167
  go_wp2
  go_loopw [9] (fun v wr=>∃ k:Nat,k≤n∧v=.int .i64 ((a:Int)+k)∧Hid (freeB t a k=true)∧Hid (DCk w0 wr b s g (takeT t a k))∧Hid (Td (fun i=>i=g) W wr)) (fun v _=>n+a - (intOf v).toNat)
  case atStart=>exact ⟨0,by omega,by simp,gh (freeB_zero t a),HS,gh (Td.refl _ _)⟩
  case round=>
   obtain ⟨k,hk,rfl,HF,HC,HT⟩:=hrel
   by_cases hkn:k < n
   ·have i1:(a:Int)+k < (a:Int)+n:=by omega
    have i2:a+k < N+1:=by omega
    have i3:(a:Int)+k < (N:Int)+1:=by omega
    have b2:=HC.out.row.cell (show a+k < s.xs.length+1 by rw [HN.out];exact i2)
    have b3:=HC.out.row.frozen (a+k)
    simp only [takeT_at] at b2
    have i4:((a:Int)+k).toNat=a+k:=by omega
    by_cases ht:t (a+k)=true
    ·have HR:Hid (r=none):=gh (by
      rw [E2.out,if_neg]
      rw [freeB_false (n:=k+1) (by rw [freeB_succ,HF.out,ht];rfl) (by omega)]
      simp)
     rw [ht] at b2
     clear ht
     go_wp2
     go_ret
     exact ⟨by rw [HR.out];rfl,HT.out,_,HC.out,fun u h=>by rw [HR.out] at h;cases h⟩
    ·have ht':t (a+k)=false:=by simpa using ht
     rw [ht'] at b2
     have G1:Hid (freeB t a (k+1)=true):=gh (by rw [freeB_succ,HF.out,ht'];rfl)
     have G2:=gh (HC.out.put (a+k) (takeT_succ t a k))
     have G3:Hid (Td (fun i=>i=g) W (wr.setCell ⟨g,a+k,none⟩ (.bool true))):=gh (HT.out.trans (Td.setCell (R:=fun i=>i=g) wr ⟨g,a+k,none⟩ (.bool true) rfl) (fun _ e=>e) (fun _ _ e=>e))
     clear ht ht'
     go_wp2
     exact ⟨⟨k+1,by omega,by simp;omega,G1,G2,G3⟩,by simp [intOf];omega⟩
   ·have hkn':k=n:=by omega
    subst hkn'
    have i1:¬ ((a:Int)+k < (a:Int)+k):=by omega
    have HR:Hid (r=some (takeT t a k)):=gh (by rw [E2.out,if_pos HF.out])
    go_wp2
    go_ret
    exact ⟨by rw [HR.out];rfl,HT.out,_,HC.out,fun u h=>by rw [HR.out] at h;cases h;rfl⟩
 ·have HR:Hid (r=none):=gh (by
   rw [← e1,hN];unfold takeO
   rw [if_neg]
   intro hh
   simp only [Bool.and_eq_true,decide_eq_true_eq] at hh
   exact h5 hh.1.2)
  have i0:(N:Int) < (a:Int)+n - 1:=by omega
  have i1:¬ ((a:Int) < 1):=by omega
  clear C e1 hN h5
  go_enter Tryz.func167,Tryz.ntmps167
  go_wp2
  go_ret
  exact ⟨by rw [HR.out];rfl,Td.refl _ _,t,H.out,fun u h=>by rw [HR.out] at h;cases h⟩
def WordD (f:Nat):Prop:=∀ (w0 W:World) (b:Nat) (s:Mst) (g:Nat) (t:Tk) (_:DCk w0 W b s g t) (x lo hi:Int) (_:I64 x) (_:I64 lo) (_:I64 hi) (_:freeN (s.xs.length+1) t < f) (r:Option Tk) (_:sndW s f x lo hi t=r),
  Calls Tryz.prog 126 #[.pointer (some ⟨b,0,none⟩),.int .i64 x,.int .i64 lo,.int .i64 hi,metS s g] W (DPost w0 W b s g r)
def SlotD (f:Nat):Prop:=∀ (w0 W:World) (b:Nat) (s:Mst) (g:Nat) (t:Tk) (_:DCk w0 W b s g t) (x lo hi:Int) (_:I64 lo) (_:I64 hi) (_:freeN (s.xs.length+1) t < f) (r:Option Tk) (_:sndSlot s (sndW s f) x lo hi t=r),
  Calls Tryz.prog 85 #[.pointer (some ⟨b,0,none⟩),.int .i64 x,.int .i64 lo,.int .i64 hi,metS s g] W (DPost w0 W b s g r)
theorem slot_of_word_d (f:Nat) (hW:WordD f):SlotD f:=by
 intro w0 W b s g t C x lo hi hlo hhi hf r e1
 obtain ⟨la,lc,c1,_⟩:=DCk.cells C.mem
 have H:=gh C
 obtain ⟨z,hz⟩:∃ z,s.look x=z:=⟨_,rfl⟩
 obtain ⟨k,hk⟩:∃ k,kd z=k:=⟨_,rfl⟩
 obtain ⟨p,hp⟩:∃ p,ad z=p:=⟨_,rfl⟩
 obtain ⟨l,hl⟩:∃ l,s.logicZ x=l:=⟨_,rfl⟩
 obtain ⟨N,hN⟩:∃ N,s.xs.length=N:=⟨_,rfl⟩
 have hzb:=C.ok.look x
 rw [hz] at hzb
 have hlb:=C.ok.logic x
 rw [hl] at hlb
 have kr:=ad_range z
 rw [hp] at kr
 obtain ⟨p0,p1⟩:=kr
 have hn:N≤65536:=by rw [← hN];exact C.ok.2
 have HZ:=gh hz
 have HK:=gh hk
 have HP:=gh hp
 have HL:=gh hl
 have HN:=gh hN
 have HZB:=gh hzb
 have HLB:=gh hlb
 have HLO:=gh hlo
 have HHI:=gh hhi
 have HFU:=gh hf
 have HO:=gh C.ok
 have HW:=gh hW
 rw [hN] at c1
 have ew:metS s g=.slice (some ⟨g,0,none⟩) (N+1) (N+1):=by unfold metS;rw [hN]
 have EW:=gh ew
 rw [ew]
 have FIN:dcssB s x=true→Hid (sndW s f l lo hi t=r):=fun hd=>gh (by rw [← e1,sndSlot,if_pos hd,hl])
 have NONE:dcssB s x=false→Hid (r=none):=fun hd=>gh (by rw [← e1,sndSlot,hd];rfl)
 by_cases hk5:k=5
 ·obtain ⟨y,hy⟩:∃ y,s.look (p+1)=y:=⟨_,rfl⟩
  have HY:=gh hy
  have ed:dcssB s x=(decide (p+4≤(N:Int)) && (y == x)):=by rw [dcssB,hz,hk,hp,hN,hk5,hy];rfl
  have ED:=gh ed
  by_cases c2:p+4≤(N:Int)
  ·have c2':¬ ((N:Int) < p+4):=by omega
   by_cases c3:y=x
   ·have HR:=FIN (by rw [ed];simp [c2,c3])
    subst c3 hk5
    clear C hz hk hp hl hN hzb hlb hlo hhi hf e1 hy ed ED ew FIN NONE hW
    go_enter Tryz.func85,Tryz.ntmps85
    go_wp2_with (fail)
    refine (lk_d _ b s y z H.out.mem HZ.out).mono ?_
    rintro e w' ⟨rfl,rfl⟩
    go_wp2_with (fail)
    refine (kk_d _ z 5 HZB.out HK.out).mono ?_
    rintro e w' ⟨rfl,rfl⟩
    go_wp2_with (fail)
    refine (ak_d _ z p HZB.out HP.out).mono ?_
    rintro e w' ⟨rfl,rfl⟩
    go_wp2_with (fail)
    refine (lk_d _ b s (p+1) y H.out.mem HY.out).mono ?_
    rintro e w' ⟨rfl,rfl⟩
    go_wp2_with (fail)
    refine (logic_d _ b s y l H.out.mem HO.out HL.out).mono ?_
    rintro e w' ⟨rfl,rfl⟩
    go_wp2_with (fail)
    rw [← EW.out]
    refine (HW.out w0 _ b s g t H.out l lo hi HLB.out HLO.out HHI.out HFU.out r HR.out).mono ?_
    rintro e w' ⟨rfl,hT,hC⟩
    have HC:=gh hC
    have HT:=gh hT
    clear hC hT H c1
    go_wp2
    go_ret
    exact ⟨rfl,HT.out,HC.out⟩
   ·have HR:=NONE (by rw [ed];simp [c3])
    have g1:(y == x)=false:=by simp [c3]
    have g2:(y != x)=true:=by simp [c3]
    subst hk5
    clear C hz hk hp hl hN hzb hlb hlo hhi hf e1 hy ed ED ew FIN NONE hW c3
    go_enter Tryz.func85,Tryz.ntmps85
    go_wp2_with (fail)
    refine (lk_d _ b s x z H.out.mem HZ.out).mono ?_
    rintro e w' ⟨rfl,rfl⟩
    go_wp2_with (fail)
    refine (kk_d _ z 5 HZB.out HK.out).mono ?_
    rintro e w' ⟨rfl,rfl⟩
    go_wp2_with (fail)
    refine (ak_d _ z p HZB.out HP.out).mono ?_
    rintro e w' ⟨rfl,rfl⟩
    go_wp2_with (fail)
    refine (lk_d _ b s (p+1) y H.out.mem HY.out).mono ?_
    rintro e w' ⟨rfl,rfl⟩
    go_wp2
    go_ret
    exact ⟨by rw [HR.out];rfl,Td.refl _ _,t,H.out,fun u h=>by rw [HR.out] at h;cases h⟩
  ·have HR:=NONE (by rw [ed];simp [c2])
   have c2':(N:Int) < p+4:=by omega
   subst hk5
   clear C hz hk hp hl hN hzb hlb hlo hhi hf e1 hy ed ED ew FIN NONE hW c2
   go_enter Tryz.func85,Tryz.ntmps85
   go_wp2_with (fail)
   refine (lk_d _ b s x z H.out.mem HZ.out).mono ?_
   rintro e w' ⟨rfl,rfl⟩
   go_wp2_with (fail)
   refine (kk_d _ z 5 HZB.out HK.out).mono ?_
   rintro e w' ⟨rfl,rfl⟩
   go_wp2_with (fail)
   refine (ak_d _ z p HZB.out HP.out).mono ?_
   rintro e w' ⟨rfl,rfl⟩
   go_wp2
   go_ret
   exact ⟨by rw [HR.out];rfl,Td.refl _ _,t,H.out,fun u h=>by rw [HR.out] at h;cases h⟩
 ·have HR:=FIN (by rw [dcssB,hz,hk];simp [hk5])
  have g1:(k == 5)=false:=by simp [hk5]
  have g2:(k != 5)=true:=by simp [hk5]
  clear C hz hk hp hl hN hzb hlb hlo hhi hf e1 ew FIN NONE hW hk5
  go_enter Tryz.func85,Tryz.ntmps85
  go_wp2_with (fail)
  refine (lk_d _ b s x z H.out.mem HZ.out).mono ?_
  rintro e w' ⟨rfl,rfl⟩
  go_wp2_with (fail)
  refine (kk_d _ z k HZB.out HK.out).mono ?_
  rintro e w' ⟨rfl,rfl⟩
  go_wp2_with (fail)
  refine (logic_d _ b s x l H.out.mem HO.out HL.out).mono ?_
  rintro e w' ⟨rfl,rfl⟩
  go_wp2_with (fail)
  rw [← EW.out]
  refine (HW.out w0 _ b s g t H.out l lo hi HLB.out HLO.out HHI.out HFU.out r HR.out).mono ?_
  rintro e w' ⟨rfl,hT,hC⟩
  have HC:=gh hC
  have HT:=gh hT
  clear hC hT H c1
  go_wp2
  go_ret
  exact ⟨rfl,HT.out,HC.out⟩
end
section
set_option maxHeartbeats 4000000 in
set_option maxRecDepth 20000 in
theorem inner_of_slot_d (f:Nat) (hS:SlotD f) (w0 W:World) (b:Nat) (s:Mst) (g:Nat) (t:Tk) (C:DCk w0 W b s g t) (a:Nat) (lo hi:Int) (h1:1≤a) (h2:a≤65536) (hlo:I64 lo) (hhi:I64 hi) (hf:freeN (s.xs.length+1) t < f+1) (r:Option Tk) (e1:sndInner s (sndW s f) a lo hi t=r) :
  Calls Tryz.prog 168 #[.pointer (some ⟨b,0,none⟩),.int .i64 (a:Int),.int .i64 lo,.int .i64 hi,metS s g] W (DPost w0 W b s g r):=by
 have H:=gh C
 have HO:=gh C.ok
 have HLO:=gh hlo
 have HHI:=gh hhi
 have HSL:=gh hS
 have HF:=gh hf
 obtain ⟨N,hN⟩:∃ N,s.xs.length=N:=⟨_,rfl⟩
 have hn:N≤65536:=by rw [← hN];exact C.ok.2
 have ew:metS s g=.slice (some ⟨g,0,none⟩) (N+1) (N+1):=by unfold metS;rw [hN]
 have EW:=gh ew
 obtain ⟨D,hD⟩:∃ D,s.look a=D:=⟨_,rfl⟩
 have HD:=gh hD
 obtain ⟨z,hz⟩:∃ z,s.look ((a:Int)+2)=z:=⟨_,rfl⟩
 have HZ:=gh hz
 have e2:r=if D < 2 then none else (takeO (N+1) t a (2 * D.toNat+4)).bind fun t1=>if (keysB s a D.toNat lo hi && shutB s a)=true then chain (kidG s (sndW s f) a D.toNat lo hi) D.toNat t1 else none:=by
  rw [← e1,sndInner,hD,hN]
 have E2:=gh e2
 have HN:=gh hN
 have a1:(a:Int)≤65536:=by omega
 rw [ew]
 by_cases d2:D < 2
 ·have HR:Hid (r=none):=gh (by rw [e2,if_pos d2])
  clear C hS hlo hhi hf e1 e2 hN ew hD hz
  go_enter Tryz.func168,Tryz.ntmps168
  go_wp2_with (fail)
  refine (lk_d _ b s a D H.out.mem HD.out).mono ?_
  rintro e w' ⟨rfl,rfl⟩
  go_wp2
  go_ret
  exact ⟨by rw [HR.out];rfl,Td.refl _ _,t,H.out,fun u h=>by rw [HR.out] at h;cases h⟩
 by_cases d3:65536 < D
 ·have HR:Hid (r=none):=gh (by
   rw [e2,if_neg d2,takeO,if_neg]
   ·rfl
   ·intro hh
    simp only [Bool.and_eq_true,decide_eq_true_eq] at hh
    omega)
  clear C hS hlo hhi hf e1 e2 hN ew hD hz
  go_enter Tryz.func168,Tryz.ntmps168
  go_wp2_with (fail)
  refine (lk_d _ b s a D H.out.mem HD.out).mono ?_
  rintro e w' ⟨rfl,rfl⟩
  go_wp2_with (fail)
  refine (lk_d _ b s a D H.out.mem HD.out).mono ?_
  rintro e w' ⟨rfl,rfl⟩
  go_wp2
  go_ret
  exact ⟨by rw [HR.out];rfl,Td.refl _ _,t,H.out,fun u h=>by rw [HR.out] at h;cases h⟩
 obtain ⟨d,rfl⟩:∃ d:Nat,D=(d:Int):=⟨D.toNat,by omega⟩
 have e3:r=(takeO (N+1) t a (2 * d+4)).bind fun t1=>if (keysB s a d lo hi && shutB s a)=true then chain (kidG s (sndW s f) a d lo hi) d t1 else none:=by
  rw [e2,if_neg d2,Int.toNat_natCast]
 have E3:=gh e3
 have d5:(d:Int)≤65536:=by omega
 have d4:(2:Int)≤(d:Int):=by omega
 have i5:((2 * d+4:Nat):Int)=2 * (d:Int)+4:=by omega
 have I5:=gh i5
 cases hT:takeO (N+1) t a (2 * d+4) with
 | none=>
  have HT:Hid (takeO (s.xs.length+1) t a (2 * d+4)=none):=gh (by rw [hN];exact hT)
  have HR:Hid (r=none):=gh (by rw [e3,hT];rfl)
  clear C hS hlo hhi hf e1 e2 e3 hN ew hD hz E2 E3 hT i5
  go_enter Tryz.func168,Tryz.ntmps168
  go_wp2_with (fail)
  refine (lk_d _ b s a d H.out.mem HD.out).mono ?_
  rintro e w' ⟨rfl,rfl⟩
  go_wp2_with (fail)
  refine (lk_d _ b s a d H.out.mem HD.out).mono ?_
  rintro e w' ⟨rfl,rfl⟩
  go_wp2_with (fail)
  refine (lk_d _ b s a d H.out.mem HD.out).mono ?_
  rintro e w' ⟨rfl,rfl⟩
  go_wp2_with (fail)
  rw [← EW.out,← I5.out]
  refine (take_d w0 _ b s g t H.out a (2 * d+4) h1 (by omega) (by omega) (by omega) none HT.out).mono ?_
  rintro e w' ⟨rfl,hT',t',C',_⟩
  have H':=gh C'
  have TT:=gh hT'
  clear C' hT' H
  go_wp2
  go_ret
  exact ⟨by rw [HR.out];rfl,TT.out,t',H'.out,fun u h=>by rw [HR.out] at h;cases h⟩
 | some t1=>
  have HT:Hid (takeO (s.xs.length+1) t a (2 * d+4)=some t1):=gh (by rw [hN];exact hT)
  have HFR:Hid (freeN (s.xs.length+1) t1 < f):=gh (by have:=takeO_free HT.out;have:=HF.out;omega)
  have e4:r=if (keysB s a d lo hi && shutB s a)=true then chain (kidG s (sndW s f) a d lo hi) d t1 else none:=by rw [e3,hT];rfl
  have e5:r=if shutB s a=true then chain (docG s (sndW s f) a d lo hi) d t1 else none:=by
   rw [e4,doc_chain]
   cases keysB s a d lo hi <;> cases shutB s a <;> rfl
  have E5:=gh e5
  have hfit:Hid (a+(2 * d+4)≤N+1):=gh (by
   unfold takeO at hT
   split at hT
   ·rename_i c
    simp only [Bool.and_eq_true,decide_eq_true_eq] at c
    exact c.1.2
   ·cases hT)
  by_cases hz01:z=0∨z=1
  ·have SB:shutB s a=true:=by unfold shutB;rw [hz];rcases hz01 with e | e <;> subst e <;> rfl
   have E6:Hid (r=chain (docG s (sndW s f) a d lo hi) d t1):=gh (by rw [e5,if_pos SB])
   have START:Hid (chain (docG s (sndW s f) a d lo hi) 0 t1=some t1):=gh rfl
   have LZ:Hid (lowZ s a lo 0=lo):=gh (by rw [lowZ,if_pos rfl])
   clear C hS hlo hhi hf e1 e2 e3 e4 e5 hN ew hD hz E2 E3 E5 hT SB i5
   rcases hz01 with hz0 | hz0
   ·subst hz0
    go_enter Tryz.func168,Tryz.ntmps168
    go_wp2_with (fail)
    refine (lk_d _ b s a d H.out.mem HD.out).mono ?_
    rintro e w' ⟨rfl,rfl⟩
    go_wp2_with (fail)
    refine (lk_d _ b s a d H.out.mem HD.out).mono ?_
    rintro e w' ⟨rfl,rfl⟩
    go_wp2_with (fail)
    refine (lk_d _ b s a d H.out.mem HD.out).mono ?_
    rintro e w' ⟨rfl,rfl⟩
    go_wp2_with (fail)
    rw [← EW.out,← I5.out]
    refine (take_d w0 _ b s g t H.out a (2 * d+4) h1 (by omega) (by omega) (by omega) (some t1) HT.out).mono ?_
    rintro e W1 ⟨rfl,hT',t',C',ht'⟩
    have et:=ht' _ rfl
    rw [et] at C'
    have H':=gh C'
    have TT:=gh hT'
    clear C' hT' H ht' et
    rw [EW.out,I5.out]
    go_wp2_with (fail)
    refine (lk_d _ b s ((a:Int)+2) 0 H'.out.mem HZ.out).mono ?_
    rintro e w' ⟨rfl,rfl⟩
    go_wp2
    go_loopw [12,13] (fun v12 v wr=>∃ (k:Nat) (tk:Tk) (F:Int),k≤d∧v12=.int .i64 F∧v=.int .i64 (k:Int)∧Hid (k < d→lowZ s a lo k=F)∧Hid (chain (docG s (sndW s f) a d lo hi) k t1=some tk)∧Hid (DCk w0 wr b s g tk)∧Hid (Td (fun i=>i=g) W wr)) (fun _ v _=>d - (intOf v).toNat)
    case atStart=>exact ⟨0,_,lo,by omega,rfl,by simp,gh (fun _=>LZ.out),START,H',TT⟩
    case round=>
     obtain ⟨k,tk,F,hk,rfl,rfl,HLF,HCH,HC,HTW⟩:=hrel
     by_cases hkn:k < d
     ·have j1:(k:Int) < (d:Int):=by omega
      have hF:lowZ s a lo k=F:=HLF.out hkn
      have HFB:Hid (I64 F):=gh (by
       rw [← hF,lowZ];split
       ·exact HLO.out
       ·exact HO.out.look _)
      have HFK:Hid (freeN (s.xs.length+1) tk < f):=gh (by
       have h0:∀ n t',chain (docG s (sndW s f) a d lo hi) n t1=some t'→freeN (s.xs.length+1) t'≤freeN (s.xs.length+1) t1:=by
        intro n
        induction n with
        | zero=>intro t' h;simp [chain] at h;subst h;exact Nat.le_refl _
        | succ n ih=>
         intro t' h
         rw [chain,Option.bind_eq_some_iff] at h
         obtain ⟨u,h1,h2⟩:=h
         unfold docG at h2
         split at h2
         ·cases h2
         ·exact Nat.le_trans (sndSlot_free (sndW_free s f) h2) (ih _ h1)
       exact Nat.lt_of_le_of_lt (h0 _ _ HCH.out) HFR.out)
      have hcz:=gh (childZ_in (n:=a) (d:=(d:Int)) (i:=k) (by omega) (by omega) (by omega) (by omega) (by omega) (by omega))
      have HLF2:=gh hF
      clear hF HLF
      by_cases hkd:k+1 < d
      ·have j2:(k:Int) < (d:Int) - 1:=by omega
       have hkz:=gh (keyZ_in (n:=a) (i:=(k:Int)+1) (by omega) (by omega) (by omega) (by omega))
       obtain ⟨y,hy⟩:∃ y,s.look ((a:Int)+4+((k:Int)+1))=y:=⟨_,rfl⟩
       have HYB:=HO.out.look ((a:Int)+4+((k:Int)+1))
       rw [hy] at HYB
       have HY:=gh hy
       have hky:ky s a (k+1)=y:=by rw [← hy];rfl
       have HKY:=gh hky
       clear hy hky
       by_cases y1:y≤F
       ·have HR:Hid (r=none):=gh (by
         rw [E6.out]
         refine chain_none (n:=k+1) ?_ (by omega)
         rw [chain,HCH.out]
         show docG s (sndW s f) a d lo hi k tk=none
         unfold docG
         rw [if_pos]
         refine ⟨hkd,fun h=>?_⟩
         have:=h.1
         rw [HLF2.out,HKY.out] at this
         omega)
        clear HYB
        go_wp2_with (fail)
        refine (key_r _ a ((k:Int)+1) _ hkz.out).mono ?_
        rintro e w' ⟨rfl,rfl⟩
        go_wp2_with (fail)
        refine (lk_d _ b s _ y HC.out.mem HY.out).mono ?_
        rintro e w' ⟨rfl,rfl⟩
        go_wp2
        go_ret
        exact ⟨by rw [HR.out];rfl,HTW.out,tk,HC.out,fun u h=>by rw [HR.out] at h;cases h⟩
       by_cases y2:hi < y
       ·have HR:Hid (r=none):=gh (by
         rw [E6.out]
         refine chain_none (n:=k+1) ?_ (by omega)
         rw [chain,HCH.out]
         show docG s (sndW s f) a d lo hi k tk=none
         unfold docG
         rw [if_pos]
         refine ⟨hkd,fun h=>?_⟩
         have:=h.2
         rw [HKY.out] at this
         omega)
        clear HYB
        go_wp2_with (fail)
        refine (key_r _ a ((k:Int)+1) _ hkz.out).mono ?_
        rintro e w' ⟨rfl,rfl⟩
        go_wp2_with (fail)
        refine (lk_d _ b s _ y HC.out.mem HY.out).mono ?_
        rintro e w' ⟨rfl,rfl⟩
        go_wp2
        go_ret
        exact ⟨by rw [HR.out];rfl,HTW.out,tk,HC.out,fun u h=>by rw [HR.out] at h;cases h⟩
       have fb:=HFB.out
       obtain ⟨fb1,fb2⟩:=fb
       obtain ⟨yb1,yb2⟩:=HYB
       have BH:Hid (I64 (y - 1)):=gh ⟨by omega,by omega⟩
       obtain ⟨u,hu⟩:∃ u,sndSlot s (sndW s f) ((a:Int)+4+(d:Int)+k) F (y - 1) tk=u:=⟨_,rfl⟩
       have HU2:=gh hu
       have HNX:Hid (chain (docG s (sndW s f) a d lo hi) (k+1) t1=u):=gh (by
        rw [chain,HCH.out]
        show docG s (sndW s f) a d lo hi k tk=u
        unfold docG
        rw [if_neg,kidG,HLF2.out,highZ,if_pos hkd,HKY.out]
        ·exact hu
        ·rintro ⟨_,h⟩
         apply h
         rw [HLF2.out,HKY.out]
         exact ⟨by omega,by omega⟩)
       have NF:Hid (k+1 < d→lowZ s a lo (k+1)=y):=gh (fun _=>by rw [lowZ,if_neg (by omega),HKY.out])
       clear hu HCH
       go_wp2_with (fail)
       refine (key_r _ a ((k:Int)+1) _ hkz.out).mono ?_
       rintro e w' ⟨rfl,rfl⟩
       go_wp2_with (fail)
       refine (lk_d _ b s _ y HC.out.mem HY.out).mono ?_
       rintro e w' ⟨rfl,rfl⟩
       go_wp2_with (fail)
       refine (child_r _ a d k _ hcz.out).mono ?_
       rintro e w' ⟨rfl,rfl⟩
       go_wp2_with (fail)
       rw [← EW.out]
       refine (HSL.out w0 _ b s g tk HC.out _ F (y - 1) HFB.out BH.out HFK.out u HU2.out).mono ?_
       rintro e w' ⟨rfl,hT,t2,hC,ht2⟩
       have HC2:=gh hC
       have HT2:Hid (Td (fun i=>i=g) W w'):=gh (HTW.out.trans hT (fun _ e=>e) (fun _ _ e=>e))
       have HE2:=gh ht2
       clear hT hC ht2 HC HTW
       rw [EW.out]
       cases u with
       | none=>
        have HR:Hid (r=none):=gh (by rw [E6.out];exact chain_none HNX.out (by omega))
        go_wp2
        go_ret
        exact ⟨by rw [HR.out];rfl,HT2.out,t2,HC2.out,fun u h=>by rw [HR.out] at h;cases h⟩
       | some u=>
        have:=HE2.out u rfl
        subst this
        clear HE2
        go_wp2
        exact ⟨⟨k+1,_,_,by omega,rfl,by simp,NF,HNX,HC2,HT2⟩,by simp [intOf];omega⟩
      ·have j2:¬ ((k:Int) < (d:Int) - 1):=by omega
       have BH:=HHI
       obtain ⟨u,hu⟩:∃ u,sndSlot s (sndW s f) ((a:Int)+4+(d:Int)+k) F hi tk=u:=⟨_,rfl⟩
       have HU2:=gh hu
       have HNX:Hid (chain (docG s (sndW s f) a d lo hi) (k+1) t1=u):=gh (by
        rw [chain,HCH.out]
        show docG s (sndW s f) a d lo hi k tk=u
        unfold docG
        rw [if_neg (fun h=>hkd h.1),kidG,HLF2.out,highZ,if_neg hkd]
        exact hu)
       clear hu HCH
       go_wp2_with (fail)
       refine (child_r _ a d k _ hcz.out).mono ?_
       rintro e w' ⟨rfl,rfl⟩
       go_wp2_with (fail)
       rw [← EW.out]
       refine (HSL.out w0 _ b s g tk HC.out _ F hi HFB.out BH.out HFK.out u HU2.out).mono ?_
       rintro e w' ⟨rfl,hT,t2,hC,ht2⟩
       have HC2:=gh hC
       have HT2:Hid (Td (fun i=>i=g) W w'):=gh (HTW.out.trans hT (fun _ e=>e) (fun _ _ e=>e))
       have HE2:=gh ht2
       clear hT hC ht2 HC HTW
       rw [EW.out]
       cases u with
       | none=>
        have HR:Hid (r=none):=gh (by rw [E6.out];exact chain_none HNX.out (by omega))
        go_wp2
        go_ret
        exact ⟨by rw [HR.out];rfl,HT2.out,t2,HC2.out,fun u h=>by rw [HR.out] at h;cases h⟩
       | some u=>
        have:=HE2.out u rfl
        subst this
        clear HE2
        go_wp2
        exact ⟨⟨k+1,_,_,by omega,rfl,by simp,gh (fun h=>absurd h (by omega)),HNX,HC2,HT2⟩,by simp [intOf];omega⟩
     ·have hkn':k=d:=by omega
      subst hkn'
      have j1:¬ ((k:Int) < (k:Int)):=by omega
      go_wp2
      go_ret
      have HR:r=some tk:=by rw [E6.out,HCH.out]
      exact ⟨by rw [HR];rfl,HTW.out,tk,HC.out,fun u h=>by rw [HR] at h;cases h;rfl⟩
   ·subst hz0
    go_enter Tryz.func168,Tryz.ntmps168
    go_wp2_with (fail)
    refine (lk_d _ b s a d H.out.mem HD.out).mono ?_
    rintro e w' ⟨rfl,rfl⟩
    go_wp2_with (fail)
    refine (lk_d _ b s a d H.out.mem HD.out).mono ?_
    rintro e w' ⟨rfl,rfl⟩
    go_wp2_with (fail)
    refine (lk_d _ b s a d H.out.mem HD.out).mono ?_
    rintro e w' ⟨rfl,rfl⟩
    go_wp2_with (fail)
    rw [← EW.out,← I5.out]
    refine (take_d w0 _ b s g t H.out a (2 * d+4) h1 (by omega) (by omega) (by omega) (some t1) HT.out).mono ?_
    rintro e W1 ⟨rfl,hT',t',C',ht'⟩
    have et:=ht' _ rfl
    rw [et] at C'
    have H':=gh C'
    have TT:=gh hT'
    clear C' hT' H ht' et
    rw [EW.out,I5.out]
    go_wp2_with (fail)
    refine (lk_d _ b s ((a:Int)+2) 1 H'.out.mem HZ.out).mono ?_
    rintro e w' ⟨rfl,rfl⟩
    go_wp2_with (fail)
    refine (lk_d _ b s ((a:Int)+2) 1 H'.out.mem HZ.out).mono ?_
    rintro e w' ⟨rfl,rfl⟩
    go_wp2
    go_loopw [12,13] (fun v12 v wr=>∃ (k:Nat) (tk:Tk) (F:Int),k≤d∧v12=.int .i64 F∧v=.int .i64 (k:Int)∧Hid (k < d→lowZ s a lo k=F)∧Hid (chain (docG s (sndW s f) a d lo hi) k t1=some tk)∧Hid (DCk w0 wr b s g tk)∧Hid (Td (fun i=>i=g) W wr)) (fun _ v _=>d - (intOf v).toNat)
    case atStart=>exact ⟨0,_,lo,by omega,rfl,by simp,gh (fun _=>LZ.out),START,H',TT⟩
    case round=>
     obtain ⟨k,tk,F,hk,rfl,rfl,HLF,HCH,HC,HTW⟩:=hrel
     by_cases hkn:k < d
     ·have j1:(k:Int) < (d:Int):=by omega
      have hF:lowZ s a lo k=F:=HLF.out hkn
      have HFB:Hid (I64 F):=gh (by
       rw [← hF,lowZ];split
       ·exact HLO.out
       ·exact HO.out.look _)
      have HFK:Hid (freeN (s.xs.length+1) tk < f):=gh (by
       have h0:∀ n t',chain (docG s (sndW s f) a d lo hi) n t1=some t'→freeN (s.xs.length+1) t'≤freeN (s.xs.length+1) t1:=by
        intro n
        induction n with
        | zero=>intro t' h;simp [chain] at h;subst h;exact Nat.le_refl _
        | succ n ih=>
         intro t' h
         rw [chain,Option.bind_eq_some_iff] at h
         obtain ⟨u,h1,h2⟩:=h
         unfold docG at h2
         split at h2
         ·cases h2
         ·exact Nat.le_trans (sndSlot_free (sndW_free s f) h2) (ih _ h1)
       exact Nat.lt_of_le_of_lt (h0 _ _ HCH.out) HFR.out)
      have hcz:=gh (childZ_in (n:=a) (d:=(d:Int)) (i:=k) (by omega) (by omega) (by omega) (by omega) (by omega) (by omega))
      have HLF2:=gh hF
      clear hF HLF
      by_cases hkd:k+1 < d
      ·have j2:(k:Int) < (d:Int) - 1:=by omega
       have hkz:=gh (keyZ_in (n:=a) (i:=(k:Int)+1) (by omega) (by omega) (by omega) (by omega))
       obtain ⟨y,hy⟩:∃ y,s.look ((a:Int)+4+((k:Int)+1))=y:=⟨_,rfl⟩
       have HYB:=HO.out.look ((a:Int)+4+((k:Int)+1))
       rw [hy] at HYB
       have HY:=gh hy
       have hky:ky s a (k+1)=y:=by rw [← hy];rfl
       have HKY:=gh hky
       clear hy hky
       by_cases y1:y≤F
       ·have HR:Hid (r=none):=gh (by
         rw [E6.out]
         refine chain_none (n:=k+1) ?_ (by omega)
         rw [chain,HCH.out]
         show docG s (sndW s f) a d lo hi k tk=none
         unfold docG
         rw [if_pos]
         refine ⟨hkd,fun h=>?_⟩
         have:=h.1
         rw [HLF2.out,HKY.out] at this
         omega)
        clear HYB
        go_wp2_with (fail)
        refine (key_r _ a ((k:Int)+1) _ hkz.out).mono ?_
        rintro e w' ⟨rfl,rfl⟩
        go_wp2_with (fail)
        refine (lk_d _ b s _ y HC.out.mem HY.out).mono ?_
        rintro e w' ⟨rfl,rfl⟩
        go_wp2
        go_ret
        exact ⟨by rw [HR.out];rfl,HTW.out,tk,HC.out,fun u h=>by rw [HR.out] at h;cases h⟩
       by_cases y2:hi < y
       ·have HR:Hid (r=none):=gh (by
         rw [E6.out]
         refine chain_none (n:=k+1) ?_ (by omega)
         rw [chain,HCH.out]
         show docG s (sndW s f) a d lo hi k tk=none
         unfold docG
         rw [if_pos]
         refine ⟨hkd,fun h=>?_⟩
         have:=h.2
         rw [HKY.out] at this
         omega)
        clear HYB
        go_wp2_with (fail)
        refine (key_r _ a ((k:Int)+1) _ hkz.out).mono ?_
        rintro e w' ⟨rfl,rfl⟩
        go_wp2_with (fail)
        refine (lk_d _ b s _ y HC.out.mem HY.out).mono ?_
        rintro e w' ⟨rfl,rfl⟩
        go_wp2
        go_ret
        exact ⟨by rw [HR.out];rfl,HTW.out,tk,HC.out,fun u h=>by rw [HR.out] at h;cases h⟩
       have fb:=HFB.out
       obtain ⟨fb1,fb2⟩:=fb
       obtain ⟨yb1,yb2⟩:=HYB
       have BH:Hid (I64 (y - 1)):=gh ⟨by omega,by omega⟩
       obtain ⟨u,hu⟩:∃ u,sndSlot s (sndW s f) ((a:Int)+4+(d:Int)+k) F (y - 1) tk=u:=⟨_,rfl⟩
       have HU2:=gh hu
       have HNX:Hid (chain (docG s (sndW s f) a d lo hi) (k+1) t1=u):=gh (by
        rw [chain,HCH.out]
        show docG s (sndW s f) a d lo hi k tk=u
        unfold docG
        rw [if_neg,kidG,HLF2.out,highZ,if_pos hkd,HKY.out]
        ·exact hu
        ·rintro ⟨_,h⟩
         apply h
         rw [HLF2.out,HKY.out]
         exact ⟨by omega,by omega⟩)
       have NF:Hid (k+1 < d→lowZ s a lo (k+1)=y):=gh (fun _=>by rw [lowZ,if_neg (by omega),HKY.out])
       clear hu HCH
       go_wp2_with (fail)
       refine (key_r _ a ((k:Int)+1) _ hkz.out).mono ?_
       rintro e w' ⟨rfl,rfl⟩
       go_wp2_with (fail)
       refine (lk_d _ b s _ y HC.out.mem HY.out).mono ?_
       rintro e w' ⟨rfl,rfl⟩
       go_wp2_with (fail)
       refine (child_r _ a d k _ hcz.out).mono ?_
       rintro e w' ⟨rfl,rfl⟩
       go_wp2_with (fail)
       rw [← EW.out]
       refine (HSL.out w0 _ b s g tk HC.out _ F (y - 1) HFB.out BH.out HFK.out u HU2.out).mono ?_
       rintro e w' ⟨rfl,hT,t2,hC,ht2⟩
       have HC2:=gh hC
       have HT2:Hid (Td (fun i=>i=g) W w'):=gh (HTW.out.trans hT (fun _ e=>e) (fun _ _ e=>e))
       have HE2:=gh ht2
       clear hT hC ht2 HC HTW
       rw [EW.out]
       cases u with
       | none=>
        have HR:Hid (r=none):=gh (by rw [E6.out];exact chain_none HNX.out (by omega))
        go_wp2
        go_ret
        exact ⟨by rw [HR.out];rfl,HT2.out,t2,HC2.out,fun u h=>by rw [HR.out] at h;cases h⟩
       | some u=>
        have:=HE2.out u rfl
        subst this
        clear HE2
        go_wp2
        exact ⟨⟨k+1,_,_,by omega,rfl,by simp,NF,HNX,HC2,HT2⟩,by simp [intOf];omega⟩
      ·have j2:¬ ((k:Int) < (d:Int) - 1):=by omega
       have BH:=HHI
       obtain ⟨u,hu⟩:∃ u,sndSlot s (sndW s f) ((a:Int)+4+(d:Int)+k) F hi tk=u:=⟨_,rfl⟩
       have HU2:=gh hu
       have HNX:Hid (chain (docG s (sndW s f) a d lo hi) (k+1) t1=u):=gh (by
        rw [chain,HCH.out]
        show docG s (sndW s f) a d lo hi k tk=u
        unfold docG
        rw [if_neg (fun h=>hkd h.1),kidG,HLF2.out,highZ,if_neg hkd]
        exact hu)
       clear hu HCH
       go_wp2_with (fail)
       refine (child_r _ a d k _ hcz.out).mono ?_
       rintro e w' ⟨rfl,rfl⟩
       go_wp2_with (fail)
       rw [← EW.out]
       refine (HSL.out w0 _ b s g tk HC.out _ F hi HFB.out BH.out HFK.out u HU2.out).mono ?_
       rintro e w' ⟨rfl,hT,t2,hC,ht2⟩
       have HC2:=gh hC
       have HT2:Hid (Td (fun i=>i=g) W w'):=gh (HTW.out.trans hT (fun _ e=>e) (fun _ _ e=>e))
       have HE2:=gh ht2
       clear hT hC ht2 HC HTW
       rw [EW.out]
       cases u with
       | none=>
        have HR:Hid (r=none):=gh (by rw [E6.out];exact chain_none HNX.out (by omega))
        go_wp2
        go_ret
        exact ⟨by rw [HR.out];rfl,HT2.out,t2,HC2.out,fun u h=>by rw [HR.out] at h;cases h⟩
       | some u=>
        have:=HE2.out u rfl
        subst this
        clear HE2
        go_wp2
        exact ⟨⟨k+1,_,_,by omega,rfl,by simp,gh (fun h=>absurd h (by omega)),HNX,HC2,HT2⟩,by simp [intOf];omega⟩
     ·have hkn':k=d:=by omega
      subst hkn'
      have j1:¬ ((k:Int) < (k:Int)):=by omega
      go_wp2
      go_ret
      have HR:r=some tk:=by rw [E6.out,HCH.out]
      exact ⟨by rw [HR];rfl,HTW.out,tk,HC.out,fun u h=>by rw [HR] at h;cases h;rfl⟩
  ·have SB:shutB s a=false:=by unfold shutB;rw [hz];simp;omega
   have HR:Hid (r=none):=gh (by rw [e5,SB];rfl)
   have g1:(z == 0)=false:=by simp;omega
   have g2:(z == 1)=false:=by simp;omega
   have g3:(z != 0)=true:=by simp;omega
   have g4:(z != 1)=true:=by simp;omega
   clear C hS hlo hhi hf e1 e2 e3 e4 e5 hN ew hD hz E2 E3 E5 hT SB hz01 i5
   go_enter Tryz.func168,Tryz.ntmps168
   go_wp2_with (fail)
   refine (lk_d _ b s a d H.out.mem HD.out).mono ?_
   rintro e w' ⟨rfl,rfl⟩
   go_wp2_with (fail)
   refine (lk_d _ b s a d H.out.mem HD.out).mono ?_
   rintro e w' ⟨rfl,rfl⟩
   go_wp2_with (fail)
   refine (lk_d _ b s a d H.out.mem HD.out).mono ?_
   rintro e w' ⟨rfl,rfl⟩
   go_wp2_with (fail)
   rw [← EW.out,← I5.out]
   refine (take_d w0 _ b s g t H.out a (2 * d+4) h1 (by omega) (by omega) (by omega) (some t1) HT.out).mono ?_
   rintro e W1 ⟨rfl,hT',t',C',ht'⟩
   have:=ht' _ rfl
   subst this
   have H':=gh C'
   have TT:=gh hT'
   clear C' hT' H ht'
   rw [EW.out,I5.out]
   go_wp2_with (fail)
   refine (lk_d _ b s ((a:Int)+2) z H'.out.mem HZ.out).mono ?_
   rintro e w' ⟨rfl,rfl⟩
   go_wp2_with (fail)
   refine (lk_d _ b s ((a:Int)+2) z H'.out.mem HZ.out).mono ?_
   rintro e w' ⟨rfl,rfl⟩
   go_wp2
   go_ret
   exact ⟨by rw [HR.out];rfl,TT.out,_,H'.out,fun u h=>by rw [HR.out] at h;cases h⟩
end
section
set_option maxHeartbeats 4000000 in
set_option maxRecDepth 20000 in
theorem word_d:∀ f,WordD f
 | 0=>fun w0 W b s g t C x lo hi hx hlo hhi hf r e1=>absurd hf (by omega)
 | f+1=>by
  have ih:=word_d f
  have hS:=slot_of_word_d f ih
  intro w0 W b s g t C x lo hi hx hlo hhi hf r e1
  have H:=gh C
  have HX:=gh hx
  have HLO:=gh hlo
  have HHI:=gh hhi
  have HF:=gh hf
  have IH:=gh ih
  have HS:=gh hS
  obtain ⟨k,hk⟩:∃ k,kd x=k:=⟨_,rfl⟩
  obtain ⟨p,hp⟩:∃ p,ad x=p:=⟨_,rfl⟩
  have kr:=ad_range x
  rw [hp] at kr
  have HK:=gh hk
  obtain ⟨a,rfl⟩:∃ a:Nat,p=(a:Int):=⟨p.toNat,by omega⟩
  have HP:=gh hp
  have hap:k≠0→1≤a:=fun h=>by
   have:=ad_pos (w:=x) (by rw [hk];exact h)
   rw [hp] at this;omega
  have HA:=gh hap
  have a1:(a:Int)≤65536:=kr.2
  have haN:(ad x).toNat=a:=by rw [hp];omega
  obtain ⟨z,hz⟩:∃ z,s.look (a:Int)=z:=⟨_,rfl⟩
  have HZ:=gh hz
  have HZB:Hid (I64 z):=gh (by rw [← hz];exact C.ok.look _)
  have e2:r=if k=1 then takeO (s.xs.length+1) t a 1
   else if k=2 then (if lo≤z∧z≤hi then takeO (s.xs.length+1) t a 2 else none)
   else if k=3 then sndInner s (sndW s f) a lo hi t
   else if k=4 then (if kd z=3 then (takeO (s.xs.length+1) t a 5).bind fun t1=>sndW s f z lo hi t1 else none)
   else none:=by
   rw [← e1,sndW_succ,hk,hp,hz,Int.toNat_natCast]
  have hkr:=kd_range x
  rw [hk] at hkr
  have E2:=gh e2
  obtain ⟨N,hN⟩:∃ N,s.xs.length=N:=⟨_,rfl⟩
  have ew:metS s g=.slice (some ⟨g,0,none⟩) (N+1) (N+1):=by unfold metS;rw [hN]
  have EW:=gh ew
  rw [ew]
  clear hN
  by_cases k1:k=1
  ·have HR:Hid (takeO (s.xs.length+1) t a 1=r):=gh (by rw [E2.out,if_pos k1])
   have ha:=hap (by omega)
   subst k1
   clear C hx hlo hhi hf ih hS hk hp kr hap haN hz e1 e2 E2 hkr ew
   go_enter Tryz.func126,Tryz.ntmps126
   go_wp2_with (fail)
   refine (ak_d _ x a HX.out HP.out).mono ?_
   rintro e w' ⟨rfl,rfl⟩
   go_wp2_with (fail)
   refine (kk_d _ x 1 HX.out HK.out).mono ?_
   rintro e w' ⟨rfl,rfl⟩
   go_wp2_with (fail)
   rw [← EW.out]
   refine (take_d w0 _ b s g t H.out a 1 ha (by omega) (by omega) (by omega) r HR.out).mono ?_
   rintro e w' ⟨rfl,hT,hC⟩
   have HC:=gh hC
   have HT:=gh hT
   clear hC hT H
   go_wp2
   go_ret
   exact ⟨rfl,HT.out,HC.out⟩
  by_cases k2:k=2
  ·have ha:=hap (by omega)
   have e3:r=if lo≤z∧z≤hi then takeO (s.xs.length+1) t a 2 else none:=by rw [E2.out,if_neg k1,if_pos k2]
   obtain ⟨u,hu⟩:∃ u,takeO (s.xs.length+1) t a 2=u:=⟨_,rfl⟩
   have HU:=gh hu
   rw [hu] at e3
   have E3:=gh e3
   subst k2
   clear C hx hlo hhi hf ih hS hk hp kr hap haN hz e1 e2 E2 hkr ew k1 hu e3
   cases u with
   | none=>
    have HR:Hid (r=none):=gh (by rw [E3.out];split <;> rfl)
    go_enter Tryz.func126,Tryz.ntmps126
    go_wp2_with (fail)
    refine (ak_d _ x a HX.out HP.out).mono ?_
    rintro e w' ⟨rfl,rfl⟩
    go_wp2_with (fail)
    refine (kk_d _ x 2 HX.out HK.out).mono ?_
    rintro e w' ⟨rfl,rfl⟩
    go_wp2_with (fail)
    rw [← EW.out]
    refine (take_d w0 _ b s g t H.out a 2 ha (by omega) (by omega) (by omega) none HU.out).mono ?_
    rintro e w' ⟨rfl,hT,t',hC,_⟩
    have HC:=gh hC
    have HT:=gh hT
    clear hC hT H
    go_wp2
    go_ret
    exact ⟨by rw [HR.out];rfl,HT.out,t',HC.out,fun u h=>by rw [HR.out] at h;cases h⟩
   | some u=>
    by_cases hl1:lo≤z
    ·by_cases hl2:z≤hi
     ·have HR:Hid (r=some u):=gh (by rw [E3.out,if_pos ⟨hl1,hl2⟩])
      go_enter Tryz.func126,Tryz.ntmps126
      go_wp2_with (fail)
      refine (ak_d _ x a HX.out HP.out).mono ?_
      rintro e w' ⟨rfl,rfl⟩
      go_wp2_with (fail)
      refine (kk_d _ x 2 HX.out HK.out).mono ?_
      rintro e w' ⟨rfl,rfl⟩
      go_wp2_with (fail)
      rw [← EW.out]
      refine (take_d w0 _ b s g t H.out a 2 ha (by omega) (by omega) (by omega) (some u) HU.out).mono ?_
      rintro e w' ⟨rfl,hT,t',hC,ht'⟩
      have:=ht' u rfl
      subst this
      have HC:=gh hC
      have HT:=gh hT
      clear hC hT H ht'
      rw [EW.out]
      go_wp2_with (fail)
      refine (lk_d _ b s a z HC.out.mem HZ.out).mono ?_
      rintro e w' ⟨rfl,rfl⟩
      go_wp2_with (fail)
      refine (lk_d _ b s a z HC.out.mem HZ.out).mono ?_
      rintro e w' ⟨rfl,rfl⟩
      go_wp2
      go_ret
      exact ⟨by rw [HR.out];rfl,HT.out,t',HC.out,fun u h=>by rw [HR.out] at h;cases h;rfl⟩
     ·have HR:Hid (r=none):=gh (by rw [E3.out,if_neg (fun h=>hl2 h.2)])
      have g1:decide (z≤hi)=false:=by simp;omega
      have hl2':hi < z:=by omega
      clear hl2
      go_enter Tryz.func126,Tryz.ntmps126
      go_wp2_with (fail)
      refine (ak_d _ x a HX.out HP.out).mono ?_
      rintro e w' ⟨rfl,rfl⟩
      go_wp2_with (fail)
      refine (kk_d _ x 2 HX.out HK.out).mono ?_
      rintro e w' ⟨rfl,rfl⟩
      go_wp2_with (fail)
      rw [← EW.out]
      refine (take_d w0 _ b s g t H.out a 2 ha (by omega) (by omega) (by omega) (some u) HU.out).mono ?_
      rintro e w' ⟨rfl,hT,t',hC,ht'⟩
      have:=ht' u rfl
      subst this
      have HC:=gh hC
      have HT:=gh hT
      clear hC hT H ht'
      rw [EW.out]
      go_wp2_with (fail)
      refine (lk_d _ b s a z HC.out.mem HZ.out).mono ?_
      rintro e w' ⟨rfl,rfl⟩
      go_wp2_with (fail)
      refine (lk_d _ b s a z HC.out.mem HZ.out).mono ?_
      rintro e w' ⟨rfl,rfl⟩
      go_wp2
      go_ret
      exact ⟨by rw [HR.out];rfl,HT.out,t',HC.out,fun u h=>by rw [HR.out] at h;cases h⟩
    ·have HR:Hid (r=none):=gh (by rw [E3.out,if_neg (fun h=>hl1 h.1)])
     have g1:decide (lo≤z)=false:=by simp;omega
     have hl1':z < lo:=by omega
     clear hl1
     go_enter Tryz.func126,Tryz.ntmps126
     go_wp2_with (fail)
     refine (ak_d _ x a HX.out HP.out).mono ?_
     rintro e w' ⟨rfl,rfl⟩
     go_wp2_with (fail)
     refine (kk_d _ x 2 HX.out HK.out).mono ?_
     rintro e w' ⟨rfl,rfl⟩
     go_wp2_with (fail)
     rw [← EW.out]
     refine (take_d w0 _ b s g t H.out a 2 ha (by omega) (by omega) (by omega) (some u) HU.out).mono ?_
     rintro e w' ⟨rfl,hT,t',hC,ht'⟩
     have:=ht' u rfl
     subst this
     have HC:=gh hC
     have HT:=gh hT
     clear hC hT H ht'
     rw [EW.out]
     go_wp2_with (fail)
     refine (lk_d _ b s a z HC.out.mem HZ.out).mono ?_
     rintro e w' ⟨rfl,rfl⟩
     go_wp2
     go_ret
     exact ⟨by rw [HR.out];rfl,HT.out,t',HC.out,fun u h=>by rw [HR.out] at h;cases h⟩
  by_cases k3:k=3
  ·have HR:Hid (sndInner s (sndW s f) a lo hi t=r):=gh (by rw [E2.out,if_neg k1,if_neg k2,if_pos k3])
   have ha:=hap (by omega)
   subst k3
   clear C hx hlo hhi hf ih hS hk hp kr hap haN hz e1 e2 E2 hkr ew k1 k2
   go_enter Tryz.func126,Tryz.ntmps126
   go_wp2_with (fail)
   refine (ak_d _ x a HX.out HP.out).mono ?_
   rintro e w' ⟨rfl,rfl⟩
   go_wp2_with (fail)
   refine (kk_d _ x 3 HX.out HK.out).mono ?_
   rintro e w' ⟨rfl,rfl⟩
   go_wp2_with (fail)
   rw [← EW.out]
   refine (inner_of_slot_d f HS.out w0 _ b s g t H.out a lo hi ha (by omega) HLO.out HHI.out HF.out r HR.out).mono ?_
   rintro e w' ⟨rfl,hT,hC⟩
   have HC:=gh hC
   have HT:=gh hT
   clear hC hT H
   go_wp2
   go_ret
   exact ⟨rfl,HT.out,HC.out⟩
  by_cases k4:k=4
  ·have ha:=hap (by omega)
   have e3:r=if kd z=3 then (takeO (s.xs.length+1) t a 5).bind (fun t1=>sndW s f z lo hi t1) else none:=by rw [E2.out,if_neg k1,if_neg k2,if_neg k3,if_pos k4]
   obtain ⟨u,hu⟩:∃ u,takeO (s.xs.length+1) t a 5=u:=⟨_,rfl⟩
   have HU:=gh hu
   obtain ⟨j,hj⟩:∃ j,kd z=j:=⟨_,rfl⟩
   have HJ:=gh hj
   rw [hu,hj] at e3
   have E3:=gh e3
   subst k4
   clear C hx hlo hhi hf ih hS hk hp kr hap haN hz e1 e2 E2 hkr ew k1 k2 k3 e3 hj
   cases u with
   | none=>
    have HR:Hid (r=none):=gh (by rw [E3.out];split <;> rfl)
    clear hu
    go_enter Tryz.func126,Tryz.ntmps126
    go_wp2_with (fail)
    refine (ak_d _ x a HX.out HP.out).mono ?_
    rintro e w' ⟨rfl,rfl⟩
    go_wp2_with (fail)
    refine (kk_d _ x 4 HX.out HK.out).mono ?_
    rintro e w' ⟨rfl,rfl⟩
    go_wp2_with (fail)
    refine (lk_d _ b s a z H.out.mem HZ.out).mono ?_
    rintro e w' ⟨rfl,rfl⟩
    go_wp2_with (fail)
    rw [← EW.out]
    refine (take_d w0 _ b s g t H.out a 5 ha (by omega) (by omega) (by omega) none HU.out).mono ?_
    rintro e w' ⟨rfl,hT,t',hC,_⟩
    have HC:=gh hC
    have HT:=gh hT
    clear hC hT H
    go_wp2
    go_ret
    exact ⟨by rw [HR.out];rfl,HT.out,t',HC.out,fun u h=>by rw [HR.out] at h;cases h⟩
   | some u=>
    have HFU:Hid (freeN (s.xs.length+1) u < f):=gh (by have:=takeO_free hu;have:=HF.out;omega)
    clear hu
    by_cases j3:j=3
    ·have HR:Hid (sndW s f z lo hi u=r):=gh (by rw [E3.out,if_pos j3];rfl)
     subst j3
     go_enter Tryz.func126,Tryz.ntmps126
     go_wp2_with (fail)
     refine (ak_d _ x a HX.out HP.out).mono ?_
     rintro e w' ⟨rfl,rfl⟩
     go_wp2_with (fail)
     refine (kk_d _ x 4 HX.out HK.out).mono ?_
     rintro e w' ⟨rfl,rfl⟩
     go_wp2_with (fail)
     refine (lk_d _ b s a z H.out.mem HZ.out).mono ?_
     rintro e w' ⟨rfl,rfl⟩
     go_wp2_with (fail)
     rw [← EW.out]
     refine (take_d w0 _ b s g t H.out a 5 ha (by omega) (by omega) (by omega) (some u) HU.out).mono ?_
     rintro e w' ⟨rfl,hT,t',hC,ht'⟩
     have:=ht' u rfl
     subst this
     have HC:=gh hC
     have HT:=gh hT
     clear hC hT H ht'
     rw [EW.out]
     go_wp2_with (fail)
     refine (kk_d _ z 3 HZB.out HJ.out).mono ?_
     rintro e w'' ⟨rfl,rfl⟩
     go_wp2_with (fail)
     rw [← EW.out]
     refine (IH.out w0 _ b s g _ HC.out z lo hi HZB.out HLO.out HHI.out HFU.out r HR.out).mono ?_
     rintro e w'' ⟨rfl,hT,hC⟩
     have HC2:=gh hC
     have HT2:=gh (HT.out.trans hT (fun _ e=>e) (fun _ _ e=>e))
     clear hC hT HC HT
     go_wp2
     go_ret
     exact ⟨rfl,HT2.out,HC2.out⟩
    ·have HR:Hid (r=none):=gh (by rw [E3.out,if_neg j3])
     have g1:(j == 3)=false:=by simp [j3]
     have g2:(j != 3)=true:=by simp [j3]
     clear j3
     go_enter Tryz.func126,Tryz.ntmps126
     go_wp2_with (fail)
     refine (ak_d _ x a HX.out HP.out).mono ?_
     rintro e w' ⟨rfl,rfl⟩
     go_wp2_with (fail)
     refine (kk_d _ x 4 HX.out HK.out).mono ?_
     rintro e w' ⟨rfl,rfl⟩
     go_wp2_with (fail)
     refine (lk_d _ b s a z H.out.mem HZ.out).mono ?_
     rintro e w' ⟨rfl,rfl⟩
     go_wp2_with (fail)
     rw [← EW.out]
     refine (take_d w0 _ b s g t H.out a 5 ha (by omega) (by omega) (by omega) (some u) HU.out).mono ?_
     rintro e w' ⟨rfl,hT,t',hC,ht'⟩
     have:=ht' u rfl
     subst this
     have HC:=gh hC
     have HT:=gh hT
     clear hC hT H ht'
     rw [EW.out]
     go_wp2_with (fail)
     refine (kk_d _ z j HZB.out HJ.out).mono ?_
     rintro e w'' ⟨rfl,rfl⟩
     go_wp2
     go_ret
     exact ⟨by rw [HR.out];rfl,HT.out,t',HC.out,fun u h=>by rw [HR.out] at h;cases h⟩
  ·have HR:Hid (r=none):=gh (by rw [E2.out,if_neg k1,if_neg k2,if_neg k3,if_neg k4])
   have g1:(k == 1)=false:=by simp [k1]
   have g2:(k == 2)=false:=by simp [k2]
   have g3:(k == 3)=false:=by simp [k3]
   have g4:(k == 4)=false:=by simp [k4]
   clear C hx hlo hhi hf ih hS hk hp kr hap haN hz e1 e2 E2 hkr ew k1 k2 k3 k4
   go_enter Tryz.func126,Tryz.ntmps126
   go_wp2_with (fail)
   refine (ak_d _ x a HX.out HP.out).mono ?_
   rintro e w' ⟨rfl,rfl⟩
   go_wp2_with (fail)
   refine (kk_d _ x k HX.out HK.out).mono ?_
   rintro e w' ⟨rfl,rfl⟩
   go_wp2
   go_ret
   exact ⟨by rw [HR.out];rfl,Td.refl _ _,t,H.out,fun u h=>by rw [HR.out] at h;cases h⟩
set_option maxRecDepth 20000 in
theorem sound_d (w:World) (b:Nat) (s:Mst) (h:DM w b s) (ho:s.ok) (r:Bool) (e1:soundB s=r) :
  Calls Tryz.prog 31 #[.pointer (some ⟨b,0,none⟩)] w fun e w'=>e=.returned (.bool r)∧Kept w w':=by
 have H:=gh h
 have HO:=gh ho
 obtain ⟨la,lc,c1,hrd⟩:=DCk.cells h
 obtain ⟨z1,hz1⟩:∃ z,s.look 1=z:=⟨_,rfl⟩
 obtain ⟨z3,hz3⟩:∃ z,s.look 3=z:=⟨_,rfl⟩
 obtain ⟨N,hN⟩:∃ N,s.xs.length=N:=⟨_,rfl⟩
 have e2:r=(decide (6≤N) && (z1 == 1) && (z3 == 0) && (sndSlot s (sndW s (fuel s)) 6 (-9223372036854775808) 9223372036854775807 base0).isSome):=by
  rw [← e1,soundB,hz1,hz3,hN]
 have E2:=gh e2
 have HN:=gh hN
 have n1:N≤65536:=by rw [← hN];exact HO.out.2
 rw [hN] at c1
 by_cases h6:6≤N
 ·have x1:s.xs[0]? = some z1:=by
   have h0:0 < s.xs.length:=by omega
   rw [List.getElem?_eq_getElem h0,← hz1,← Mst.look_succ (s:=s) (j:=0) (List.getElem?_eq_getElem h0)];rfl
  have x3:s.xs[2]? = some z3:=by
   have h0:2 < s.xs.length:=by omega
   rw [List.getElem?_eq_getElem h0,← hz3,← Mst.look_succ (s:=s) (j:=2) (List.getElem?_eq_getElem h0)];rfl
  obtain ⟨bl,off,rfl,_,q1⟩:=hrd.at x1
  obtain ⟨bl',off',he,_,q3⟩:=hrd.at x3
  cases he
  rw [Nat.add_zero] at q1
  have n6:¬ ((N:Int) < 6):=by omega
  have n7:(0:Int) < (N:Int):=by omega
  have n8:(2:Int) < (N:Int):=by omega
  clear h ho hrd hz1 hz3 e1 e2 hN x1 x3
  by_cases y1:z1=1
  ·by_cases y3:z3=0
   ·subst y1 y3
    have hmk:=run_make58 (N+1) (by omega)
    rw [show ((N+1:Nat):Int)=(N:Int)+1 from rfl] at hmk
    have C0:Hid (DCk w (w.alloc (.cells (madeCells #[.bool false] (N+1)) 4)) b s w.heap.size (takeT (fun _=>false) 1 0)):=gh (by
     refine ⟨H.out,HO.out,(Kept.refl w).alloc _,Nat.le_refl _,?_⟩
     rw [HN.out,takeT_zero]
     exact World.rowIs_made w (.bool false) (N+1) 4)
    obtain ⟨g,hg⟩:∃ g,w.heap.size=g:=⟨_,rfl⟩
    have HG:=gh hg
    go_enter Tryz.func31,Tryz.ntmps31
    go_wp2
    rw [hg] at C0
    clear hg hmk q1 q3 c1
    go_loopw [4] (fun v wr=>∃ k:Nat,k≤6∧v=.int .i64 (1+(k:Int))∧Hid (DCk w wr b s g (takeT (fun _=>false) 1 k))) (fun v _=>7 - (intOf v).toNat)
    case atStart=>exact ⟨0,by omega,by simp,C0⟩
    case round=>
     obtain ⟨k,hk,rfl,HC⟩:=hrel
     by_cases hk6:k < 6
     ·have i1:1+(k:Int)≤6:=by omega
      have i2:1+(k:Int) < (N:Int)+1:=by omega
      have i4:(1+(k:Int)).toNat=1+k:=by omega
      have b2:=HC.out.row.cell (show 1+k < s.xs.length+1 by rw [HN.out];omega)
      have b3:=HC.out.row.frozen (1+k)
      have G2:=gh (HC.out.put (1+k) (takeT_succ (fun _=>false) 1 k))
      go_wp2
      exact ⟨⟨k+1,by omega,by simp;omega,G2⟩,by simp [intOf];omega⟩
     ·have hk6':k=6:=by omega
      subst hk6'
      have HFU:Hid (freeN (s.xs.length+1) (takeT (fun _=>false) 1 6) < fuel s):=gh (by
       have:=freeN_le (s.xs.length+1) (takeT (fun _=>false) 1 6)
       unfold fuel;omega)
      obtain ⟨u,hu⟩:∃ u,sndSlot s (sndW s (fuel s)) 6 (-9223372036854775808) 9223372036854775807 base0=u:=⟨_,rfl⟩
      have HU:=gh hu
      have HR:Hid (r=u.isSome):=gh (by rw [E2.out,hu];simp [h6])
      have ew:metS s g=.slice (some ⟨g,0,none⟩) (N+1) (N+1):=by unfold metS;rw [HN.out]
      have EW:=gh ew
      clear hu ew
      go_wp2_with (fail)
      rw [← EW.out]
      refine (slot_of_word_d _ (word_d (fuel s)) w _ b s _ _ HC.out 6 (-9223372036854775808) 9223372036854775807 ⟨by decide,by decide⟩ ⟨by decide,by decide⟩ HFU.out u HU.out).mono ?_
      rintro e W3 ⟨rfl,hT,t',hC,ht'⟩
      have HC3:=gh hC
      clear hT hC ht' HC
      go_wp2
      go_ret
      exact ⟨by rw [HR.out];rfl,HC3.out.kept⟩
   ·have HR:Hid (r=false):=gh (by rw [E2.out];simp [y3])
    have g1:(z3 == 0)=false:=by simp [y3]
    have g2:(z3 != 0)=true:=by simp [y3]
    subst y1
    clear y3
    go_enter Tryz.func31,Tryz.ntmps31
    go_wp2
    go_ret
    exact ⟨by rw [HR.out];rfl,Kept.refl _⟩
  ·have HR:Hid (r=false):=gh (by rw [E2.out];simp [y1])
   have g1:(z1 == 1)=false:=by simp [y1]
   have g2:(z1 != 1)=true:=by simp [y1]
   clear y1
   go_enter Tryz.func31,Tryz.ntmps31
   go_wp2
   go_ret
   exact ⟨by rw [HR.out];rfl,Kept.refl _⟩
 ·have HR:Hid (r=false):=gh (by rw [e2];simp [h6])
  have n6:(N:Int) < 6:=by omega
  clear h ho hrd hz1 hz3 e1 e2 hN
  go_enter Tryz.func31,Tryz.ntmps31
  go_wp2
  go_ret
  exact ⟨by rw [HR.out];rfl,Kept.refl _⟩
end
section
set_option maxRecDepth 20000 in
theorem sound_p (w:World) (b:Nat) (s:Mst) (h:PM w b s) (ho:s.ok) (r:Bool) (e1:soundB s=r) :
  Calls Tryz.prog 30 #[.pointer (some ⟨b,0,none⟩)] w fun e w'=>e=.returned (.bool r)∧Kept w w':=by
 have H:=gh h
 have HO:=gh ho
 obtain ⟨z1,hz1⟩:∃ z,s.look 1=z:=⟨_,rfl⟩
 obtain ⟨z3,hz3⟩:∃ z,s.look 3=z:=⟨_,rfl⟩
 have H1:=gh hz1
 have H3:=gh hz3
 have e2:r=(decide (6≤s.xs.length) && (z1 == 1) && (z3 == 0) && (sndSlot s (sndW s (fuel s)) 6 (-9223372036854775808) 9223372036854775807 base0).isSome):=by
  rw [← e1,soundB,hz1,hz3]
 have E2:=gh e2
 clear h ho hz1 hz3 e1 e2
 by_cases c1:z1=1
 ·by_cases c3:z3=0
  ·subst c1 c3
   obtain ⟨N,hN⟩:∃ N,s.xs.length=N:=⟨_,rfl⟩
   have HN:=gh hN
   have HNi:Hid ((s.xs.length:Int)=(N:Int)):=gh (by omega)
   have n1:N≤65536:=by rw [← hN];exact HO.out.2
   have hmk:=run_make58 (N+1) (by omega)
   rw [show ((N+1:Nat):Int)=(N:Int)+1 from rfl] at hmk
   clear hN
   go_enter Tryz.func30,Tryz.ntmps30
   go_wp2_with (fail)
   refine (lk_p _ b s 1 1 H.out H1.out).mono ?_
   rintro e w' ⟨rfl,rfl⟩
   go_wp2_with (fail)
   refine (lk_p _ b s 3 0 H.out H3.out).mono ?_
   rintro e w' ⟨rfl,rfl⟩
   go_wp2_with (fail)
   refine (used_k _ b s N H.out HNi.out).mono ?_
   rintro e w' ⟨rfl,rfl⟩
   go_wp2_with (fail)
   have C0:Chk w ((w.alloc (.cells (madeCells #[.bool false] (N+1)) 4)).alloc (.cells #[.pointer (some ⟨b,0,none⟩),.slice (some ⟨w.heap.size,0,none⟩) (N+1) (N+1)] 143)) b s (w.heap.size+1) w.heap.size (fun _=>false):=by
    refine ⟨H.out,HO.out,((Kept.refl w).alloc _).alloc _,by omega,Nat.le_refl _,by omega,?_,?_⟩
    ·rw [HN.out]
     have:=heap_new (w.alloc (.cells (madeCells #[.bool false] (N+1)) 4)) (.cells #[.pointer (some ⟨b,0,none⟩),.slice (some ⟨w.heap.size,0,none⟩) (N+1) (N+1)] 143)
     rwa [show (w.alloc (.cells (madeCells #[.bool false] (N+1)) 4)).heap.size=w.heap.size+1 by simp] at this
    ·rw [HN.out]
     exact (World.rowIs_made w (.bool false) (N+1) 4).alloc _
   have HC:=gh C0
   obtain ⟨W1,hW1⟩:∃ W1,((w.alloc (.cells (madeCells #[.bool false] (N+1)) 4)).alloc (.cells #[.pointer (some ⟨b,0,none⟩),.slice (some ⟨w.heap.size,0,none⟩) (N+1) (N+1)] 143))=W1:=⟨_,rfl⟩
   rw [hW1] at HC ⊢
   clear hW1 C0 hmk
   by_cases h6:6≤N
   ·have HT:Hid (takeO (s.xs.length+1) (fun _=>false) 1 6=some base0):=gh (by
     rw [HN.out,takeO,if_pos]
     ·rfl
     ·simp [freeB];omega)
    have HFU:Hid (freeN (s.xs.length+1) base0 < fuel s):=gh (by
     have:=freeN_le (s.xs.length+1) base0
     unfold fuel;omega)
    refine (take_p w _ b s _ _ _ HC.out 1 6 (by omega) (by omega) (by omega) _ HT.out).mono ?_
    rintro e W2 ⟨rfl,hT,t',hC,ht'⟩
    have:=ht' _ rfl
    subst this
    have HC2:=gh hC
    clear hT hC ht' HC
    obtain ⟨u,hu⟩:∃ u,sndSlot s (sndW s (fuel s)) 6 (-9223372036854775808) 9223372036854775807 base0=u:=⟨_,rfl⟩
    have HU:=gh hu
    have HR:Hid (r=u.isSome):=gh (by rw [E2.out,hu,HN.out];simp [h6])
    clear hu
    go_wp2_with (fail)
    refine (slot_of_word _ (word_p (fuel s)) w _ b s _ _ _ HC2.out 6 (-9223372036854775808) 9223372036854775807 ⟨by decide,by decide⟩ ⟨by decide,by decide⟩ HFU.out u HU.out).mono ?_
    rintro e W3 ⟨rfl,hT,t',hC,ht'⟩
    have HC3:=gh hC
    clear hT hC ht' HC2
    go_wp2
    go_ret
    exact ⟨by rw [HR.out];rfl,HC3.out.kept⟩
   ·have HT:Hid (takeO (s.xs.length+1) (fun _=>false) 1 6=none):=gh (by
     rw [HN.out,takeO,if_neg]
     simp;omega)
    have HR:Hid (r=false):=gh (by rw [E2.out,HN.out];simp [h6])
    refine (take_p w _ b s _ _ _ HC.out 1 6 (by omega) (by omega) (by omega) _ HT.out).mono ?_
    rintro e W2 ⟨rfl,hT,t',hC,ht'⟩
    have HC2:=gh hC
    clear hT hC ht' HC
    go_wp2
    go_ret
    exact ⟨by rw [HR.out];rfl,HC2.out.kept⟩
  ·have HR:Hid (r=false):=gh (by rw [E2.out];simp [c3])
   have g1:(z3 == 0)=false:=by simp [c3]
   have g2:(z3 != 0)=true:=by simp [c3]
   subst c1
   clear c3
   go_enter Tryz.func30,Tryz.ntmps30
   go_wp2_with (fail)
   refine (lk_p _ b s 1 1 H.out H1.out).mono ?_
   rintro e w' ⟨rfl,rfl⟩
   go_wp2_with (fail)
   refine (lk_p _ b s 3 z3 H.out H3.out).mono ?_
   rintro e w' ⟨rfl,rfl⟩
   go_wp2
   go_ret
   exact ⟨by rw [HR.out];rfl,Kept.refl _⟩
 ·have HR:Hid (r=false):=gh (by rw [E2.out];simp [c1])
  have g1:(z1 == 1)=false:=by simp [c1]
  have g2:(z1 != 1)=true:=by simp [c1]
  clear c1
  go_enter Tryz.func30,Tryz.ntmps30
  go_wp2_with (fail)
  refine (lk_p _ b s 1 z1 H.out H1.out).mono ?_
  rintro e w' ⟨rfl,rfl⟩
  go_wp2
  go_ret
  exact ⟨by rw [HR.out];rfl,Kept.refl _⟩
end
section
section
variable (s:Mst)
def tgt (w:Int):Int:=if kd w=4 then s.look (ad w) else w
def atN (w:Int):Nat:=(ad (tgt s w)).toNat
def degN (w:Int):Nat:=(s.look (ad (tgt s w))).toNat
def slotsL (w:Int):List (Int × Int):=if kd (tgt s w)=3 then (List.range (degN s w)).map (fun i:Nat=>((i:Int),childS (atN s w) (degN s w) i)) else []
structure WfH (w:Int):Prop where
 i64:I64 w
 deg:kd (tgt s w)=3→2≤s.look (ad (tgt s w))∧s.look (ad (tgt s w))≤40000
 tg:kd w=4→kd (tgt s w)=3
def Wf:Nat→Int→Prop
 | 0,_=>False
 | f+1,w=>WfH s w∧∀ p ∈ slotsL s w,Wf f (s.logicZ p.2)
def spotsF:Nat→Int→List (Int × Int)
 | 0,_=>[]
 | f+1,w=>(slotsL s w).flatMap (fun p=>(p.2,s.logicZ p.2) :: spotsF f (s.logicZ p.2))
end
theorem tgt_i64 {s:Mst} (ho:s.ok) {w:Int} (h:I64 w):I64 (tgt s w):=by
 unfold tgt;split
 ·exact ho.look _
 ·exact h
theorem tgt_tgt {s:Mst} {w:Int} (h:kd (tgt s w)=3):tgt s (tgt s w)=tgt s w:=by
 rw [tgt,if_neg (by rw [h];decide)]
theorem Wf.mono {s:Mst}:∀ {f g:Nat} {w:Int},Wf s f w→f≤g→Wf s g w
 | 0,_,_,h,_=>h.elim
 | f+1,0,_,_,h=>absurd h (by omega)
 | f+1,g+1,_,h,hg=>⟨h.1,fun p hp=>(h.2 p hp).mono (by omega)⟩
theorem Wf.pos {s:Mst} {f:Nat} {w:Int} (h:Wf s f w):∃ g,f=g+1∧WfH s w∧∀ p ∈ slotsL s w,Wf s g (s.logicZ p.2):=by
 cases f with
 | zero=>exact h.elim
 | succ f=>exact ⟨f,rfl,h.1,h.2⟩
theorem Wf.up {s:Mst} {f:Nat} {w:Int} (hi:I64 w) (hk:kd (s.look (ad w))=3) (h4:kd w=4) (h:Wf s f (s.look (ad w))):Wf s f w:=by
 obtain ⟨g,rfl,h1,h2⟩:=h.pos
 have e1:tgt s w=s.look (ad w):=by rw [tgt,if_pos h4]
 have e2:tgt s (s.look (ad w))=s.look (ad w):=by rw [tgt,if_neg (by rw [hk];decide)]
 have e3:slotsL s w=slotsL s (s.look (ad w)):=by unfold slotsL degN atN;rw [e1,e2]
 refine ⟨⟨hi,?_,?_⟩,?_⟩
 ·rw [e1,← e2];exact h1.deg
 ·intro _;rw [e1];exact hk
 ·rw [e3];exact h2
theorem chain_all {s:Mst} {W:Int→Int→Int→Tk→Option Tk} {a d:Nat} {lo hi:Int} {n:Nat} {t u:Tk} (h:chain (kidG s W a d lo hi) n t=some u):∀ i,i < n→∃ l h t' u',W (s.logicZ (childS a d i)) l h t'=some u':=by
 induction n generalizing u with
 | zero=>intro i hi;omega
 | succ n ih=>
  rw [chain,Option.bind_eq_some_iff] at h
  obtain ⟨v,h1,h2⟩:=h
  intro i hi
  by_cases e:i=n
  ·subst e
   unfold kidG sndSlot at h2
   split at h2
   ·exact ⟨_,_,_,_,h2⟩
   ·cases h2
  ·exact ih h1 i (by omega)
theorem wf_of_snd {s:Mst} (ho:s.ok):∀ (f:Nat) (w lo hi:Int) (t u:Tk),I64 w→sndW s f w lo hi t=some u→Wf s f w
 | 0,_,_,_,_,_,_,h=>by cases h
 | f+1,w,lo,hi,t,u,hw,h=>by
  have ih:=wf_of_snd ho f
  rw [sndW_succ] at h
  have plain:kd w≠3→kd w≠4→Wf s (f+1) w:=fun h3 h4=>by
   have e:tgt s w=w:=by rw [tgt,if_neg h4]
   refine ⟨⟨hw,fun h'=>absurd (e ▸ h') h3,fun h'=>absurd h' h4⟩,?_⟩
   unfold slotsL
   rw [e,if_neg h3]
   intro p hp;cases hp
  split at h
  ·rename_i k;exact plain (by omega) (by omega)
  ·split at h
   ·rename_i k;exact plain (by omega) (by omega)
   ·split at h
    ·rename_i k3
     have e:tgt s w=w:=by rw [tgt,if_neg (by omega)]
     have ha:=ad_range w
     unfold sndInner at h
     have ea:(((ad w).toNat:Nat):Int)=ad w:=by omega
     rw [ea] at h
     split at h
     ·cases h
     ·rename_i hd
      rw [Option.bind_eq_some_iff] at h
      obtain ⟨t1,h1,h2⟩:=h
      split at h2
      ·have hfit:(s.look (ad w)).toNat≤40000:=by
        unfold takeO at h1
        split at h1
        ·rename_i c
         simp only [Bool.and_eq_true,decide_eq_true_eq] at c
         have:=ho.2
         omega
        ·cases h1
       refine ⟨⟨hw,fun _=>by rw [e];omega,fun h'=>by omega⟩,?_⟩
       unfold slotsL
       rw [e,if_pos k3]
       intro p hp
       rw [List.mem_map] at hp
       obtain ⟨i,hi,rfl⟩:=hp
       simp only [List.mem_range,degN,e] at hi
       obtain ⟨l,h',t',u',h3⟩:=chain_all h2 i hi
       have h4:=ih _ _ _ _ _ (ho.logic _) h3
       simpa [degN,atN,e] using h4
      ·cases h2
    ·split at h
     ·rename_i k4
      split at h
      ·rename_i k3
       rw [Option.bind_eq_some_iff] at h
       obtain ⟨t1,h1,h2⟩:=h
       exact ((ih _ _ _ _ _ (ho.look _) h2).up hw k3 k4).mono (by omega)
      ·cases h
     ·cases h
theorem wf_root {s:Mst} (ho:s.ok) (h:soundB s=true):Wf s (fuel s) (s.logicZ 6):=by
 unfold soundB at h
 simp only [Bool.and_eq_true] at h
 have h4:=h.2
 cases e:sndSlot s (sndW s (fuel s)) 6 (-9223372036854775808) 9223372036854775807 base0 with
 | none=>rw [e] at h4;cases h4
 | some u=>
  unfold sndSlot at e
  split at e
  ·exact wf_of_snd ho _ _ _ _ _ _ (ho.logic _) e
  ·cases e
end
section
theorem Td.putObj (w:World) (l:Nat) (o:Obj) {R:Nat→Prop} (h:R l):Td R w (w.putObj l o):=
 ⟨rfl,rfl,rfl,by simp,fun k _ hn=>World.putObj_heap_other (fun e=>hn (by rw [e];exact h))⟩
theorem Td.boxed {R:Nat→Prop} {a b:World} (h:Td R a b) {B:Nat} {t:TypeId} {v:Value} (hb:Boxed a B t v) (hn:¬ R B):Boxed b B t v:=h.heap hb hn
end
section
def Sub (O' O:Nat→Prop) (n:Nat):Prop:=∀ k,O' k→O k∨n≤k
theorem Sub.refl (O:Nat→Prop) (n:Nat):Sub O O n:=fun _ h=>.inl h
theorem Sub.trans {O'' O' O:Nat→Prop} {n m:Nat} (h:Sub O'' O' m) (h':Sub O' O n) (hnm:n≤m):Sub O'' O n:=fun k hk=>(h k hk).elim (h' k) (fun e=>.inr (Nat.le_trans hnm e))
theorem Td.sub {O O':Nat→Prop} {a b c:World} (h:Td O a b) (h':Td O' b c) (hs:Sub O' O a.heap.size):Td O a c:=
 h.trans h' (fun _ e=>e) (fun i hi e=>(hs i e).elim id (fun e'=>by omega))
abbrev Inv (α:Type):=(Nat→Prop)→List α→World→Prop
structure Good {α:Type} (J:Inv α):Prop where
 abides:∀ O pre A B,J O pre A→Td (fun k=>¬ O k) A B→J O pre B
 within:∀ O pre A,J O pre A→∀ k,O k→k < A.heap.size
def RoundEnds {α:Type} (J Jx:Inv α) (O:Nat→Prop) (pre:List α) (A:World) (e:Ending) (B:World):Prop:=
 ∃ O',Sub O' O A.heap.size∧Td O A B∧((e=.returned (.bool true)∧J O' pre B)∨(e=.returned (.bool false)∧Jx O' pre B))
def Iter {α:Type} (P:Program) (g:Nat) (lb:Array Value) (encs:α→Array Value) (xs:List α) (R:Nat→Prop) (W:World):Prop:=
 ∀ (l:Nat) (O₀:Nat→Prop) (J Jx:Inv α),(∀ k,R k→¬ O₀ k)→Good J→Good Jx→
  (∀ O pre x rest A,xs=pre++x :: rest→Td O₀ W A→Sub O O₀ W.heap.size→J O pre A→YieldAt Fence.wide 9 P l (encs x) A (RoundEnds J Jx O (pre++[x]) A))→
  J O₀ [] W→
  Calls P g (#[.func (.yield l) #[] #[]]++lb) W fun e W'=>(∃ v,e=.returned v)∧∃ O',Sub O' O₀ W.heap.size∧Td O₀ W W'∧(J O' xs W'∨∃ pre rest,xs=pre++rest∧Jx O' pre W')
def BodyEnds {α:Type} (I:Inv α) (Ix:Code→Inv α) (O:Nat→Prop) (pre:List α) (A:World):Exit→Act→World→Prop
 | .normal,_,B=>∃ O',Sub O' O A.heap.size∧Td O A B∧I O' pre B
 | .ret,_,B=>∃ O',Sub O' O A.heap.size∧Td O A B∧Ix .ret O' pre B
 | .exit id,_,B=>∃ O',Sub O' O A.heap.size∧Td O A B∧Ix (.exit id) O' pre B
 | .goto t,_,B=>∃ O',Sub O' O A.heap.size∧Td O A B∧Ix (.goto t) O' pre B
 | .panic _,_,_=>False
 | .outgrown,_,_=>False
def With (O:Nat→Prop) (D:Nat):Nat→Prop:=fun k=>O k∨k=D∨k=D+1
def Inner {α:Type} (I:Inv α) (D:Nat) (o:Obj):Inv α:=fun OO pre W=>
 ∃ O,(∀ k,OO k↔With O D k)∧¬ O D∧¬ O (D+1)∧I O pre W∧W.heap[D+1]? = some o∧W.heap[D]? = some (.deferred (some []))
theorem Inner.good {α:Type} {I:Inv α} (h:Good I) (D:Nat) (o:Obj):Good (Inner I D o):=by
 constructor
 ·rintro OO pre A B ⟨O,e,h1,h2,hi,hl,hd⟩ ht
  have ho:∀ k,With O D k→k < A.heap.size→B.heap[k]? = A.heap[k]?:=fun k hk hlt=>ht.block k hlt (fun hn=>hn ((e k).2 hk))
  refine ⟨O,e,h1,h2,h.abides O pre A B hi (ht.mono fun k _ hk hn=>hk ((e k).2 (.inl hn))),?_,?_⟩
  ·exact (ho _ (.inr (.inr rfl)) (Array.getElem?_eq_some_iff.1 hl).1).trans hl
  ·exact (ho _ (.inr (.inl rfl)) (Array.getElem?_eq_some_iff.1 hd).1).trans hd
 ·rintro OO pre A ⟨O,e,_,_,hi,hl,hd⟩ k hk
  rcases (e k).1 hk with hk | rfl | rfl
  ·exact h.within O pre A hi k hk
  ·exact (Array.getElem?_eq_some_iff.1 hd).1
  ·exact (Array.getElem?_eq_some_iff.1 hl).1
theorem Good.ex {α:Type} {β:Type} {I:β→Inv α} (h:∀ c,Good (I c)):Good (fun O pre W=>∃ c,I c O pre W):=
 ⟨fun O pre A B ⟨c,hi⟩ ht=>⟨c,(h c).abides O pre A B hi ht⟩,fun O pre A ⟨c,hi⟩=>(h c).within O pre A hi⟩
theorem wp_range {P:Program} {α:Type} {n:Nat} {g:Operand} {ps:Array Tmp} {assign body:Code} {Q:Exit→Act→World→Prop} {a:Act} {w:World}
  {gf:Nat} {lb:Array Value} (hg:a.eval g=.func (.func gf) #[] lb) (eg:∀ args w,(callFunc gf args).run P w=.ok (.enter gf args) w)
  {encs:α→Array Value} {xs:List α} {R:Nat→Prop} (hit:∀ W,Td (fun _=>False) w W→Iter P gf lb encs xs R W) (hps:∀ x,(encs x).size=ps.size)
  (O₀:Nat→Prop) (I:Inv α) (Ix:Code→Inv α) (hR:∀ k,R k→k < w.heap.size∧¬ O₀ k) (hI:Good I) (hIx:∀ c,Good (Ix c)) (h0:I O₀ [] w) (a₁:α→Act)
  (hassign:∀ (l:Nat) (x:α) (W:World) (K:Act→World→Prop),K (a₁ x) W→
   assign.wpIn (Fence.wide.inRound l) 9 P (Exit.then K (fun _ _ _=>False)) { tmps:=(ps.zip (encs x)).foldl (fun t (p,v)=>t.setIfInBounds p v) a.tmps,defers:=[] } W)
  (hbody:∀ (l:Nat) (O:Nat→Prop) (pre:List α) (x:α) (rest:List α) (W:World),xs=pre++x :: rest→Td O₀ w W→Sub O O₀ w.heap.size→I O pre W→
   body.wpIn (Fence.wide.inRound l) 9 P (BodyEnds I Ix O (pre++[x]) W) (a₁ x) W)
  (hdone:∀ (D:Nat) (O:Nat→Prop) (W:World),w.heap.size≤D→¬ O D→Td O₀ w W→Sub O O₀ w.heap.size→I O xs W→W.heap[D]? = some (.deferred (some []))→
   Q .normal { a with defers:={ target:=.collected D,args:=#[] } :: a.defers } W)
  (hstop:∀ (D:Nat) (O:Nat→Prop) (c:Code) (pre rest:List α) (W:World),w.heap.size≤D→¬ O D→Td O₀ w W→Sub O O₀ w.heap.size→xs=pre++rest→Ix c O pre W→W.heap[D]? = some (.deferred (some []))→
   c.wpIn Fence.wide n P Q { a with defers:={ target:=.collected D,args:=#[] } :: a.defers } W) :
  (Code.rangeFunc g ps assign body).wpIn Fence.wide n P Q a w:=by
 refine wpIn_rangeFunc ?_
 intro fn hfn
 obtain ⟨rec,hrec⟩:∃ rec:LoopState→Option Code→Loop,rec=fun st pe=>{ state:=st,pending:=pe,fn,tmps:=a.tmps,params:=ps,assign,body,defers:=w.heap.size }:=⟨_,rfl⟩
 obtain ⟨D,hD⟩:∃ D,w.heap.size=D:=⟨_,rfl⟩
 obtain ⟨W1,hW1⟩:∃ W1,(w.alloc (.deferred (some []))).alloc (.loop (rec .ready none))=W1:=⟨_,rfl⟩
 have t1:Td (fun _=>False) w W1:=by
  rw [← hW1]
  exact (Td.alloc _ w _).trans (Td.alloc _ _ _) (fun _ h=>h) (fun _ _ h=>h)
 have z1:W1.heap.size=D+2:=by rw [← hW1,World.size_alloc,World.size_alloc,hD]
 have hl1:W1.heap[D+1]? = some (.loop (rec .ready none)):=by
  rw [← hW1,← hD]
  have:=World.alloc_heap_new (w.alloc (.deferred (some []))) (.loop (rec .ready none))
  rwa [World.size_alloc] at this
 have hd1:W1.heap[D]? = some (.deferred (some [])):=by
  rw [← hW1,← hD]
  exact (Below.heap_alloc _ _ _ (by simp)).trans (World.alloc_heap_new w _)
 have w0:∀ k,O₀ k→k < D:=fun k hk=>by rw [← hD];exact hI.within O₀ [] w h0 k hk
 have hi1:I O₀ [] W1:=hI.abides O₀ [] w W1 h0 (t1.mono fun _ _ h=>h.elim)
 have back:∀ {OO:Nat→Prop} {A:World},Td OO W1 A→(∀ k,OO k↔With O₀ D k)→Td O₀ w A:=fun {OO A} h e=>
  t1.trans h (fun _ h=>h.elim) (fun i hi hk=>by
   rcases (e i).1 hk with hk | rfl | rfl
   ·exact hk
   ·omega
   ·omega)
 have e0:∀ k,With O₀ D k↔With O₀ D k:=fun _=>Iff.rfl
 refine ⟨D+1,[{ target:=.collected D,args:=#[] }],W1,{ target:=.fn (.func gf) lb,args:=#[.func (.yield (D+1)) #[] #[]] },W1,gf,
  #[.func (.yield (D+1)) #[] #[]]++lb,W1,?_,?_,fun _ _=>trivial,?_,fun h=>by simp [Fence.wide] at h,?_⟩
 ·rw [← hW1,← hD,hrec]
  exact run_enterLoop_outer _ _ _ _ _
 ·simp only [resolve,hg]
  simp [go_sem]
 ·simp [invoke,go_sem,eg]
 ·have hc:=hit W1 t1 (D+1) (With O₀ D) (Inner I D (.loop (rec .ready none))) (fun OO pre W=>∃ c,Inner (Ix c) D (.loop (rec .done (some c))) OO pre W)
   (fun k hk hO=>by
    obtain ⟨hk1,hk2⟩:=hR k hk
    rcases hO with hO | rfl | rfl
    ·exact hk2 hO
    ·omega
    ·omega)
   (Inner.good hI D _) (Good.ex fun c=>Inner.good (hIx c) D _) ?_ ⟨O₀,e0,fun h=>by have:=w0 _ h;omega,fun h=>by have:=w0 _ h;omega,hi1,hl1,hd1⟩
  ·refine callsIn_wide.2 (hc.mono ?_)
   rintro e W2 ⟨⟨v,rfl⟩,OO,hsub,ht,hJ⟩
   have tb:=back ht e0
   rcases hJ with ⟨O,e,n1,n2,hi,hl,hd⟩ | ⟨pre,rest,hx,c,O,e,n1,n2,hi,hl,hd⟩
   ·obtain ⟨o,hr⟩:∃ o,(Instr.endLoop (D+1)).run P W2=.ok none (W2.putObj (D+1) o):=⟨_,by have:=run_endLoop (P:=P) hl (by rw [hrec];simp);rw [hrec] at this;exact this⟩
    have hput:Td (fun k=>k=D+1) W2 (W2.putObj (D+1) o):=Td.putObj _ _ _ rfl
    refine ⟨none,_,hr,?_⟩
    refine hdone D O _ (by omega) n1 (tb.trans hput (fun _ h=>h) (fun i hi h=>by omega)) ?_ (hI.abides O xs W2 _ hi (hput.mono fun k _ hk hO=>n2 (by rw [← hk];exact hO))) ((World.putObj_heap_other (by omega)).trans hd)
    intro k hk
    rcases hsub k ((e k).2 (.inl hk)) with (h | rfl | rfl) | h
    ·exact .inl h
    ·exact (n1 hk).elim
    ·exact (n2 hk).elim
    ·exact .inr (by omega)
   ·obtain ⟨o,hr⟩:∃ o,(Instr.endLoop (D+1)).run P W2=.ok (some c) (W2.putObj (D+1) o):=⟨_,by have:=run_endLoop (P:=P) hl (by rw [hrec];simp);rw [hrec] at this;exact this⟩
    have hput:Td (fun k=>k=D+1) W2 (W2.putObj (D+1) o):=Td.putObj _ _ _ rfl
    refine ⟨some c,_,hr,?_⟩
    refine hstop D O c pre rest _ (by omega) n1 (tb.trans hput (fun _ h=>h) (fun i hi h=>by omega)) ?_ hx ((hIx c).abides O pre W2 _ hi (hput.mono fun k _ hk hO=>n2 (by rw [← hk];exact hO))) ((World.putObj_heap_other (by omega)).trans hd)
    intro k hk
    rcases hsub k ((e k).2 (.inl hk)) with (h | rfl | rfl) | h
    ·exact .inl h
    ·exact (n1 hk).elim
    ·exact (n2 hk).elim
    ·exact .inr (by omega)
  ·-- one round
   rintro OO pre x rest A hx tA hsA ⟨O,e,n1,n2,hi,hl,hd⟩
   have hlt:D+1 < A.heap.size:=(Array.getElem?_eq_some_iff.1 hl).1
   have tb:=back tA e0
   have sO:Sub O O₀ w.heap.size:=fun k hk=>by
    rcases hsA k ((e k).2 (.inl hk)) with (h | rfl | rfl) | h
    ·exact .inl h
    ·exact (n1 hk).elim
    ·exact (n2 hk).elim
    ·exact .inr (by omega)
   have hy:=run_yield (P:=P) (args:=encs x) hl (by rw [hrec];exact hps x)
   rw [hrec] at hy
   refine ⟨fn,_,assign,body,hy,roundIn_of_wpIn hfn (hassign _ x A _ ⟨_,run_beginRound hl (by rw [hrec]),?_⟩)⟩
   clear hy
   obtain ⟨A1,hA1⟩:∃ A1,A.putObj (D+1) (.loop { rec .ready none with state:=.busy })=A1:=⟨_,rfl⟩
   rw [hA1]
   have hput:Td (fun k=>k=D+1) A A1:=by rw [← hA1];exact Td.putObj _ _ _ rfl
   have hl2:A1.heap[D+1]? = some (.loop { rec .ready none with state:=.busy }):=by rw [← hA1];exact World.putObj_heap_same hlt
   have hd2:A1.heap[D]? = some (.deferred (some [])):=by rw [← hA1];exact (World.putObj_heap_other (by omega)).trans hd
   have zA:A1.heap.size=A.heap.size:=by rw [← hA1];simp
   have hi2:I O pre A1:=hI.abides O pre A A1 hi (hput.mono fun k _ hk hO=>n2 (by rw [← hk];exact hO))
   have fin:∀ (jump:Option Code) (B:World),Td O A1 B→
     (Instr.endRound (D+1) jump).run P B=.ok (.bool jump.isNone) (B.putObj (D+1) (.loop (rec (if jump.isNone then .ready else .done) jump)))∧
     (B.putObj (D+1) (.loop (rec (if jump.isNone then .ready else .done) jump))).heap[D+1]? = some (.loop (rec (if jump.isNone then .ready else .done) jump))∧
     (B.putObj (D+1) (.loop (rec (if jump.isNone then .ready else .done) jump))).heap[D]? = some (.deferred (some []))∧
     Td OO A (B.putObj (D+1) (.loop (rec (if jump.isNone then .ready else .done) jump))):=fun jump B tB=>by
    have hl3:=tB.heap hl2 n2
    have hd3:=tB.heap hd2 n1
    have hr:=run_endRound (P:=P) jump hl3
    rw [hrec] at hr ⊢
    refine ⟨hr,World.putObj_heap_same (Array.getElem?_eq_some_iff.1 hl3).1,(World.putObj_heap_other (by omega)).trans hd3,?_⟩
    refine (hput.trans (tB.trans (Td.putObj (R:=fun k=>k=D+1) B (D+1) _ rfl) (R'':=OO) (fun k hk=>(e k).2 (.inl hk)) (fun k _ hk=>(e k).2 (.inr (.inr hk)))) (fun k hk=>(e k).2 (.inr (.inr hk))) (fun _ _ h=>h))
   have fol:∀ {O':Nat→Prop} {J':Inv α} {o:Obj} {B:World} {ys:List α},Good J'→Sub O' O A1.heap.size→Td O A1 B→J' O' ys B→(∀ k,O' k→k < B.heap.size)→
     (B.putObj (D+1) o).heap[D+1]? = some o→(B.putObj (D+1) o).heap[D]? = some (.deferred (some []))→Sub (With O' D) OO A.heap.size∧Inner J' D o (With O' D) ys (B.putObj (D+1) o):=fun {O' J' o B ys} gJ s' tB hj wi q1 q2=>by
    have m1:¬ O' D:=fun h=>(s' D h).elim n1 (fun h'=>by omega)
    have m2:¬ O' (D+1):=fun h=>(s' (D+1) h).elim n2 (fun h'=>by omega)
    refine ⟨fun k hk=>?_,O',fun _=>Iff.rfl,m1,m2,gJ.abides O' ys B _ hj ((Td.putObj (R:=fun k=>k=D+1) B (D+1) o rfl).mono fun k _ hk hO=>m2 (by rw [← hk];exact hO)),q1,q2⟩
    rcases hk with hk | rfl | rfl
    ·exact (s' k hk).imp (fun h=>(e k).2 (.inl h)) (fun h=>by omega)
    ·exact .inl ((e _).2 (.inr (.inl rfl)))
    ·exact .inl ((e _).2 (.inr (.inr rfl)))
   refine wpIn_mono (hbody _ O pre x rest A1 hx (tb.trans hput (fun _ h=>h) (fun i hi h=>by omega)) sO hi2) ?_
   rintro ex a3 B hp
   cases ex with
   | normal=>
    obtain ⟨O',s',tB,hj⟩:=hp
    obtain ⟨hr,q1,q2,q3⟩:=fin none B tB
    obtain ⟨f1,f2⟩:=fol hI s' tB hj (hI.within _ _ _ hj) q1 q2
    exact ⟨_,_,hr,With O' D,f1,q3,.inl ⟨rfl,f2⟩⟩
   | ret=>
    obtain ⟨O',s',tB,hj⟩:=hp
    obtain ⟨hr,q1,q2,q3⟩:=fin (some .ret) B tB
    obtain ⟨f1,f2⟩:=fol (hIx _) s' tB hj ((hIx _).within _ _ _ hj) q1 q2
    exact ⟨_,_,hr,With O' D,f1,q3,.inr ⟨rfl,_,f2⟩⟩
   | exit id=>
    obtain ⟨O',s',tB,hj⟩:=hp
    obtain ⟨hr,q1,q2,q3⟩:=fin (some (.exit id)) B tB
    obtain ⟨f1,f2⟩:=fol (hIx _) s' tB hj ((hIx _).within _ _ _ hj) q1 q2
    exact ⟨_,_,hr,With O' D,f1,q3,.inr ⟨rfl,_,f2⟩⟩
   | goto t=>
    obtain ⟨O',s',tB,hj⟩:=hp
    obtain ⟨hr,q1,q2,q3⟩:=fin (some (.goto t)) B tB
    obtain ⟨f1,f2⟩:=fol (hIx _) s' tB hj ((hIx _).within _ _ _ hj) q1 q2
    exact ⟨_,_,hr,With O' D,f1,q3,.inr ⟨rfl,_,f2⟩⟩
   | panic ch=>exact hp.elim
   | outgrown=>exact hp.elim
theorem wp_range' {P:Program} {α:Type} {g:Operand} {ps:Array Tmp} {assign body:Code} {Q:Exit→Act→World→Prop} {a:Act} {w:World}
  {gf:Nat} {lb:Array Value} (hg:a.eval g=.func (.func gf) #[] lb) (eg:∀ args w,(callFunc gf args).run P w=.ok (.enter gf args) w)
  {encs:α→Array Value} {xs:List α} {R:Nat→Prop} (hit:∀ W,Td (fun _=>False) w W→Iter P gf lb encs xs R W) (hps:∀ x,(encs x).size=ps.size)
  (O₀:Nat→Prop) (I:Inv α) (Ix:Code→Inv α) (hR:∀ k,R k→k < w.heap.size∧¬ O₀ k) (hI:Good I) (hIx:∀ c,Good (Ix c)) (h0:I O₀ [] w) (a₁:α→Act)
  (hassign:∀ (l:Nat) (x:α) (W:World) (K:Act→World→Prop),K (a₁ x) W→
   assign.wpIn (Fence.wide.inRound l) 9 P (Exit.then K (fun _ _ _=>False)) { tmps:=(ps.zip (encs x)).foldl (fun t (p,v)=>t.setIfInBounds p v) a.tmps,defers:=[] } W)
  (hbody:∀ (l:Nat) (O:Nat→Prop) (pre:List α) (x:α) (rest:List α) (W:World),xs=pre++x :: rest→Td O₀ w W→Sub O O₀ w.heap.size→I O pre W→
   body.wpIn (Fence.wide.inRound l) 9 P (BodyEnds I Ix O (pre++[x]) W) (a₁ x) W)
  (hdone:∀ (D:Nat) (O:Nat→Prop) (W:World),w.heap.size≤D→¬ O D→Td O₀ w W→Sub O O₀ w.heap.size→I O xs W→W.heap[D]? = some (.deferred (some []))→
   Q .normal { a with defers:={ target:=.collected D,args:=#[] } :: a.defers } W)
  (hstop:∀ (D:Nat) (O:Nat→Prop) (c:Code) (pre rest:List α) (W:World),w.heap.size≤D→¬ O D→Td O₀ w W→Sub O O₀ w.heap.size→xs=pre++rest→Ix c O pre W→W.heap[D]? = some (.deferred (some []))→
   c.wp P Q { a with defers:={ target:=.collected D,args:=#[] } :: a.defers } W) :
  (Code.rangeFunc g ps assign body).wp P Q a w:=
 (wpIn_wide (n:=9)).1 (wp_range hg eg hit hps O₀ I Ix hR hI hIx h0 a₁ hassign hbody hdone (fun D O c pre rest W h1 h2 h3 h4 h5 h6 h7=>wpIn_wide.2 (hstop D O c pre rest W h1 h2 h3 h4 h5 h6 h7)))
theorem calls_marks {P:Program} {f:FuncId} {fn:Func} {c:Code} {args:Array Value} {w:World} {Q:Ending→World→Prop}
  (hf:P.funcs[f]? = some fn) (hb:fn.body=some c)
  (h:c.wp P (bodyPostM Fence.wide 9 P fn Q) { tmps:=args++Array.replicate (fn.ntmps - args.size) undef,defers:=[] } w):Calls P f args w Q:=
 (callsIn_wide (n:=9)).1 (callsIn_of_wp_marks hf hb trivial (wpIn_wide.2 h) rfl)
theorem Boxed.own {O:Nat→Prop} {A A':World} {B:Nat} {t:TypeId} {u:Value} (h:Boxed A B t u) (hO:O B) (ht:Td (fun k=>¬ O k) A A'):Boxed A' B t u:=ht.boxed h (fun hn=>hn hO)
end
section
theorem wp_range2 {P:Program} {α:Type} {g:Operand} {ps:Array Tmp} {assign body:Code} {Q:Exit→Act→World→Prop} {a:Act} {w:World}
  {gf:Nat} {lb:Array Value} (hg:a.eval g=.func (.func gf) #[] lb) (eg:∀ args w,(callFunc gf args).run P w=.ok (.enter gf args) w)
  {encs:α→Array Value} {xs:List α} {R:Nat→Prop} (hit:∀ W,Td (fun _=>False) w W→Iter P gf lb encs xs R W) (hps:∀ x,(encs x).size=ps.size)
  (O₀:Nat→Prop) (I:Inv α) (Ix:Code→Inv α) (hR:∀ k,R k→k < w.heap.size∧¬ O₀ k) (hI:Good I) (hIx:∀ c,Good (Ix c)) (h0:I O₀ [] w)
  (hab:∃ a₁:α→Act,(∀ (l:Nat) (x:α) (W:World) (K:Act→World→Prop),K (a₁ x) W→
    assign.wpIn (Fence.wide.inRound l) 9 P (Exit.then K (fun _ _ _=>False)) { tmps:=(ps.zip (encs x)).foldl (fun t (p,v)=>t.setIfInBounds p v) a.tmps,defers:=[] } W)∧
   (∀ (l:Nat) (O:Nat→Prop) (pre:List α) (x:α) (rest:List α) (W:World),xs=pre++x :: rest→Td O₀ w W→Sub O O₀ w.heap.size→I O pre W→
    body.wpIn (Fence.wide.inRound l) 9 P (BodyEnds I Ix O (pre++[x]) W) (a₁ x) W))
  (hdone:∀ (D:Nat) (O:Nat→Prop) (W:World),w.heap.size≤D→¬ O D→Td O₀ w W→Sub O O₀ w.heap.size→I O xs W→W.heap[D]? = some (.deferred (some []))→
   Q .normal { a with defers:={ target:=.collected D,args:=#[] } :: a.defers } W)
  (hstop:∀ (D:Nat) (O:Nat→Prop) (c:Code) (pre rest:List α) (W:World),w.heap.size≤D→¬ O D→Td O₀ w W→Sub O O₀ w.heap.size→xs=pre++rest→Ix c O pre W→W.heap[D]? = some (.deferred (some []))→
   c.wp P Q { a with defers:={ target:=.collected D,args:=#[] } :: a.defers } W) :
  (Code.rangeFunc g ps assign body).wp P Q a w:=by
 obtain ⟨a₁,h1,h2⟩:=hab
 exact wp_range' hg eg hit hps O₀ I Ix hR hI hIx h0 a₁ h1 h2 hdone hstop
abbrev markOf (D:Nat):Deferred:={ target:=.collected D,args:=#[] }
theorem leave_marks {F:Fence} {n:Nat} {P:Program} {fn:Func} {tmps:Array Value} {R:Ending→World→Prop}:∀ (Ds:List Nat) (X:World),(∀ D ∈ Ds,X.heap[D]? = some (.deferred (some [])))→Ds.Nodup→
  (∀ X',Td (fun k=>k ∈ Ds) X X'→∃ v,(results fn tmps).run P X'=.ok v X'∧R (.returned v) X')→LeavesInM F n P fn tmps R (Ds.map markOf) .returning X
 | [],X,_,_,h=>h X (Td.refl _ _)
 | D :: Ds,X,hD,hn,h=>by
  have h1:=hD D (List.mem_cons_self ..)
  obtain ⟨hn1,hn2⟩:=List.nodup_cons.1 hn
  refine ⟨by simp,.inl ⟨D,_,rfl,run_takeDeferred h1,leave_marks Ds _ (fun E hE=>?_) hn2 (fun X' hX'=>h X' ?_)⟩⟩
  ·exact (World.putObj_heap_other (fun e=>hn1 (by rw [← e];exact hE))).trans (hD E (List.mem_cons_of_mem _ hE))
  ·exact (Td.putObj (R:=fun k=>k=D) X D _ rfl).trans hX' (fun _ e=>List.mem_cons.2 (.inl e)) (fun _ _ e=>List.mem_cons_of_mem _ e)
end
section
open Go.Shelf
attribute [local go_sem] Oper.semAt_some
theorem target_p (w:World) (b:Nat) (s:Mst) (x r:Int) (h:PM w b s) (hx:I64 x) (e1:tgt s x=r) :
  Calls Tryz.prog 133 #[.pointer (some ⟨b,0,none⟩),.int .i64 x] w fun e w'=>e=.returned (.int .i64 r)∧w=w':=by
 have H:=gh h
 have HX:=gh hx
 obtain ⟨k,hk⟩:∃ k,kd x=k:=⟨_,rfl⟩
 obtain ⟨p,hp⟩:∃ p,ad x=p:=⟨_,rfl⟩
 have kr:=ad_range x
 rw [hp] at kr
 obtain ⟨p0,p1⟩:=kr
 have HK:=gh hk
 have HP:=gh hp
 by_cases hk4:k=4
 ·have e3:Hid (s.look p=r):=gh (by rw [← e1,tgt,if_pos (by rw [hk];exact hk4),hp])
  subst hk4
  clear h hx hk hp e1
  go_enter Tryz.func133,Tryz.ntmps133
  go_wp2_with (fail)
  refine (kk_p _ x 4 HX.out HK.out).mono ?_
  rintro e w' ⟨rfl,rfl⟩
  go_wp2_with (fail)
  refine (ak_p _ x p HX.out HP.out).mono ?_
  rintro e w' ⟨rfl,rfl⟩
  go_wp2_with (fail)
  refine (lk_p _ b s _ r H.out (by first | exact e3.out | simpa using e3.out)).mono ?_
  rintro e w' ⟨rfl,rfl⟩
  go_wp2
  go_ret
  exact ⟨rfl,rfl⟩
 ·have e3:r=x:=by rw [← e1,tgt,if_neg (by rw [hk];exact hk4)]
  have g1:(k == 4)=false:=by simp [hk4]
  have g2:(k != 4)=true:=by simp [hk4]
  subst e3
  clear h hx hk hp e1 hk4
  go_enter Tryz.func133,Tryz.ntmps133
  go_wp2_with (fail)
  refine (kk_p _ r k HX.out HK.out).mono ?_
  rintro e w' ⟨rfl,rfl⟩
  go_wp2
  go_ret
  exact ⟨rfl,rfl⟩
theorem spotAt_p (w:World) (b:Nat) (s:Mst) (a r:Int) (h:PM w b s) (ho:s.ok) (e1:s.logicZ a=r) :
  Calls Tryz.prog 128 #[.pointer (some ⟨b,0,none⟩),.int .i64 a] w fun e w'=>e=.returned (.agg #[.int .i64 a,.int .i64 r])∧Kept w w':=by
 have H:=gh (h.kept (Kept.alloc (Kept.refl w) (.cells #[.int .i64 0,.int .i64 0] 94)))
 have HO:=gh ho
 have HE:=gh e1
 clear h ho e1
 go_enter Tryz.func128,Tryz.ntmps128
 go_wp2_with (fail)
 refine (logic_p _ b s a r H.out HO.out HE.out).mono ?_
 rintro e w' ⟨rfl,rfl⟩
 go_wp2
 refine bodyPost_ret (v:=.agg #[.int .i64 a,.int .i64 r]) (by simp [results,Tryz.results128,go_sem]) rfl ⟨rfl,?_⟩
 exact Td.alloc _ _ _
theorem slots_c (w:World) (b:Nat) (x:Int) :
  Calls Tryz.prog 136 #[.pointer (some ⟨b,0,none⟩),.int .i64 x] w fun e w'=>e=.returned (.func (.func 172) #[] #[.pointer (some ⟨w.heap.size,0,none⟩),.pointer (some ⟨w.heap.size+1,0,none⟩)])∧w'=(w.alloc (.cells #[.pointer (some ⟨b,0,none⟩)] 36)).alloc (.cells #[.int .i64 x] 2):=by
 go_enter Tryz.func136,Tryz.ntmps136
 go_wp2
 go_ret
 exact ⟨rfl,rfl⟩
theorem slots_k (w:World) (b:Nat) (x:Int) :
  Calls Tryz.prog 136 #[.pointer (some ⟨b,0,none⟩),.int .i64 x] w fun e w'=>∃ B1 B2,e=.returned (.func (.func 172) #[] #[.pointer (some ⟨B1,0,none⟩),.pointer (some ⟨B2,0,none⟩)])∧Kept w w'∧Boxed w' B1 36 (.pointer (some ⟨b,0,none⟩))∧Boxed w' B2 2 (.int .i64 x)∧w.heap.size≤B1∧w.heap.size≤B2:=by
 refine (slots_c w b x).mono ?_
 rintro e w' ⟨rfl,rfl⟩
 refine ⟨_,_,rfl,((Kept.refl w).alloc _).alloc _,(Boxed.new w 36 _).alloc _,?_,Nat.le_refl _,by omega⟩
 have:=Boxed.new (w.alloc (.cells #[.pointer (some ⟨b,0,none⟩)] 36)) 2 (.int .i64 x)
 rwa [World.size_alloc] at this
theorem round_any {P:Program} {m m' l l':Nat} {f:FuncId} {tmps:Array Value} {assign body:Code} {w:World} {Q:Ending→World→Prop} (h:RoundIn Fence.wide m P l f tmps assign body w Q):RoundIn (Fence.wide.inRound l') m' P l f tmps assign body w Q:=
 ⟨h.1,fun c cs _=>h.2 c cs (fun d hd=>by simp [Fence.wide] at hd)⟩
abbrev enc2 (x:Int × Int):Array Value:=#[.int .i64 x.1,.int .i64 x.2]
theorem at_split {α:Type} {L:List α} {k:Nat} {p:α} (h:L[k]? = some p):L=L.take k++p :: L.drop (k+1)∧L.take k++[p]=L.take (k+1):=by
 obtain ⟨hk,rfl⟩:=List.getElem?_eq_some_iff.1 h
 refine ⟨?_,?_⟩
 ·rw [List.getElem_cons_drop,List.take_append_drop]
 ·rw [List.take_succ_eq_append_getElem hk]
theorem slotsL_none {s:Mst} {x:Int} (h:kd (tgt s x)≠3):slotsL s x=[]:=by unfold slotsL;rw [if_neg h]
theorem slotsL_len {s:Mst} {x:Int} (h:kd (tgt s x)=3):(slotsL s x).length=degN s x:=by unfold slotsL;rw [if_pos h];simp
theorem slotsL_at {s:Mst} {x:Int} (h:kd (tgt s x)=3) {k:Nat} (hk:k < degN s x):(slotsL s x)[k]? = some ((k:Int),childS (atN s x) (degN s x) k):=by
 unfold slotsL
 rw [if_pos h,List.getElem?_map,List.getElem?_range hk]
 rfl
def SlotR (w:World) (B1 B2:Nat):Nat→Prop:=fun k=>k < w.heap.size∨k=B1∨k=B2
set_option maxHeartbeats 1000000 in
theorem slots_i (w W:World) (hk:Kept w W) (b:Nat) (s:Mst) (hM:PM w b s) (ho:s.ok) (x:Int) (hx:WfH s x) (B1 B2:Nat) (h1:Boxed W B1 36 (.pointer (some ⟨b,0,none⟩))) (h2:Boxed W B2 2 (.int .i64 x)) :
  Iter Tryz.prog 172 #[.pointer (some ⟨B1,0,none⟩),.pointer (some ⟨B2,0,none⟩)] enc2 (slotsL s x) (SlotR w B1 B2) W:=by
 intro l O₀ J Jx hR gJ gJx hY h0
 have hkA:∀ A,Td O₀ W A→Kept w A:=fun A t=>Td.trans hk t (fun _ e=>e) (fun i hi e=>hR i (.inl hi) e)
 have hcm:∀ A,Td O₀ W A→A.cell? ⟨B1,0,none⟩=some (.pointer (some ⟨b,0,none⟩)):=fun A t=>t.cell h1.cell (hR B1 (.inr (.inl rfl)))
 have c1:=h1.cell
 have c2:=h2.cell
 have HM:=gh hM
 have HM0:=gh (hM.kept hk)
 have HO:=gh ho
 have HX:=gh hx
 have HY:=gh hY
 have HK:=gh hkA
 have HC:=gh hcm
 have H0:=gh h0
 obtain ⟨t,ht⟩:∃ t,tgt s x=t:=⟨_,rfl⟩
 have HT:=gh ht
 have HTI:Hid (I64 t):=gh (by rw [← ht];exact tgt_i64 ho hx.i64)
 by_cases k3:kd t=3
 ·obtain ⟨p,hp⟩:∃ p,ad t=p:=⟨_,rfl⟩
  have pr:=ad_range t
  rw [hp] at pr
  obtain ⟨a,rfl⟩:∃ a:Nat,p=(a:Int):=⟨p.toNat,by omega⟩
  have a2:(a:Int)≤65536:=pr.2
  have hd:=hx.deg (by rw [ht];exact k3)
  rw [ht,hp] at hd
  obtain ⟨d,hd'⟩:∃ d:Nat,s.look (a:Int)=(d:Int):=⟨(s.look a).toNat,by omega⟩
  rw [hd'] at hd
  obtain ⟨d2,d3⟩:=hd
  have HP:=gh hp
  have HD:=gh hd'
  have eA:atN s x=a:=by unfold atN;rw [ht,hp];omega
  have eD:degN s x=d:=by unfold degN;rw [ht,hp,hd'];omega
  have K3:=gh k3
  have HLA:Hid (∀ k,k < d→(slotsL s x)[k]? = some ((k:Int),childS a d k)):=gh (fun k hk=>by
   have:=slotsL_at (s:=s) (x:=x) (by rw [ht];exact k3) (k:=k) (by rw [eD];exact hk)
   rwa [eA,eD] at this)
  have HLL:Hid ((slotsL s x).length=d):=gh (by rw [slotsL_len (by rw [ht];exact k3),eD])
  clear hM ho hx hY hkA hcm h0 ht k3 hp pr hd' h1 h2 hk hR eA eD
  refine (callsIn_wide (n:=10)).1 ?_
  refine callsIn_of_wp Tryz.func172 rfl trivial ?_ rfl
  simp only [Tryz.ntmps172,List.size_toArray,List.length_cons,List.length_nil,Nat.reduceAdd,Nat.reduceSub,Array.replicate_succ,Array.replicate_zero,List.push_toArray,List.append_toArray,List.nil_append,List.cons_append]
  gi_wp2_with (fail)
  refine ⟨trivial,?_⟩
  refine (callsIn_wide.2 (target_p _ b s x t HM0.out HX.out.i64 HT.out)).mono ?_
  rintro e w' ⟨rfl,rfl⟩
  gi_wp2_with (fail)
  refine ⟨trivial,?_⟩
  refine (callsIn_wide.2 (kk_p _ t 3 HTI.out K3.out)).mono ?_
  rintro e w' ⟨rfl,rfl⟩
  gi_wp2_with (fail)
  refine ⟨trivial,?_⟩
  refine (callsIn_wide.2 (ak_p _ t a HTI.out HP.out)).mono ?_
  rintro e w' ⟨rfl,rfl⟩
  gi_wp2_with (fail)
  refine ⟨trivial,?_⟩
  refine (callsIn_wide.2 (lk_p _ b s _ d HM0.out (by first | exact HD.out | simpa using HD.out))).mono ?_
  rintro e w' ⟨rfl,rfl⟩
  gi_wp2
  gi_loopw [21] (fun i wr=>∃ (k:Nat) (O:Nat→Prop),k≤d∧i=.int .i64 (k:Int)∧Hid (Sub O O₀ W.heap.size)∧Hid (Td O₀ W wr)∧Hid (J O ((slotsL s x).take k) wr)) (fun i _=>d - (intOf i).toNat)
  case atStart=>exact ⟨0,O₀,by omega,by simp,gh (Sub.refl _ _),gh (Td.refl _ _),gh (by simpa using H0.out)⟩
  case round=>
   obtain ⟨k,O,hk,rfl,HS,HTT,HJ⟩:=hrel
   by_cases hkn:k < d
   ·have j1:(k:Int) < (d:Int):=by omega
    have hcz:=gh (childZ_in (n:=a) (d:=(d:Int)) (i:=k) (by omega) (by omega) (by omega) (by omega) (by omega) (by omega))
    obtain ⟨q1,q2⟩:=at_split (HLA.out k hkn)
    obtain ⟨fn,tmps,assign,body,hy,hRd⟩:=HY.out O ((slotsL s x).take k) ((k:Int),childS a d k) _ wr q1 HTT.out HS.out HJ.out
    rw [q2] at hRd
    have Q1:=gh q1
    have HRd:=gh hRd
    dsimp only [enc2,childS] at hy
    clear q1 q2 hRd
    gi_wp2_with (fail)
    refine ⟨trivial,?_⟩
    refine (callsIn_wide.2 (child_c _ a d k _ hcz.out)).mono ?_
    rintro e w' ⟨rfl,rfl⟩
    gi_wp2_with (fail)
    refine HRd.out.mono ?_
    rintro e W3 ⟨O',hs3,ht3,⟨rfl,hj3⟩ | ⟨rfl,hj3⟩⟩
    ·have S3:=gh (hs3.trans HS.out HTT.out.size)
     have T3:=gh (HTT.out.sub ht3 HS.out)
     have J3:=gh hj3
     clear hs3 ht3 hj3 hy HRd HY
     gi_wp2
     exact ⟨⟨k+1,O',by omega,by simp,S3,T3,J3⟩,by simp [intOf];omega⟩
    ·have S3:=gh (hs3.trans HS.out HTT.out.size)
     have T3:=gh (HTT.out.sub ht3 HS.out)
     have J3:=gh hj3
     clear hs3 ht3 hj3 hy HRd HY
     gi_wp2
     refine bodyPost_ret (results_none rfl _ _ _) rfl ?_
     exact ⟨⟨_,rfl⟩,O',S3.out,T3.out,.inr ⟨_,(slotsL s x).drop (k+1),(List.take_append_drop _ _).symm,J3.out⟩⟩
   ·have hkn':k=d:=by omega
    subst hkn'
    have j1:¬ ((k:Int) < (k:Int)):=by omega
    gi_wp2
    go_end0
    exact ⟨⟨_,rfl⟩,O,HS.out,HTT.out,.inl (by have:=HJ.out;rwa [List.take_of_length_le (by rw [HLL.out];omega)] at this)⟩
 ·obtain ⟨j,hj⟩:∃ j,kd t=j:=⟨_,rfl⟩
  have j3:j≠3:=by rw [← hj];exact k3
  have HJJ:=gh hj
  have g1:(j == 3)=false:=by simp [j3]
  have g2:(j != 3)=true:=by simp [j3]
  have HE:=gh (slotsL_none (s:=s) (x:=x) (by rw [ht];exact k3))
  clear hM ho hx hY hkA hcm h0 ht k3 h1 h2 hk hR hj j3
  refine (callsIn_wide (n:=10)).1 ?_
  refine callsIn_of_wp Tryz.func172 rfl trivial ?_ rfl
  simp only [Tryz.ntmps172,List.size_toArray,List.length_cons,List.length_nil,Nat.reduceAdd,Nat.reduceSub,Array.replicate_succ,Array.replicate_zero,List.push_toArray,List.append_toArray,List.nil_append,List.cons_append]
  gi_wp2_with (fail)
  refine ⟨trivial,?_⟩
  refine (callsIn_wide.2 (target_p _ b s x t HM0.out HX.out.i64 HT.out)).mono ?_
  rintro e w' ⟨rfl,rfl⟩
  gi_wp2_with (fail)
  refine ⟨trivial,?_⟩
  refine (callsIn_wide.2 (kk_p _ t j HTI.out HJJ.out)).mono ?_
  rintro e w' ⟨rfl,rfl⟩
  gi_wp2
  refine bodyPost_ret (results_none rfl _ _ _) rfl ?_
  exact ⟨⟨_,rfl⟩,O₀,Sub.refl _ _,Td.refl _ _,.inl (by rw [HE.out];exact H0.out)⟩
end
end Go.Proofs.YtnjkmmmfhponlaaGreat
