/-
  What the proof of YtnjkmmmfhponlaaGreatU2 goes by, part 5 of 11: contracts and plain facts; each part begins with its own sentence. No conditions beyond each theorem's own.
-/
import Derived.Test.YtnjkmmmfhponlaaGreatT4
import Derived.BigQuiet
import Derived.Deep.QuietTactic
import Derived.LoopTactic
namespace Go.Proofs.YtnjkmmmfhponlaaGreat
open Go.RowKit
section
variable {X:Nat→Prop}
namespace Rn
def downF (n k:Int):Nat→Rn→Int × Rn
 | 0,s=>(1,s)
 | i+1,s=>if 1≤i∧s.off=false then (if (s.read (keyZ n ((i:Int)+1))).1≤k then ((i:Int)+1,(s.read (keyZ n ((i:Int)+1))).2) else downF n k i (s.read (keyZ n ((i:Int)+1))).2) else (1,s)
def upF (n k m:Int):Nat→Int→Rn→Int × Rn
 | 0,_,s=>(m - 1,s)
 | c+1,i,s=>if s.off=false then (if k < (s.read (keyZ n i)).1 then (i - 1,(s.read (keyZ n i)).2) else upF n k m c (i+1) (s.read (keyZ n i)).2) else (m - 1,s)
def route (s:Rn) (n k:Int):(Int × Int) × Rn:=
 let x:=s.read n
 let m:=wrap64 (x.1 - 1)
 if m < 1 then ((x.1,0),x.2) else
 let f:=x.2.read (keyZ n 1)
 if k < f.1 then ((x.1,0),f.2) else
 if m=1 then ((x.1,1),f.2) else
 let l:=f.2.read (keyZ n m)
 if l.1≤k then ((x.1,m),l.2) else
 let j:=Pb.guessZ f.1 l.1 k m
 if l.2.off=true∨j < 1 then ((x.1,0),l.2) else
 if 1 < j then
  let y:=l.2.read (keyZ n j)
  if k < y.1 then ((x.1,(downF n k (j - 1).toNat y.2).1),(downF n k (j - 1).toNat y.2).2)
  else ((x.1,(upF n k m (m - (j+1)).toNat (j+1) y.2).1),(upF n k m (m - (j+1)).toNat (j+1) y.2).2)
 else ((x.1,(upF n k m (m - (j+1)).toNat (j+1) l.2).1),(upF n k m (m - (j+1)).toNat (j+1) l.2).2)
theorem downF_on (n k:Int):∀ (i:Nat) (s:Rn),On s (downF n k i s).2
 | 0,s=>On.refl s
 | i+1,s=>by
  unfold downF
  split
  ·split
   ·exact ask_on s _
   ·exact On.trans (ask_on s _) (downF_on n k i _)
  ·exact On.refl s
theorem upF_on (n k m:Int):∀ (c:Nat) (i:Int) (s:Rn),On s (upF n k m c i s).2
 | 0,_,s=>On.refl s
 | c+1,i,s=>by
  unfold upF
  split
  ·split
   ·exact ask_on s _
   ·exact On.trans (ask_on s _) (upF_on n k m c _ _)
  ·exact On.refl s
theorem route_on (s:Rn) (n k:Int):On (s.read n).2 (s.route n k).2:=by
 unfold route
 dsimp only
 generalize s.read n=x
 split
 ·exact On.refl _
 ·generalize hf:x.2.read (keyZ n 1)=f
  have h1:=read_on hf
  split
  ·exact h1
  ·split
   ·exact h1
   ·generalize hl:f.2.read (keyZ n (wrap64 (x.1 - 1)))=l
    have h2:=h1.trans (read_on hl)
    split
    ·exact h2
    ·split
     ·exact h2
     ·split
      ·generalize hy:l.2.read (keyZ n (Pb.guessZ f.1 l.1 k (wrap64 (x.1 - 1))))=y
       have h3:=h2.trans (read_on hy)
       split
       ·exact h3.trans (downF_on _ _ _ _)
       ·exact h3.trans (upF_on _ _ _ _ _ _)
      ·exact h2.trans (upF_on _ _ _ _ _ _)
end Rn
theorem Ran.drawn {W W' W'':World} {r:Nat} {s:Rn} (h:Ran X W r s W') (k:Kept W' W''):Ran X W r s W'':=⟨h.1.kept k,Kept.behind h.2 k⟩
theorem guess_k (w:World) (a b k n j:Int) (ha:I64 a) (hb:I64 b) (hk:I64 k) (e1:Pb.guessZ a b k n=j) :
  Calls Tryz.prog 187 #[.int .i64 a,.int .i64 b,.int .i64 k,.int .i64 n] w fun e w'=>e=.returned (.int .i64 j)∧Kept w w':=by
 subst e1
 refine (Pb.guess_r a b k n ha.wf hb.wf hk.wf w).mono ?_
 rintro e w' ⟨rfl,m,rfl⟩
 exact ⟨rfl,Kept.drewN w m⟩
theorem guess_le (a b k n:Int):Pb.guessZ a b k n≤65537:=by
 unfold Pb.guessZ
 split
 ·have:=(Pb.share_bound (Pb.gapZ a k) (Pb.gapZ a b) (n - 1) (Pb.gap_nonneg _ _)).2
  omega
 ·omega
theorem guess_n {a b k n:Int} (h:1≤Pb.guessZ a b k n):n≤65536:=by
 unfold Pb.guessZ at h
 split at h
 ·rename_i h';exact h'.2.1
 ·omega
set_option maxHeartbeats 2000000 in
theorem route_r (W:World) (r:Nat) (s:Rn) (n k:Int) (h:RunAt X W r s) (ho:s.ok) (hk:I64 k) (dd cc:Int) (s':Rn) (e1:s.route n k=((dd,cc),s')) :
  Calls Tryz.prog 154 #[.pointer (some ⟨r,0,none⟩),.int .i64 n,.int .i64 k] W fun e W'=>e=.returned (.tuple #[.int .i64 dd,.int .i64 cc])∧Ran X W r s' W':=by
 have H:=gh h
 have IK:=gh hk
 unfold Rn.route at e1
 obtain ⟨d,s1,hx⟩:∃ d s1,s.read n=(d,s1):=⟨_,_,rfl⟩
 obtain ⟨id,ok1⟩:=ho.read hx
 obtain ⟨m,hm⟩:∃ m,wrap64 (d - 1)=m:=⟨_,rfl⟩
 simp only [hx,hm] at e1
 have HX:=gh hx
 clear h ho hk hx id
 by_cases hm1:m < 1
 ·rw [if_pos hm1] at e1
  have HE:Hid (dd=d∧cc=0∧s'=s1):=gh (by simp only [Prod.mk.injEq] at e1;exact ⟨e1.1.1.symm,e1.1.2.symm,e1.2.symm⟩)
  clear e1 ok1
  go_enter Tryz.func154,Tryz.ntmps154
  go_wp2_with (fail)
  refine (read_r _ r s n H.out d s1 HX.out).mono ?_
  rintro e W1 ⟨rfl,R1⟩
  go_wp2
  go_ret2
  exact ⟨by rw [HE.out.1,HE.out.2.1];rfl,by rw [HE.out.2.2];exact R1⟩
 ·rw [if_neg hm1] at e1
  obtain ⟨k1,hk1⟩:∃ k1,keyZ n 1=k1:=⟨_,rfl⟩
  obtain ⟨f,s2,hf⟩:∃ f s2,s1.read k1=(f,s2):=⟨_,_,rfl⟩
  obtain ⟨if1,ok2⟩:=ok1.read hf
  simp only [hk1,hf] at e1
  have HK1:=gh hk1
  have HF:=gh hf
  have IF:=gh if1
  clear hk1 hf if1 ok1
  by_cases hkf:k < f
  ·rw [if_pos hkf] at e1
   have HE:Hid (dd=d∧cc=0∧s'=s2):=gh (by simp only [Prod.mk.injEq] at e1;exact ⟨e1.1.1.symm,e1.1.2.symm,e1.2.symm⟩)
   clear e1 ok2
   go_enter Tryz.func154,Tryz.ntmps154
   go_wp2_with (fail)
   refine (read_r _ r s n H.out d s1 HX.out).mono ?_
   rintro e W1 ⟨rfl,R1⟩
   go_wp2_with (fail)
   refine (key_r _ n 1 k1 HK1.out).mono ?_
   rintro e w' ⟨rfl,rfl⟩
   go_wp2_with (fail)
   refine (read_r _ r s1 k1 R1.1 f s2 HF.out).mono ?_
   rintro e W2 ⟨rfl,R2⟩
   replace R2:=R1.trans R2
   go_wp2
   go_ret2
   exact ⟨by rw [HE.out.1,HE.out.2.1];rfl,by rw [HE.out.2.2];exact R2⟩
  ·rw [if_neg hkf] at e1
   by_cases hme:m=1
   ·rw [if_pos hme] at e1
    have HE:Hid (dd=d∧cc=1∧s'=s2):=gh (by simp only [Prod.mk.injEq] at e1;exact ⟨e1.1.1.symm,e1.1.2.symm,e1.2.symm⟩)
    clear e1 ok2
    have g1:(m == 1)=true:=by simp [hme]
    go_enter Tryz.func154,Tryz.ntmps154
    go_wp2_with (fail)
    refine (read_r _ r s n H.out d s1 HX.out).mono ?_
    rintro e W1 ⟨rfl,R1⟩
    go_wp2_with (fail)
    refine (key_r _ n 1 k1 HK1.out).mono ?_
    rintro e w' ⟨rfl,rfl⟩
    go_wp2_with (fail)
    refine (read_r _ r s1 k1 R1.1 f s2 HF.out).mono ?_
    rintro e W2 ⟨rfl,R2⟩
    replace R2:=R1.trans R2
    go_wp2
    go_ret2
    exact ⟨by rw [HE.out.1,HE.out.2.1];rfl,by rw [HE.out.2.2];exact R2⟩
   ·rw [if_neg hme] at e1
    have g1:(m == 1)=false:=by simp [hme]
    clear hme
    obtain ⟨km,hkm⟩:∃ km,keyZ n m=km:=⟨_,rfl⟩
    obtain ⟨l,s3,hl⟩:∃ l s3,s2.read km=(l,s3):=⟨_,_,rfl⟩
    obtain ⟨il,ok3⟩:=ok2.read hl
    simp only [hkm,hl] at e1
    have HKM:=gh hkm
    have HL:=gh hl
    have IL:=gh il
    clear hkm hl il ok2
    by_cases hlk:l≤k
    ·rw [if_pos hlk] at e1
     have HE:Hid (dd=d∧cc=m∧s'=s3):=gh (by simp only [Prod.mk.injEq] at e1;exact ⟨e1.1.1.symm,e1.1.2.symm,e1.2.symm⟩)
     clear e1 ok3
     go_enter Tryz.func154,Tryz.ntmps154
     go_wp2_with (fail)
     refine (read_r _ r s n H.out d s1 HX.out).mono ?_
     rintro e W1 ⟨rfl,R1⟩
     go_wp2_with (fail)
     refine (key_r _ n 1 k1 HK1.out).mono ?_
     rintro e w' ⟨rfl,rfl⟩
     go_wp2_with (fail)
     refine (read_r _ r s1 k1 R1.1 f s2 HF.out).mono ?_
     rintro e W2 ⟨rfl,R2⟩
     replace R2:=R1.trans R2
     go_wp2_with (fail)
     refine (key_r _ n m km HKM.out).mono ?_
     rintro e w' ⟨rfl,rfl⟩
     go_wp2_with (fail)
     refine (read_r _ r s2 km R2.1 l s3 HL.out).mono ?_
     rintro e W3 ⟨rfl,R3⟩
     replace R3:=R2.trans R3
     go_wp2
     go_ret2
     exact ⟨by rw [HE.out.1,HE.out.2.1];rfl,by rw [HE.out.2.2];exact R3⟩
    ·rw [if_neg hlk] at e1
     obtain ⟨j,hj⟩:∃ j,Pb.guessZ f l k m=j:=⟨_,rfl⟩
     have j1:=guess_le f l k m
     have j2:=@guess_n f l k m
     simp only [hj] at e1
     rw [hj] at j1 j2
     have HJ:=gh hj
     clear hj
     cases hof:s3.off with
     | true=>
      have HO:=gh hof
      rw [hof] at e1
      simp only [true_or,if_true] at e1
      have HE:Hid (dd=d∧cc=0∧s'=s3):=gh (by simp only [Prod.mk.injEq] at e1;exact ⟨e1.1.1.symm,e1.1.2.symm,e1.2.symm⟩)
      clear e1 ok3 hof j2
      go_enter Tryz.func154,Tryz.ntmps154
      go_wp2_with (fail)
      refine (read_r _ r s n H.out d s1 HX.out).mono ?_
      rintro e W1 ⟨rfl,R1⟩
      go_wp2_with (fail)
      refine (key_r _ n 1 k1 HK1.out).mono ?_
      rintro e w' ⟨rfl,rfl⟩
      go_wp2_with (fail)
      refine (read_r _ r s1 k1 R1.1 f s2 HF.out).mono ?_
      rintro e W2 ⟨rfl,R2⟩
      replace R2:=R1.trans R2
      go_wp2_with (fail)
      refine (key_r _ n m km HKM.out).mono ?_
      rintro e w' ⟨rfl,rfl⟩
      go_wp2_with (fail)
      refine (read_r _ r s2 km R2.1 l s3 HL.out).mono ?_
      rintro e W3 ⟨rfl,R3⟩
      replace R3:=R2.trans R3
      go_wp2_with (fail)
      refine (guess_k _ f l k m j IF.out IL.out IK.out HJ.out).mono ?_
      rintro e W4 ⟨rfl,K4⟩
      have R4:=R3.drawn K4
      obtain ⟨ta,tc,wa,wc,RI⟩:=R4.1
      obtain ⟨_,_,c2,_,_,ff⟩:=RI.cells
      rw [HO.out] at c2
      clear RI ff K4
      go_wp2
      go_ret2
      exact ⟨by rw [HE.out.1,HE.out.2.1];rfl,by rw [HE.out.2.2];exact R4⟩
     | false=>
      have HO:=gh hof
      rw [hof] at e1
      simp only [Bool.false_eq_true,false_or] at e1
      clear hof
      by_cases hj1:j < 1
      ·rw [if_pos hj1] at e1
       have HE:Hid (dd=d∧cc=0∧s'=s3):=gh (by simp only [Prod.mk.injEq] at e1;exact ⟨e1.1.1.symm,e1.1.2.symm,e1.2.symm⟩)
       clear e1 ok3 j2
       go_enter Tryz.func154,Tryz.ntmps154
       go_wp2_with (fail)
       refine (read_r _ r s n H.out d s1 HX.out).mono ?_
       rintro e W1 ⟨rfl,R1⟩
       go_wp2_with (fail)
       refine (key_r _ n 1 k1 HK1.out).mono ?_
       rintro e w' ⟨rfl,rfl⟩
       go_wp2_with (fail)
       refine (read_r _ r s1 k1 R1.1 f s2 HF.out).mono ?_
       rintro e W2 ⟨rfl,R2⟩
       replace R2:=R1.trans R2
       go_wp2_with (fail)
       refine (key_r _ n m km HKM.out).mono ?_
       rintro e w' ⟨rfl,rfl⟩
       go_wp2_with (fail)
       refine (read_r _ r s2 km R2.1 l s3 HL.out).mono ?_
       rintro e W3 ⟨rfl,R3⟩
       replace R3:=R2.trans R3
       go_wp2_with (fail)
       refine (guess_k _ f l k m j IF.out IL.out IK.out HJ.out).mono ?_
       rintro e W4 ⟨rfl,K4⟩
       have R4:=R3.drawn K4
       obtain ⟨ta,tc,wa,wc,RI⟩:=R4.1
       obtain ⟨_,_,c2,_,_,ff⟩:=RI.cells
       rw [HO.out] at c2
       clear RI ff K4
       go_wp2
       go_ret2
       exact ⟨by rw [HE.out.1,HE.out.2.1];rfl,by rw [HE.out.2.2];exact R4⟩
      ·rw [if_neg hj1] at e1
       have m6:=j2 (by omega)
       clear j2
       by_cases hj2:1 < j
       ·rw [if_pos hj2] at e1
        obtain ⟨kj,hkj⟩:∃ kj,keyZ n j=kj:=⟨_,rfl⟩
        obtain ⟨y,s4,hy⟩:∃ y s4,s3.read kj=(y,s4):=⟨_,_,rfl⟩
        simp only [hkj,hy] at e1
        have HKJ:=gh hkj
        have HY:=gh hy
        clear hkj hy ok3
        by_cases hky:k < y
        ·rw [if_pos hky] at e1
         have HD:Hid (dd=d):=gh (by simp only [Prod.mk.injEq] at e1;exact e1.1.1.symm)
         have HU:Hid (Rn.downF n k (j - 1).toNat s4=(cc,s')):=gh (by simp only [Prod.mk.injEq] at e1;rw [← e1.1.2,← e1.2])
         clear e1
         go_enter Tryz.func154,Tryz.ntmps154
         go_wp2_with (fail)
         refine (read_r _ r s n H.out d s1 HX.out).mono ?_
         rintro e W1 ⟨rfl,R1⟩
         go_wp2_with (fail)
         refine (key_r _ n 1 k1 HK1.out).mono ?_
         rintro e w' ⟨rfl,rfl⟩
         go_wp2_with (fail)
         refine (read_r _ r s1 k1 R1.1 f s2 HF.out).mono ?_
         rintro e W2 ⟨rfl,R2⟩
         replace R2:=R1.trans R2
         go_wp2_with (fail)
         refine (key_r _ n m km HKM.out).mono ?_
         rintro e w' ⟨rfl,rfl⟩
         go_wp2_with (fail)
         refine (read_r _ r s2 km R2.1 l s3 HL.out).mono ?_
         rintro e W3 ⟨rfl,R3⟩
         replace R3:=R2.trans R3
         go_wp2_with (fail)
         refine (guess_k _ f l k m j IF.out IL.out IK.out HJ.out).mono ?_
         rintro e W4 ⟨rfl,K4⟩
         have R4:=R3.drawn K4
         obtain ⟨ta,tc,wa,wc,RI⟩:=R4.1
         obtain ⟨_,_,c2,_,_,ff⟩:=RI.cells
         rw [HO.out] at c2
         clear RI ff K4
         go_wp2_with (fail)
         refine (key_r _ n j kj HKJ.out).mono ?_
         rintro e w' ⟨rfl,rfl⟩
         go_wp2_with (fail)
         refine (read_r _ r s3 kj R4.1 y s4 HY.out).mono ?_
         rintro e W5 ⟨rfl,R5⟩
         replace R5:=R4.trans R5
         go_wp2_with (fail)
         go_loopw [13] (fun v wr=>∃ (i:Nat) (t:Rn),v=.int .i64 (i:Int)∧i≤70000∧Rn.downF n k i t=(cc,s')∧Ran X W r t wr) (fun v _=>(intOf v).toNat)
         case atStart=>exact ⟨(j - 1).toNat,s4,by rw [Int.toNat_of_nonneg (by omega)],by omega,HU.out,R5⟩
         case round=>
          obtain ⟨i,t,rfl,i1,E,R⟩:=hrel
          obtain ⟨ta,tc,wa,wc,RI⟩:=R.1
          obtain ⟨_,_,c2,_,_,ff⟩:=RI.cells
          clear RI ff
          by_cases hi1:1 < i
          ·obtain ⟨i,rfl⟩:∃ i',i=i' + 1:=⟨i - 1,by omega⟩
           have q1:(1:Int) < ((i+1:Nat):Int):=by omega
           have q2:((i+1:Nat):Int)=(i:Int)+1:=by omega
           rw [q2] at q1 ⊢
           cases ho:t.off with
           | true=>
            rw [ho] at c2
            unfold Rn.downF at E
            rw [ho] at E
            simp only [Bool.true_eq_false,and_false,if_false] at E
            have HV:=gh E
            clear E ho hi1
            go_wp2
            go_ret2
            have e2:=HV.out
            cases e2
            exact ⟨by rw [HD.out];rfl,R⟩
           | false=>
            rw [ho] at c2
            obtain ⟨ki,hki⟩:∃ ki,keyZ n ((i:Int)+1)=ki:=⟨_,rfl⟩
            obtain ⟨y,t2,hy⟩:∃ y t2,t.read ki=(y,t2):=⟨_,_,rfl⟩
            have HKI:=gh hki
            have HY2:=gh hy
            unfold Rn.downF at E
            rw [ho,hki,hy] at E
            rw [if_pos ⟨by omega,rfl⟩] at E
            by_cases hky:y≤k
            ·rw [if_pos hky] at E
             have HV:=gh E
             clear E ho hki hy hi1 q2
             go_wp2_with (fail)
             refine (key_r _ n ((i:Int)+1) ki HKI.out).mono ?_
             rintro e w' ⟨rfl,rfl⟩
             go_wp2_with (fail)
             refine (read_r _ r t ki R.1 y t2 HY2.out).mono ?_
             rintro e W9 ⟨rfl,R9⟩
             go_wp2
             go_ret2
             have e2:=HV.out
             cases e2
             exact ⟨by rw [HD.out];rfl,R.trans R9⟩
            ·rw [if_neg hky] at E
             have HV:=gh E
             clear E ho hki hy hi1 q2
             go_wp2_with (fail)
             refine (key_r _ n ((i:Int)+1) ki HKI.out).mono ?_
             rintro e w' ⟨rfl,rfl⟩
             go_wp2_with (fail)
             refine (read_r _ r t ki R.1 y t2 HY2.out).mono ?_
             rintro e W9 ⟨rfl,R9⟩
             go_wp2
             exact ⟨⟨i,t2,by simp,by omega,HV.out,R.trans R9⟩,by simp [intOf]⟩
          ·have q1:¬ ((1:Int) < (i:Int)):=by omega
           have e2:cc=1∧s'=t:=by
            cases i with
            | zero=>unfold Rn.downF at E;cases E;exact ⟨rfl,rfl⟩
            | succ i=>unfold Rn.downF at E;rw [if_neg (by omega)] at E;cases E;exact ⟨rfl,rfl⟩
           have HV:=gh e2
           clear E hi1 e2
           go_wp2
           go_ret2
           exact ⟨by rw [HD.out,HV.out.1];rfl,by rw [HV.out.2];exact R⟩
        ·rw [if_neg hky] at e1
         have HD:Hid (dd=d):=gh (by simp only [Prod.mk.injEq] at e1;exact e1.1.1.symm)
         have HU:Hid (Rn.upF n k m (m - (j+1)).toNat (j+1) s4=(cc,s')):=gh (by simp only [Prod.mk.injEq] at e1;rw [← e1.1.2,← e1.2])
         clear e1
         go_enter Tryz.func154,Tryz.ntmps154
         go_wp2_with (fail)
         refine (read_r _ r s n H.out d s1 HX.out).mono ?_
         rintro e W1 ⟨rfl,R1⟩
         go_wp2_with (fail)
         refine (key_r _ n 1 k1 HK1.out).mono ?_
         rintro e w' ⟨rfl,rfl⟩
         go_wp2_with (fail)
         refine (read_r _ r s1 k1 R1.1 f s2 HF.out).mono ?_
         rintro e W2 ⟨rfl,R2⟩
         replace R2:=R1.trans R2
         go_wp2_with (fail)
         refine (key_r _ n m km HKM.out).mono ?_
         rintro e w' ⟨rfl,rfl⟩
         go_wp2_with (fail)
         refine (read_r _ r s2 km R2.1 l s3 HL.out).mono ?_
         rintro e W3 ⟨rfl,R3⟩
         replace R3:=R2.trans R3
         go_wp2_with (fail)
         refine (guess_k _ f l k m j IF.out IL.out IK.out HJ.out).mono ?_
         rintro e W4 ⟨rfl,K4⟩
         have R4:=R3.drawn K4
         obtain ⟨ta,tc,wa,wc,RI⟩:=R4.1
         obtain ⟨_,_,c2,_,_,ff⟩:=RI.cells
         rw [HO.out] at c2
         clear RI ff K4
         go_wp2_with (fail)
         refine (key_r _ n j kj HKJ.out).mono ?_
         rintro e w' ⟨rfl,rfl⟩
         go_wp2_with (fail)
         refine (read_r _ r s3 kj R4.1 y s4 HY.out).mono ?_
         rintro e W5 ⟨rfl,R5⟩
         replace R5:=R4.trans R5
         go_wp2_with (fail)
         go_loopw [14] (fun v wr=>∃ (i:Int) (c:Nat) (t:Rn),v=.int .i64 i∧0≤i∧i≤70000∧(m - i).toNat=c∧Rn.upF n k m c i t=(cc,s')∧Ran X W r t wr) (fun v _=>(m - intOf v).toNat)
         case atStart=>exact ⟨j+1,_,s4,rfl,by omega,by omega,rfl,HU.out,R5⟩
         case round=>
          obtain ⟨i,c,t,rfl,i0,i1,hc,E,R⟩:=hrel
          obtain ⟨ta,tc,wa,wc,RI⟩:=R.1
          obtain ⟨_,_,c2,_,_,ff⟩:=RI.cells
          clear RI ff
          by_cases him:i < m
          ·obtain ⟨c,rfl⟩:∃ c',c=c' + 1:=⟨c - 1,by omega⟩
           cases ho:t.off with
           | true=>
            rw [ho] at c2
            unfold Rn.upF at E
            rw [ho] at E
            simp only [Bool.true_eq_false,if_false] at E
            have HV:=gh E
            clear E ho
            go_wp2
            go_ret2
            have e2:=HV.out
            cases e2
            exact ⟨by rw [HD.out];rfl,R⟩
           | false=>
            rw [ho] at c2
            obtain ⟨ki,hki⟩:∃ ki,keyZ n i=ki:=⟨_,rfl⟩
            obtain ⟨y,t2,hy⟩:∃ y t2,t.read ki=(y,t2):=⟨_,_,rfl⟩
            have HKI:=gh hki
            have HY2:=gh hy
            unfold Rn.upF at E
            rw [ho,hki,hy] at E
            simp only [if_true] at E
            have HCC:=gh hc
            by_cases hky:k < y
            ·rw [if_pos hky] at E
             have HV:=gh E
             clear E ho hki hy hc
             go_wp2_with (fail)
             refine (key_r _ n i ki HKI.out).mono ?_
             rintro e w' ⟨rfl,rfl⟩
             go_wp2_with (fail)
             refine (read_r _ r t ki R.1 y t2 HY2.out).mono ?_
             rintro e W9 ⟨rfl,R9⟩
             go_wp2
             go_ret2
             have e2:=HV.out
             cases e2
             exact ⟨by rw [HD.out];rfl,R.trans R9⟩
            ·rw [if_neg hky] at E
             have HV:=gh E
             clear E ho hki hy hc
             go_wp2_with (fail)
             refine (key_r _ n i ki HKI.out).mono ?_
             rintro e w' ⟨rfl,rfl⟩
             go_wp2_with (fail)
             refine (read_r _ r t ki R.1 y t2 HY2.out).mono ?_
             rintro e W9 ⟨rfl,R9⟩
             go_wp2
             exact ⟨⟨i+1,c,t2,rfl,by omega,by omega,by have:=HCC.out;omega,HV.out,R.trans R9⟩,by simp [intOf];omega⟩
          ·obtain rfl:c=0:=by omega
           unfold Rn.upF at E
           have HV:=gh E
           clear E hc
           go_wp2
           go_ret2
           have e2:=HV.out
           cases e2
           exact ⟨by rw [HD.out];rfl,R⟩
       ·rw [if_neg hj2] at e1
        clear ok3
        have HD:Hid (dd=d):=gh (by simp only [Prod.mk.injEq] at e1;exact e1.1.1.symm)
        have HU:Hid (Rn.upF n k m (m - (j+1)).toNat (j+1) s3=(cc,s')):=gh (by simp only [Prod.mk.injEq] at e1;rw [← e1.1.2,← e1.2])
        clear e1
        go_enter Tryz.func154,Tryz.ntmps154
        go_wp2_with (fail)
        refine (read_r _ r s n H.out d s1 HX.out).mono ?_
        rintro e W1 ⟨rfl,R1⟩
        go_wp2_with (fail)
        refine (key_r _ n 1 k1 HK1.out).mono ?_
        rintro e w' ⟨rfl,rfl⟩
        go_wp2_with (fail)
        refine (read_r _ r s1 k1 R1.1 f s2 HF.out).mono ?_
        rintro e W2 ⟨rfl,R2⟩
        replace R2:=R1.trans R2
        go_wp2_with (fail)
        refine (key_r _ n m km HKM.out).mono ?_
        rintro e w' ⟨rfl,rfl⟩
        go_wp2_with (fail)
        refine (read_r _ r s2 km R2.1 l s3 HL.out).mono ?_
        rintro e W3 ⟨rfl,R3⟩
        replace R3:=R2.trans R3
        go_wp2_with (fail)
        refine (guess_k _ f l k m j IF.out IL.out IK.out HJ.out).mono ?_
        rintro e W4 ⟨rfl,K4⟩
        have R4:=R3.drawn K4
        obtain ⟨ta,tc,wa,wc,RI⟩:=R4.1
        obtain ⟨_,_,c2,_,_,ff⟩:=RI.cells
        rw [HO.out] at c2
        clear RI ff K4
        go_wp2_with (fail)
        go_loopw [14] (fun v wr=>∃ (i:Int) (c:Nat) (t:Rn),v=.int .i64 i∧0≤i∧i≤70000∧(m - i).toNat=c∧Rn.upF n k m c i t=(cc,s')∧Ran X W r t wr) (fun v _=>(m - intOf v).toNat)
        case atStart=>exact ⟨j+1,_,s3,rfl,by omega,by omega,rfl,HU.out,R4⟩
        case round=>
         obtain ⟨i,c,t,rfl,i0,i1,hc,E,R⟩:=hrel
         obtain ⟨ta,tc,wa,wc,RI⟩:=R.1
         obtain ⟨_,_,c2,_,_,ff⟩:=RI.cells
         clear RI ff
         by_cases him:i < m
         ·obtain ⟨c,rfl⟩:∃ c',c=c' + 1:=⟨c - 1,by omega⟩
          cases ho:t.off with
          | true=>
           rw [ho] at c2
           unfold Rn.upF at E
           rw [ho] at E
           simp only [Bool.true_eq_false,if_false] at E
           have HV:=gh E
           clear E ho
           go_wp2
           go_ret2
           have e2:=HV.out
           cases e2
           exact ⟨by rw [HD.out];rfl,R⟩
          | false=>
           rw [ho] at c2
           obtain ⟨ki,hki⟩:∃ ki,keyZ n i=ki:=⟨_,rfl⟩
           obtain ⟨y,t2,hy⟩:∃ y t2,t.read ki=(y,t2):=⟨_,_,rfl⟩
           have HKI:=gh hki
           have HY2:=gh hy
           unfold Rn.upF at E
           rw [ho,hki,hy] at E
           simp only [if_true] at E
           have HCC:=gh hc
           by_cases hky:k < y
           ·rw [if_pos hky] at E
            have HV:=gh E
            clear E ho hki hy hc
            go_wp2_with (fail)
            refine (key_r _ n i ki HKI.out).mono ?_
            rintro e w' ⟨rfl,rfl⟩
            go_wp2_with (fail)
            refine (read_r _ r t ki R.1 y t2 HY2.out).mono ?_
            rintro e W9 ⟨rfl,R9⟩
            go_wp2
            go_ret2
            have e2:=HV.out
            cases e2
            exact ⟨by rw [HD.out];rfl,R.trans R9⟩
           ·rw [if_neg hky] at E
            have HV:=gh E
            clear E ho hki hy hc
            go_wp2_with (fail)
            refine (key_r _ n i ki HKI.out).mono ?_
            rintro e w' ⟨rfl,rfl⟩
            go_wp2_with (fail)
            refine (read_r _ r t ki R.1 y t2 HY2.out).mono ?_
            rintro e W9 ⟨rfl,R9⟩
            go_wp2
            exact ⟨⟨i+1,c,t2,rfl,by omega,by omega,by have:=HCC.out;omega,HV.out,R.trans R9⟩,by simp [intOf];omega⟩
         ·obtain rfl:c=0:=by omega
          unfold Rn.upF at E
          have HV:=gh E
          clear E hc
          go_wp2
          go_ret2
          have e2:=HV.out
          cases e2
          exact ⟨by rw [HD.out];rfl,R⟩
def Rn.child (s:Rn) (n k:Int):Int × Rn:=(childZ n (s.route n k).1.1 (s.route n k).1.2,(s.route n k).2)
theorem childr_r (W:World) (r:Nat) (s:Rn) (n k:Int) (h:RunAt X W r s) (ho:s.ok) (hk:I64 k) (z:Int) (s':Rn) (e1:s.child n k=(z,s')) :
  Calls Tryz.prog 188 #[.pointer (some ⟨r,0,none⟩),.int .i64 n,.int .i64 k] W fun e W'=>e=.returned (.int .i64 z)∧Ran X W r s' W':=by
 obtain ⟨d,c,t,ht⟩:∃ d c t,s.route n k=((d,c),t):=⟨_,_,_,rfl⟩
 unfold Rn.child at e1
 rw [ht] at e1
 have HZ:Hid (childZ n d c=z):=gh (congrArg Prod.fst e1)
 have e2:t=s':=congrArg Prod.snd e1
 subst e2
 have HC:=gh (route_r W r s n k h ho hk d c t ht)
 clear h ho hk e1 ht
 go_enter Tryz.func188,Tryz.ntmps188
 go_wp2_with (fail)
 refine HC.out.mono ?_
 rintro e W1 ⟨rfl,R1⟩
 go_wp2_with (fail)
 refine (child_r _ n d c z HZ.out).mono ?_
 rintro e w' ⟨rfl,rfl⟩
 go_wp2
 go_ret
 exact ⟨rfl,R1⟩
end
section
variable {X:Nat→Prop}
namespace Rn
theorem child_on (s:Rn) (n k:Int):On (s.read n).2 (s.child n k).2:=route_on s n k
theorem child_lt {s:Rn} (n k:Int) (h:s.off=false):(s.child n k).2.left < s.left:=(child_on s n k).lt (read_lt n h)
theorem peek_on {s:Rn} {a:Int} {x:Int × Rn} (h:s.peek a=x):On s x.2:=by
 subst h
 unfold peek
 dsimp only
 generalize hx:s.read a=x
 split
 ·generalize ho:x.2.read (ad x.1+4)=o
  split
  ·exact ((read_on hx).trans (read_on ho)).trans (ask_on _ _)
  ·exact ((read_on hx).trans (read_on ho)).trans (ask_on _ _)
 ·exact read_on hx
def seekL (s:Rn) (n k:Int):(Int × Bool) × Rn:=
 if _:s.off=false then
  if kd ((s.child n k).2.peek (s.child n k).1).1=2 then
   (if (((s.child n k).2.peek (s.child n k).1).2.read (ad ((s.child n k).2.peek (s.child n k).1).1)).1=k then
    (((((s.child n k).2.peek (s.child n k).1).2.read (ad ((s.child n k).2.peek (s.child n k).1).1)).2.read (ad ((s.child n k).2.peek (s.child n k).1).1+1)).1,true)
   else (0,false),
   if (((s.child n k).2.peek (s.child n k).1).2.read (ad ((s.child n k).2.peek (s.child n k).1).1)).1=k then
    ((((s.child n k).2.peek (s.child n k).1).2.read (ad ((s.child n k).2.peek (s.child n k).1).1)).2.read (ad ((s.child n k).2.peek (s.child n k).1).1+1)).2
   else (((s.child n k).2.peek (s.child n k).1).2.read (ad ((s.child n k).2.peek (s.child n k).1).1)).2)
  else if kd ((s.child n k).2.peek (s.child n k).1).1=3 then seekL ((s.child n k).2.peek (s.child n k).1).2 (ad ((s.child n k).2.peek (s.child n k).1).1) k
  else if kd ((s.child n k).2.peek (s.child n k).1).1=4 then
   seekL (((s.child n k).2.peek (s.child n k).1).2.read (ad ((s.child n k).2.peek (s.child n k).1).1)).2 (ad (((s.child n k).2.peek (s.child n k).1).2.read (ad ((s.child n k).2.peek (s.child n k).1).1)).1) k
  else ((0,false),((s.child n k).2.peek (s.child n k).1).2)
 else ((0,false),s)
 termination_by s.left
 decreasing_by
  ·rename_i h _ _
   exact (peek_on rfl).lt (child_lt n k h)
  ·rename_i h _ _ _
   exact ((peek_on rfl).trans (ask_on _ _)).lt (child_lt n k h)
def seek (s:Rn) (k:Int):(Int × Bool) × Rn:=s.seekL 1 k
theorem seekL_off {s:Rn} {n k:Int} (h:s.off=true):s.seekL n k=((0,false),s):=by
 rw [seekL,dif_neg (by rw [h];decide)]
theorem seekL_leaf {s:Rn} {n k c w q:Int} {t u v:Rn} (h:s.off=false) (hc:s.child n k=(c,t)) (hw:t.peek c=(w,u)) (h2:kd w=2) (hq:u.read (ad w)=(q,v)):s.seekL n k=if q=k then (((v.read (ad w+1)).1,true),(v.read (ad w+1)).2) else ((0,false),v):=by
 rw [seekL,dif_pos h]
 simp only [hc,hw,hq]
 rw [if_pos h2]
 by_cases e:q=k
 ·simp only [if_pos e]
 ·simp only [if_neg e]
theorem seekL_inner {s:Rn} {n k c w:Int} {t u:Rn} (h:s.off=false) (hc:s.child n k=(c,t)) (hw:t.peek c=(w,u)) (h3:kd w=3):s.seekL n k=u.seekL (ad w) k:=by
 rw [seekL,dif_pos h]
 simp only [hc,hw]
 rw [if_neg (by rw [h3];decide),if_pos h3]
theorem seekL_again {s:Rn} {n k c w q:Int} {t u v:Rn} (h:s.off=false) (hc:s.child n k=(c,t)) (hw:t.peek c=(w,u)) (h4:kd w=4) (hq:u.read (ad w)=(q,v)):s.seekL n k=v.seekL (ad q) k:=by
 rw [seekL,dif_pos h]
 simp only [hc,hw,hq]
 rw [if_neg (by rw [h4];decide),if_neg (by rw [h4];decide),if_pos h4]
theorem seekL_none {s:Rn} {n k c w:Int} {t u:Rn} (h:s.off=false) (hc:s.child n k=(c,t)) (hw:t.peek c=(w,u)) (h2:kd w≠2) (h3:kd w≠3) (h4:kd w≠4):s.seekL n k=((0,false),u):=by
 rw [seekL,dif_pos h]
 simp only [hc,hw]
 rw [if_neg h2,if_neg h3,if_neg h4]
end Rn
theorem seek_r (W:World) (r:Nat) (s:Rn) (k:Int) (h:RunAt X W r s) (ho:s.ok) (hk:I64 k) (z:Int) (b:Bool) (s':Rn) (e1:s.seek k=((z,b),s')) :
  Calls Tryz.prog 155 #[.pointer (some ⟨r,0,none⟩),.int .i64 k] W fun e W'=>e=.returned (.tuple #[.int .i64 z,.bool b])∧Ran X W r s' W':=by
 have H:=gh h
 have IK:=gh hk
 have OK0:=gh ho
 have E1:=gh e1
 clear h ho hk e1
 go_enter Tryz.func155,Tryz.ntmps155
 go_wp2_with (fail)
 go_loopw [6,7,8] (fun v _ _ wr=>∃ (n:Int) (t:Rn),v=.int .i64 n∧Ran X W r t wr∧t.ok∧t.seekL n k=((z,b),s')) (fun _ _ _ wr=>leftAt wr r)
 case atStart=>exact ⟨1,s,rfl,Ran.refl H.out,OK0.out,E1.out⟩
 case round=>
  obtain ⟨n,t,rfl,R,okt,E⟩:=hrel
  have OK:=gh okt
  obtain ⟨ta,tc,wa,wc,RI⟩:=R.1
  obtain ⟨_,_,c2,_,_,ff⟩:=RI.cells
  clear RI ff
  cases hof:t.off with
  | true=>
   rw [hof] at c2
   rw [Rn.seekL_off hof] at E
   have HV:=gh E
   clear E hof okt
   go_wp2
   go_ret2
   have e2:=HV.out
   cases e2
   exact ⟨rfl,R⟩
  | false=>
   rw [hof] at c2
   obtain ⟨c,t1,hc⟩:∃ c t1,t.child n k=(c,t1):=⟨_,_,rfl⟩
   obtain ⟨x,t2,hx⟩:∃ x t2,t1.peek c=(x,t2):=⟨_,_,rfl⟩
   have l1:t1.left < t.left:=by have:=Rn.child_lt n k hof;rw [hc] at this;exact this
   have ok1:t1.ok:=by have:=((Rn.read_on rfl).trans (Rn.child_on t n k)).ok okt;rw [hc] at this;exact this
   obtain ⟨ix,ok2⟩:=ok1.peek hx
   have l2:t2.left < t.left:=(Rn.peek_on hx).lt l1
   have HC:=gh hc
   have HX:=gh hx
   have OK1:=gh ok1
   have IX:=gh ix
   obtain ⟨kk,hkk⟩:∃ kk,kd x=kk:=⟨_,rfl⟩
   obtain ⟨p,hp⟩:∃ p,ad x=p:=⟨_,rfl⟩
   have kr:=ad_range x
   rw [hp] at kr
   obtain ⟨p0,p1⟩:=kr
   have HK:=gh hkk
   have HP:=gh hp
   have L2:=gh l2
   have OK2:=gh ok2
   by_cases k2:kk=2
   ·obtain ⟨q,t3,hq⟩:∃ q t3,t2.read p=(q,t3):=⟨_,_,rfl⟩
    have HQ:=gh hq
    rw [Rn.seekL_leaf (q:=q) (v:=t3) hof hc hx (hkk.trans k2) (by rw [hp];exact hq),hp] at E
    subst k2
    by_cases hqk:q=k
    ·rw [if_pos hqk] at E
     subst hqk
     obtain ⟨v,t4,hv⟩:∃ v t4,t3.read (p+1)=(v,t4):=⟨_,_,rfl⟩
     rw [hv] at E
     have HV:=gh hv
     have HE:=gh E
     clear E hof okt hc hx l1 ok1 ix ok2 l2 hkk hp hq hv
     go_wp2_with (fail)
     refine (childr_r _ r t n q R.1 OK.out IK.out c t1 HC.out).mono ?_
     rintro e W2 ⟨rfl,R2⟩
     replace R2:=R.trans R2
     go_wp2_with (fail)
     refine (peek_r _ r t1 c R2.1 OK1.out x t2 HX.out).mono ?_
     rintro e W3 ⟨rfl,R3⟩
     replace R3:=R2.trans R3
     go_wp2_with (fail)
     refine (ak_d _ x p IX.out HP.out).mono ?_
     rintro e w' ⟨rfl,rfl⟩
     go_wp2_with (fail)
     refine (kk_d _ x 2 IX.out HK.out).mono ?_
     rintro e w' ⟨rfl,rfl⟩
     go_wp2_with (fail)
     refine (read_r _ r t2 p R3.1 q t3 HQ.out).mono ?_
     rintro e W4 ⟨rfl,R4⟩
     replace R4:=R3.trans R4
     go_wp2_with (fail)
     refine (read_r _ r t3 (p+1) R4.1 v t4 HV.out).mono ?_
     rintro e W5 ⟨rfl,R5⟩
     go_wp2
     go_ret2
     have e2:=HE.out
     cases e2
     exact ⟨rfl,R4.trans R5⟩
    ·rw [if_neg hqk] at E
     have g1:(q == k)=false:=by simp [hqk]
     have g2:(q != k)=true:=by simp [hqk]
     have HE:=gh E
     clear E hof okt hc hx l1 ok1 ix ok2 l2 hkk hp hq
     go_wp2_with (fail)
     refine (childr_r _ r t n k R.1 OK.out IK.out c t1 HC.out).mono ?_
     rintro e W2 ⟨rfl,R2⟩
     replace R2:=R.trans R2
     go_wp2_with (fail)
     refine (peek_r _ r t1 c R2.1 OK1.out x t2 HX.out).mono ?_
     rintro e W3 ⟨rfl,R3⟩
     replace R3:=R2.trans R3
     go_wp2_with (fail)
     refine (ak_d _ x p IX.out HP.out).mono ?_
     rintro e w' ⟨rfl,rfl⟩
     go_wp2_with (fail)
     refine (kk_d _ x 2 IX.out HK.out).mono ?_
     rintro e w' ⟨rfl,rfl⟩
     go_wp2_with (fail)
     refine (read_r _ r t2 p R3.1 q t3 HQ.out).mono ?_
     rintro e W4 ⟨rfl,R4⟩
     replace R4:=R3.trans R4
     go_wp2
     go_ret2
     have e2:=HE.out
     cases e2
     exact ⟨rfl,R4⟩
   ·by_cases k3:kk=3
    ·rw [Rn.seekL_inner hof hc hx (hkk.trans k3),hp] at E
     subst k3
     have HE:=gh E
     clear E hof okt hc hx l1 ok1 ix ok2 l2 hkk hp
     go_wp2_with (fail)
     refine (childr_r _ r t n k R.1 OK.out IK.out c t1 HC.out).mono ?_
     rintro e W2 ⟨rfl,R2⟩
     replace R2:=R.trans R2
     go_wp2_with (fail)
     refine (peek_r _ r t1 c R2.1 OK1.out x t2 HX.out).mono ?_
     rintro e W3 ⟨rfl,R3⟩
     replace R3:=R2.trans R3
     go_wp2_with (fail)
     refine (ak_d _ x p IX.out HP.out).mono ?_
     rintro e w' ⟨rfl,rfl⟩
     go_wp2_with (fail)
     refine (kk_d _ x 3 IX.out HK.out).mono ?_
     rintro e w' ⟨rfl,rfl⟩
     go_wp2
     exact ⟨⟨p,t2,rfl,R3,OK2.out,HE.out⟩,by rw [R3.leftAt,R.leftAt];exact L2.out⟩
    ·by_cases k4:kk=4
     ·obtain ⟨q,t3,hq⟩:∃ q t3,t2.read p=(q,t3):=⟨_,_,rfl⟩
      have HQ:=gh hq
      rw [Rn.seekL_again (q:=q) (v:=t3) hof hc hx (hkk.trans k4) (by rw [hp];exact hq)] at E
      obtain ⟨iq,ok3⟩:=ok2.read hq
      obtain ⟨a,ha⟩:∃ a,ad q=a:=⟨_,rfl⟩
      rw [ha] at E
      subst k4
      have IQ:=gh iq
      have OK3:=gh ok3
      have HA:=gh ha
      have L3:=gh ((Rn.read_on hq).lt l2)
      have HE:=gh E
      clear E hof okt hc hx l1 ok1 ix ok2 l2 hkk hp hq iq ok3 ha
      go_wp2_with (fail)
      refine (childr_r _ r t n k R.1 OK.out IK.out c t1 HC.out).mono ?_
      rintro e W2 ⟨rfl,R2⟩
      replace R2:=R.trans R2
      go_wp2_with (fail)
      refine (peek_r _ r t1 c R2.1 OK1.out x t2 HX.out).mono ?_
      rintro e W3 ⟨rfl,R3⟩
      replace R3:=R2.trans R3
      go_wp2_with (fail)
      refine (ak_d _ x p IX.out HP.out).mono ?_
      rintro e w' ⟨rfl,rfl⟩
      go_wp2_with (fail)
      refine (kk_d _ x 4 IX.out HK.out).mono ?_
      rintro e w' ⟨rfl,rfl⟩
      go_wp2_with (fail)
      refine (read_r _ r t2 p R3.1 q t3 HQ.out).mono ?_
      rintro e W4 ⟨rfl,R4⟩
      replace R4:=R3.trans R4
      go_wp2_with (fail)
      refine (ak_d _ q a IQ.out HA.out).mono ?_
      rintro e w' ⟨rfl,rfl⟩
      go_wp2
      exact ⟨⟨a,t3,rfl,R4,OK3.out,HE.out⟩,by rw [R4.leftAt,R.leftAt];exact L3.out⟩
     ·rw [Rn.seekL_none hof hc hx (by rw [hkk];exact k2) (by rw [hkk];exact k3) (by rw [hkk];exact k4)] at E
      have g2:(kk == 2)=false:=by simp [k2]
      have g3:(kk == 3)=false:=by simp [k3]
      have g4:(kk == 4)=false:=by simp [k4]
      have HE:=gh E
      clear E hof okt hc hx l1 ok1 ix ok2 l2 hkk hp
      go_wp2_with (fail)
      refine (childr_r _ r t n k R.1 OK.out IK.out c t1 HC.out).mono ?_
      rintro e W2 ⟨rfl,R2⟩
      replace R2:=R.trans R2
      go_wp2_with (fail)
      refine (peek_r _ r t1 c R2.1 OK1.out x t2 HX.out).mono ?_
      rintro e W3 ⟨rfl,R3⟩
      replace R3:=R2.trans R3
      go_wp2_with (fail)
      refine (ak_d _ x p IX.out HP.out).mono ?_
      rintro e w' ⟨rfl,rfl⟩
      go_wp2_with (fail)
      refine (kk_d _ x kk IX.out HK.out).mono ?_
      rintro e w' ⟨rfl,rfl⟩
      go_wp2
      go_ret2
      have e2:=HE.out
      cases e2
      exact ⟨rfl,R3⟩
end
section
variable {X:Nat→Prop}
theorem Rn.slotL_tape (n:Nat):∀ (s:Rn) (a z:Int),s.left≤n→(s.slotL a z).2.tape=s.tape:=by
 induction n with
 | zero=>
  intro s a z h
  have:¬ (s.off=false∧kd z=5):=by rintro ⟨h1,_⟩;unfold Rn.left at h;rw [h1] at h;simp at h
  rw [Rn.slotL_stop this]
 | succ n ih=>
  intro s a z h
  by_cases hc:s.off=false∧kd z=5
  ·have hl:((s.help (ad z)).read a).2.left < s.left:=Nat.lt_of_le_of_lt (Rn.read_le _ _) (Rn.help_lt _ hc.1)
   rw [Rn.slotL_go hc.1 hc.2 (y:=((s.help (ad z)).read a).1) (t:=((s.help (ad z)).read a).2) rfl]
   have e:((s.help (ad z)).read a).2.tape=s.tape:=(Rn.ask_tape _ _).trans (((Rn.ask_on s _).trans (Rn.help_on s (ad z))).tape)
   exact (ih _ _ _ (by omega)).trans e
  ·rw [Rn.slotL_stop hc]
theorem Rn.slot_tape (s:Rn) (a:Int):(s.slot a).2.tape=s.tape:=(Rn.slotL_tape _ _ _ _ (Nat.le_refl _)).trans (Rn.ask_tape _ _)
structure Went (X:Nat→Prop) (W:World) (r:Nat) (s s':Rn) (W':World):Prop where
 ran:Ran X W r s' W'
 on:Rn.On s s'
 ok:s'.ok
theorem Went.at {W W':World} {r:Nat} {s s':Rn} (h:Went X W r s s' W'):RunAt X W' r s':=h.ran.1
theorem Went.trans {W W' W'':World} {r:Nat} {s s' s'':Rn} (h:Went X W r s s' W') (h':Went X W' r s' s'' W''):Went X W r s s'' W'':=⟨h.ran.trans h'.ran,h.on.trans h'.on,h'.ok⟩
theorem Went.refl {W:World} {r:Nat} {s:Rn} (h:RunAt X W r s) (ho:s.ok):Went X W r s s W:=⟨Ran.refl h,Rn.On.refl s,ho⟩
end
section
open Go.Shelf
variable {X:Nat→Prop} {lo:Nat}
attribute [local go_sem] Oper.semAt_some
structure Gath (X:Nat→Prop) (lo:Nat) (W:World) (r:Nat) (s s':Rn) (W':World):Prop where
 lies:RunAt X W' r s'
 turned:Td (fun k=>k=r∨lo≤k) W W'
 on:Rn.On s s'
 ok:s'.ok
theorem Went.gath {W W':World} {r:Nat} {s s':Rn} (h:Went X W r s s' W'):Gath X lo W r s s' W':=⟨h.at,h.ran.2.mono fun _ _ e=>.inl e,h.on,h.ok⟩
theorem Gath.trans {W W' W'':World} {r:Nat} {s s' s'':Rn} (h:Gath X lo W r s s' W') (h':Gath X lo W' r s' s'' W''):Gath X lo W r s s'' W'':=⟨h'.lies,h.turned.trans h'.turned (fun _ e=>e) (fun _ _ e=>e),h.on.trans h'.on,h'.ok⟩
theorem RunAt.rlo {W:World} {r:Nat} {s:Rn} (h:RunAt X W r s) (hX:∀ k,X k→k < lo):r < lo:=by
 obtain ⟨ta,tc,wa,wc,h⟩:=h
 exact hX _ h.own
theorem PRow.ran {W W':World} {r:Nat} {E:TypeId} {v:Value} {xs:List (Int × Int)} (h:PRow W lo E v xs) (t:Td (fun k=>k=r) W W') (hr:r < lo):PRow W' lo E v xs:=by
 refine h.turned t ?_
 obtain ⟨a,cap,rfl,_,_,_,_,hb⟩:=h.reads
 intro g e hg
 cases a with
 | none=>simp [Value.ownBlock] at e
 | some ad=>
  have:=hb ad rfl
  simp [Value.ownBlock] at e
  omega
theorem Gath.grown {W W':World} {r:Nat} {s:Rn} {v:Value} {xs:List (Int × Int)} (hX:∀ k,X k→k < lo) (h:RunAt X W r s) (ho:s.ok) (hr:PRow W lo 59 v xs) (tmp:Obj) (hg:(W.alloc tmp).grownBy W' v.ownBlock):Gath X lo W r s s W':=by
 have t0:Td (fun k=>lo≤k) W (W.alloc tmp):=Td.alloc _ _ _
 have t1:Td (fun k=>lo≤k) (W.alloc tmp) W':=Td.of_grownBy hg (by
  intro k e
  obtain ⟨a,cap,rfl,_,_,_,_,hb⟩:=hr.reads
  cases a with
  | none=>simp [Value.ownBlock] at e
  | some ad=>
   have:=hb ad rfl
   simp [Value.ownBlock] at e
   omega)
 have t:=t0.trans t1 (fun _ e=>e) (fun _ _ e=>e)
 exact ⟨h.above t (fun k h1 h2=>by have:=hX k h1;omega),t.mono (fun _ _ e=>.inr e),Rn.On.refl s,ho⟩
end
section
variable {X:Nat→Prop}
theorem Went.turned {W W':World} {r:Nat} {s s':Rn} (h:Went X W r s s' W'):Td (fun k=>k=r) W W':=h.ran.2
theorem Went.behind {W W' W'':World} {r:Nat} {s s':Rn} (k:Kept W W') (h:Went X W' r s s' W''):Went X W r s s' W'':=⟨Ran.behind k h.ran,h.on,h.ok⟩
theorem Rn.dcss_on (s:Rn) (g p old x:Int):Rn.On s (s.dcss g p old x).2:=by
 unfold Rn.dcss
 dsimp only
 generalize hm:s.make [g,p,old,x,0]=m
 have h1:Rn.On s m.2:=Rn.make_on hm
 split
 ·have h2:Rn.On m.2 ({ m.2 with rc:=m.1 }:Rn):=⟨rfl,Nat.le_refl _⟩
  generalize hc:({ m.2 with rc:=m.1 }:Rn).cas p old (Rf.ofZ 5 m.1)=c
  have h3:=(h1.trans h2).trans (Rn.cas_on hc)
  split
  ·generalize hq:c.2.read g=q
   generalize hd:q.2.cas (wrap64 (m.1+4)) 0 (if q.1=0 then 1 else 2)=d
   generalize ho:d.2.read (wrap64 (m.1+4))=o
   have h4:=h3.trans (((Rn.read_on hq).trans (Rn.cas_on hd)).trans (Rn.read_on ho))
   split
   ·exact h4.trans (Rn.ask_on _ _)
   ·exact h4.trans (Rn.ask_on _ _)
  ·exact h3
 ·exact h1
theorem emptyw_r (w:World):Calls Tryz.prog 57 #[] w (Fresh [0] w):=by
 go_enter Tryz.func57,Tryz.ntmps57
 go_wp2
 go_ret
 exact ⟨_,rfl,row_new w 2 [0] _ (Nat.le_refl _) (by simp),Td.alloc _ _ _⟩
theorem leafw_r (w:World) (k v:Int):Calls Tryz.prog 191 #[.int .i64 k,.int .i64 v] w (Fresh [k,v] w):=by
 go_enter Tryz.func191,Tryz.ntmps191
 go_wp2
 go_ret
 exact ⟨_,rfl,row_new w 2 [k,v] _ (Nat.le_refl _) (by simp),Td.alloc _ _ _⟩
end
section
def cp (s:Mst):Mst:=(Mst.new s.size).make s.xs
theorem cp_xs {s:Mst} (h:(s.xs.length:Int)≤s.size):(cp s).xs=s.xs:=by
 unfold cp Mst.make
 split
 ·show []++s.xs=s.xs;simp
 ·rename_i hf
  have:s.xs=[]:=by
   apply Classical.byContradiction
   intro h0
   apply hf
   have:=List.length_pos_iff.2 h0
   simp [Mst.fits,Mst.new]
   omega
  rw [this];rfl
theorem cp_size (s:Mst):(cp s).size=s.size:=by unfold cp Mst.make;split <;> rfl
theorem copy_c (W:World) (n₀ b:Nat) (v:Value) (s:Mst) (h:DMem W n₀ b v s) (h1:1≤s.size) :
  Calls Tryz.prog 27 #[.pointer (some ⟨b,0,none⟩)] W fun e W'=>∃ bm,e=.returned (.pointer (some ⟨bm,0,none⟩))∧Now W W' bm (cp s):=by
 obtain ⟨la,lc,rfl,hr,hlc,hlm⟩:=h.form
 have c0:=(DMem.opened h).1.2.1
 have hb:b < W.heap.size:=(h.lt b (.inl rfl)).2
 have hl:=h.len
 have h2:=h.top
 have H:=gh h
 have HR:=gh hr
 obtain ⟨N,hN⟩:∃ N,s.xs.length=N:=⟨_,rfl⟩
 have HN:=gh hN
 obtain ⟨z,hz⟩:∃ z,s.size=z:=⟨_,rfl⟩
 have HZ:=gh hz
 rw [hz] at c0 h1 h2
 clear h hr hlc hlm hz hN
 go_enter Tryz.func27,Tryz.ntmps27
 go_wp2_with (fail)
 refine (now_new W W z (Kept.refl W) h1 h2).mono ?_
 rintro e W1 ⟨rfl,N1,k1⟩
 obtain ⟨bm,hbm⟩:∃ bm,W.heap.size=bm:=⟨_,rfl⟩
 rw [hbm] at N1 ⊢
 have c1:=(DMem.opened (H.out.kept k1)).1.1
 rw [HN.out] at c1
 have M1:=gh N1
 have HF:Hid (cp s=(Mst.new z).make s.xs):=gh (by unfold cp;rw [HZ.out])
 clear N1 k1 hbm c0
 go_wp2_with (fail)
 rw [← HN.out]
 refine (now_put W W1 bm (Mst.new z) la s.xs lc _ _ _ M1.out HR.out (by unfold maxLen;omega) rfl rfl rfl).mono ?_
 rintro e W2 ⟨rfl,N2⟩
 have M2:=gh N2
 clear N2 M1 c1
 go_wp2
 go_ret
 exact ⟨bm,rfl,by rw [HF.out];exact M2.out⟩
theorem like_c (w W:World) (bm:Nat) (s:Mst) (hm:Now w W bm s) (n₀ bx:Nat) (vx:Value) (sx:Mst) (hx:DMem W n₀ bx vx sx) (e1:sx.xs=s.xs) (e2:sx.size=s.size) :
  Calls Tryz.prog 29 #[.pointer (some ⟨bm,0,none⟩),.pointer (some ⟨bx,0,none⟩)] W fun e W'=>e=.returned (.bool true)∧Kept W W':=by
 obtain ⟨ax,cx,rfl,hrx,hcx,hmx⟩:=hx.form
 rw [e1] at hrx hcx
 have bC:∀ y:Wd (Kept W),y.w.cell? ⟨bx,1,none⟩=some (.slice ax s.xs.length cx):=fun y=>by rw [← e1];exact (DMem.opened (hx.kept y.ok)).1.1
 have bS:∀ y:Wd (Kept W),y.w.cell? ⟨bx,0,none⟩=some (.int .i64 s.size):=fun y=>by rw [← e2];exact (DMem.opened (hx.kept y.ok)).1.2.1
 have HX:=gh hrx
 have HCX:=gh hcx
 have hl:=hx.len
 rw [e1] at hl
 have KD:=gh (Kept.drew W)
 have HP:=gh hm
 clear hx hrx hcx hmx hm e1 e2
 go_enter Tryz.func29,Tryz.ntmps29
 go_wp2_with (fail)
 refine region_wide [0,2,3,4,5,1,6,7,8,10,11,12,13,14,9,15,16,17,18,20,21,22,23,19,24,25,26] (Kept W) (by kernel_rfl) (by kernel_rfl) KD.out (fun _=>?_)
 repeat (refine pq rfl rfl ?_;go_big_quiet_step (fail);refine wpQuiet_nil ?_)
 refine pl rfl rfl ?_
 gi_wp2_with (fail)
 refine ⟨trivial,?_⟩
 refine (callsIn_wide.2 (now_cells w _ bm s (HP.out.on KD.out))).mono ?_
 rintro e W1 ⟨a1,cap1,rfl,hr1,hc1,hm1,-,-,hk⟩
 have K1:=gh (KD.out.trans hk)
 have HR1:=gh hr1
 have HC1:=gh hc1
 have HM1:=gh hm1
 clear hr1 hc1 hm1 hk
 gi_wp2_with (fail)
 refine ⟨Wd.mem K1.out,?_⟩
 refine pl rfl rfl ?_
 gi_wp2_with (fail)
 refine ⟨trivial,?_⟩
 refine (callsIn_wide.2 (words_k W1 a1 ax s.xs cap1 cx HR1.out (HX.out.kept K1.out) HC1.out HCX.out HM1.out)).mono ?_
 rintro e W2 ⟨rfl,hk⟩
 have K2:=gh (K1.out.trans hk)
 clear hk
 gi_wp2_with (fail)
 refine ⟨Wd.mem K2.out,?_⟩
 repeat (refine pq rfl rfl ?_;go_big_quiet_step (fail);refine wpQuiet_nil ?_)
 refine pl rfl rfl ?_
 gi_wp2_with (fail)
 refine ⟨trivial,?_⟩
 refine (callsIn_wide.2 (now_used w W2 bm s (s.xs.length:Int) (HP.out.on K2.out) rfl)).mono ?_
 rintro e w' ⟨rfl,rfl⟩
 gi_wp2_with (fail)
 refine ⟨Wd.mem K2.out,?_⟩
 repeat (refine pq rfl rfl ?_;go_big_quiet_step (fail);refine wpQuiet_nil ?_)
 refine pl rfl rfl ?_
 gi_wp2_with (fail)
 refine ⟨trivial,?_⟩
 refine (callsIn_wide.2 (now_size w W2 bm s s.size (HP.out.on K2.out) rfl)).mono ?_
 rintro e w' ⟨rfl,rfl⟩
 gi_wp2_with (fail)
 refine ⟨Wd.mem K2.out,?_⟩
 repeat (refine pq rfl rfl ?_;go_big_quiet_step (fail);refine wpQuiet_nil ?_)
 refine perm_done ?_
 go_wp2
 go_ret
 exact ⟨rfl,K2.out⟩
end
section
open Go.Shelf
variable {X:Nat→Prop}
attribute [local go_sem] Oper.semAt_some
end
section
theorem inner_r (w:World) (size:Int) (aq:Option Addr) (q:List Int) (cq:Nat) (ac:Option Addr) (c:List Int) (cc:Nat) (hq:Reads w aq q) (hc:Reads w ac c) (hq0:aq=none→cq=0) (hc0:ac=none→cc=0) (hlen:c.length=q.length+1) (hl:c.length≤40000) :
  Calls Tryz.prog 179 #[.int .i64 size,.slice aq q.length cq,.slice ac c.length cc] w (Fresh (innerL size q c) w):=by
 have K1:Kept w (w.alloc (.cells #[.int .i64 (c.length:Int),.int .i64 size,.int .i64 0,.int .i64 0,.int .i64 0] 2)):=Td.alloc _ _ _
 have R0:Hid (Row (w.alloc (.cells #[.int .i64 (c.length:Int),.int .i64 size,.int .i64 0,.int .i64 0,.int .i64 0] 2)) w.heap.size 2 (.slice (some ⟨w.heap.size,0,none⟩) 5 5) [(c.length:Int),size,0,0,0]):=gh (row_new w 2 [(c.length:Int),size,0,0,0] _ (Nat.le_refl _) (by simp))
 have HQ:=gh (hq.kept K1)
 have HC:=gh hc
 have HQ0:=gh hq0
 have HC0:=gh hc0
 have KK:=gh K1
 have n1:((c.length:Int) == (q.length:Int)+1)=true:=by simp only [beq_iff_eq];omega
 have n2:((c.length:Int) != (q.length:Int)+1)=false:=by simp only [bne_eq_false_iff_eq];omega
 have i1:(q.length:Int)≤40000:=by omega
 have HL:=gh (And.intro hlen hl)
 clear hq hc hq0 hc0 hlen hl K1
 go_enter Tryz.func179,Tryz.ntmps179
 go_wp2_with (at_builtin;refine Stop.out ?_)
 refine ⟨?_⟩
 refine wpList_append_reads rfl _ _ rfl w.heap.size _ 5 (cellsOf [(c.length:Int),size,0,0,0]) rfl R0.out aq q cq rfl HQ.out HQ0.out (by have:=HL.out;omega) KK.out.size ?_
 intro v2 w2 hown hg _
 have R2:Hid (Row w2 w.heap.size 2 v2 ([(c.length:Int),size,0,0,0]++q)):=gh (by
  show World.ownsRow _ _ 2 1 _ ([(c.length:Int),size,0,0,0]++q).length (cellsOf ([(c.length:Int),size,0,0,0]++q))
  rw [List.length_append,cellsOf,List.map_append]
  exact hown)
 have K2:=gh (kept_append KK.out R0.out hg)
 clear hown hg R0 HQ HQ0 KK
 go_wp2_with (at_builtin;refine Stop.out ?_)
 refine ⟨?_⟩
 refine wpList_append_reads rfl _ _ rfl w.heap.size _ _ (cellsOf ([(c.length:Int),size,0,0,0]++q)) rfl R2.out ac c cc rfl (HC.out.kept K2.out) HC0.out (by have:=HL.out;simp;omega) K2.out.size ?_
 intro v3 w3 hown hg _
 have R3:Hid (Row w3 w.heap.size 2 v3 (innerL size q c)):=gh (by
  show World.ownsRow _ _ 2 1 _ (innerL size q c).length (cellsOf (innerL size q c))
  rw [innerL,← List.append_assoc,List.length_append,cellsOf,List.map_append]
  exact hown)
 have K3:=gh (kept_append K2.out R2.out hg)
 clear hown hg R2 HC HC0 K2
 go_wp2
 go_ret
 exact ⟨_,rfl,R3.out,K3.out⟩
theorem rebuildw_r (w:World) (k g p:Int):Calls Tryz.prog 195 #[.int .i64 k,.int .i64 g,.int .i64 p] w (Fresh [k,g,p,0,0] w):=by
 go_enter Tryz.func195,Tryz.ntmps195
 go_wp2
 go_ret
 exact ⟨_,rfl,row_new w 2 [k,g,p,0,0] _ (Nat.le_refl _) (by simp),Td.alloc _ _ _⟩
end
namespace Pt
open Go.ChangeShapes Go.WideShapes Go.ChangeAt Go.RowKit
theorem deg_s (n:Int) (hn:(Lit.int .i64 n).wf=true) (w:World) :
  Calls Tryz.prog 203 #[.int .i64 n] w fun e w'=>e=.returned (.int .i64 (degZ n))∧w'=w:=
 (deg_c n hn w).mono fun _ _ ⟨a,b⟩=>⟨a,b.symm⟩
theorem size_c (n i:Int) (hn:(Lit.int .i64 n).wf=true) (w:World) :
  Calls Tryz.prog 176 #[.int .i64 n,.int .i64 i] w fun e w'=>e=.returned (.int .i64 (sizeZ n i))∧∃ k,w'=w.drewN k:=by
 have hp:=part_c n i hn
 have hd:=deg_s n hn
 have d:=deg_nat n
 by_cases c:0≤i∧i < degZ n
 ·rw [decide_eq_true c] at hp
  have p:=deg_pos (n:=n) (by omega)
  have eb:=each_bound (n:=n) (by omega)
  have sp:=split_eq (n:=n) (by omega)
  have e1:n / degZ n=eachZ n:=rfl
  have e2:n % degZ n=moreZ n:=rfl
  by_cases c2:i < moreZ n
  ·rw [size_more c.1 c.2 c2]
   generalize eachZ n=q at *
   generalize moreZ n=m at *
   generalize degZ n=z at *
   clear sp hn
   go_enter Tryz.func176,Tryz.ntmps176
   go_wp2_with (go_at_call 204;refine (hp _).mono ?_;rintro e w' ⟨rfl,rfl⟩)
   go_quiet (first | (go_at_call 203;refine Calls.quiet_of_same (hd _)))
   go_wp2
   go_ret
   exact ⟨rfl,_,rfl⟩
  ·rw [size_each c.1 c.2 (by omega)]
   generalize eachZ n=q at *
   generalize moreZ n=m at *
   generalize degZ n=z at *
   clear sp hn
   go_enter Tryz.func176,Tryz.ntmps176
   go_wp2_with (go_at_call 204;refine (hp _).mono ?_;rintro e w' ⟨rfl,rfl⟩)
   go_quiet (first | (go_at_call 203;refine Calls.quiet_of_same (hd _)))
   go_wp2
   go_ret
   exact ⟨ret_int e1,_,rfl⟩
 ·rw [decide_eq_false c] at hp
  rw [size_none (by omega)]
  clear hn
  go_enter Tryz.func176,Tryz.ntmps176
  go_wp2_with (go_at_call 204;refine (hp _).mono ?_;rintro e w' ⟨rfl,rfl⟩)
  go_ret
  exact ⟨rfl,0,rfl⟩
theorem from_c (n i:Int) (hn:(Lit.int .i64 n).wf=true) (w:World) :
  Calls Tryz.prog 175 #[.int .i64 n,.int .i64 i] w fun e w'=>e=.returned (.int .i64 (fromZ n i))∧∃ k,w'=w.drewN k:=by
 have hp:=part_c n i hn
 have hd:=deg_s n hn
 have d:=deg_nat n
 by_cases c:0≤i∧i < degZ n
 ·rw [decide_eq_true c] at hp
  have p:=deg_pos (n:=n) (by omega)
  have eb:=each_bound (n:=n) (by omega)
  have sp:=split_eq (n:=n) (by omega)
  have ab:=ahead_bound (n:=n) (i:=i) (by omega) (by omega) (by omega)
  have e1:n / degZ n=eachZ n:=rfl
  have e2:n % degZ n=moreZ n:=rfl
  have e3:wrap64 (i * eachZ n)=i * eachZ n:=wrap_same (by omega) (by omega)
  rw [from_some c.1 c.2]
  unfold aheadZ at *
  generalize eachZ n=q at *
  generalize moreZ n=m at *
  generalize degZ n=z at *
  obtain ⟨u,hu⟩:∃ u,i * q=u:=⟨_,rfl⟩
  rw [hu] at ab ⊢
  have e4:wrap64 (i * q)=u:=by rw [e3,hu]
  clear sp hn e3 hu
  go_enter Tryz.func175,Tryz.ntmps175
  go_wp2_with (go_at_call 204;refine (hp _).mono ?_;rintro e w' ⟨rfl,rfl⟩)
  go_quiet (first | (go_at_call 203;refine Calls.quiet_of_same (hd _)))
  go_wp2
  go_ret
  exact ⟨rfl,_,rfl⟩
 ·rw [decide_eq_false c] at hp
  rw [from_none (by omega)]
  clear hn
  go_enter Tryz.func175,Tryz.ntmps175
  go_wp2_with (go_at_call 204;refine (hp _).mono ?_;rintro e w' ⟨rfl,rfl⟩)
  go_ret
  exact ⟨rfl,0,rfl⟩
end Pt
namespace Pt
open Go.ChangeShapes Go.WideShapes Go.ChangeAt Go.RowKit
theorem root_r (n:Int) (hn:(Lit.int .i64 n).wf=true) (w:World) :
  Calls Tryz.prog 178 #[.int .i64 n] w fun e w'=>e=.returned (.int .i64 (rootZ n))∧w=w':=by
 have hn':=bounds_i64 hn
 by_cases c:n < 1
 ·rw [root_none c]
  go_enter Tryz.func178,Tryz.ntmps178
  go_wp2
  go_ret
  exact ⟨rfl,rfl⟩
 ·obtain ⟨z,ez⟩:∃ z,rootZ n=z:=⟨_,rfl⟩
  have HE:=gh ez
  rw [ez]
  clear ez hn
  go_enter Tryz.func178,Tryz.ntmps178
  go_wp2
  go_loop [3,4,5] (fun r b _=>∃ (x:Int) (k:Nat),k≤32∧0≤x∧x≤3037000499∧Hid (x * x≤n∧n < (x+((2 ^ k:Nat):Int)) * (x+((2 ^ k:Nat):Int)))∧r=.int .i64 x∧b=.int .i64 ((k:Int) - 1)) (fun _ b _=>(intOf b+1).toNat)
  case atStart=>exact ⟨0,32,by omega,by omega,by omega,gh ⟨by omega,by omega⟩,rfl,rfl⟩
  case round=>
   obtain ⟨x,k,k1,x0,x1,H,rfl,rfl⟩:=hrel
   cases k with
   | zero=>
    have e:x=z:=by rw [← HE.out];exact (root_unique x0 H.out.1 H.out.2).symm
    subst e
    clear H HE
    go_wp2
    go_ret
    exact ⟨rfl,rfl⟩
   | succ k=>
    have ep:=pow_wrap (k:=k) (by omega)
    have e2:((2 ^ (k+1):Nat):Int)=2 * ((2 ^ k:Nat):Int):=by rw [Nat.pow_succ];omega
    have d1:1≤2 ^ k:=Nat.one_le_two_pow
    have d2:2 ^ k≤2 ^ 31:=Nat.pow_le_pow_right (by omega) (by omega)
    obtain ⟨h1,h2⟩:=H.out
    rw [e2] at h2
    have HK:∀ x:Int,x * x≤n→n < (x+((2 ^ k:Nat):Int)) * (x+((2 ^ k:Nat):Int))→Hid (x * x≤n∧n < (x+((2 ^ k:Nat):Int)) * (x+((2 ^ k:Nat):Int))):=fun _ a b=>gh ⟨a,b⟩
    obtain ⟨d,hd⟩:∃ d:Int,((2 ^ k:Nat):Int)=d:=⟨_,rfl⟩
    have d1':1≤d:=by omega
    have d2':d≤2147483648:=by omega
    rw [hd] at h2 ep HK
    have HD:=gh hd
    clear H HE hd d1 d2 e2
    have q:=le_quo (n:=n) (t:=x+d) (by omega)
    by_cases g:(x+d) * (x+d)≤n
    ·have g':=q.mpr g
     have x1':x+d≤3037000499:=by
      have:=lt_of_self (a:=x+d) (b:=3037000500) (by omega) (by omega)
      omega
     have H2:=HK (x+d) g (by have e:x+d+d=x+2 * d:=(by omega);rw [e];exact h2)
     clear q g h1 h2 HK
     go_wp2
     go_round
     case rel=>exact ⟨x+d,k,by omega,by omega,by omega,(by rw [← HD.out] at H2 ⊢;exact H2),rfl,rfl⟩
     case measure=>simp [intOf]
    ·have g':¬ x+d≤n / (x+d):=fun h=>g (q.mp h)
     have H2:=HK x h1 (by omega)
     clear q g h1 h2 HK
     go_wp2
     go_round
     case rel=>exact ⟨x,k,by omega,by omega,by omega,(by rw [← HD.out] at H2;exact H2),rfl,rfl⟩
     case measure=>simp [intOf]
theorem deg_r (n:Int) (hn:(Lit.int .i64 n).wf=true) (w:World) :
  Calls Tryz.prog 138 #[.int .i64 n] w fun e w'=>e=.returned (.int .i64 (degZ n))∧w=w':=by
 have hn':=bounds_i64 hn
 by_cases c:n < 2
 ·rw [deg_none (by omega)]
  clear hn
  go_enter Tryz.func138,Tryz.ntmps138
  go_wp2
  go_ret
  exact ⟨rfl,rfl⟩
 ·by_cases c2:16384 < n
  ·rw [deg_none (by omega)]
   clear hn
   go_enter Tryz.func138,Tryz.ntmps138
   go_wp2
   go_ret
   exact ⟨rfl,rfl⟩
  ·have hr:=root_r n hn
   have b:=root_bound (n:=n) (by omega) (by omega)
   rw [deg_some (by omega) (by omega)]
   obtain ⟨r,er⟩:∃ r,rootZ n=r:=⟨_,rfl⟩
   rw [er] at hr b ⊢
   clear hn er
   go_enter Tryz.func138,Tryz.ntmps138
   go_wp2_with (go_at_call 178;refine (hr _).mono ?_;rintro e w' ⟨rfl,rfl⟩)
   go_ret
   exact ⟨rfl,rfl⟩
theorem size_r (n i:Int) (hn:(Lit.int .i64 n).wf=true) (w:World) :
  Calls Tryz.prog 139 #[.int .i64 n,.int .i64 i] w fun e w'=>e=.returned (.int .i64 (sizeZ n i))∧w=w':=by
 have hd:=deg_r n hn
 have d:=deg_nat n
 by_cases c:i < 0
 ·rw [size_none (by omega)]
  generalize degZ n=z at *
  clear hn
  go_enter Tryz.func139,Tryz.ntmps139
  go_wp2_with (go_at_call 138;refine (hd _).mono ?_;rintro e w' ⟨rfl,rfl⟩)
  go_ret
  exact ⟨rfl,rfl⟩
 ·by_cases c0:degZ n≤i
  ·rw [size_none (by omega)]
   generalize degZ n=z at *
   clear hn
   go_enter Tryz.func139,Tryz.ntmps139
   go_wp2_with (go_at_call 138;refine (hd _).mono ?_;rintro e w' ⟨rfl,rfl⟩)
   go_ret
   exact ⟨rfl,rfl⟩
  ·have p:=deg_pos (n:=n) (by omega)
   have eb:=each_bound (n:=n) (by omega)
   have sp:=split_eq (n:=n) (by omega)
   have e1:n / degZ n=eachZ n:=rfl
   have e2:n % degZ n=moreZ n:=rfl
   by_cases c2:i < moreZ n
   ·rw [size_more (by omega) (by omega) c2]
    generalize eachZ n=q at *
    generalize moreZ n=m at *
    generalize degZ n=z at *
    clear sp hn
    go_enter Tryz.func139,Tryz.ntmps139
    go_wp2_with (go_at_call 138;refine (hd _).mono ?_;rintro e w' ⟨rfl,rfl⟩)
    go_ret
    exact ⟨rfl,rfl⟩
   ·rw [size_each (by omega) (by omega) (by omega)]
    generalize eachZ n=q at *
    generalize moreZ n=m at *
    generalize degZ n=z at *
    clear sp hn
    go_enter Tryz.func139,Tryz.ntmps139
    go_wp2_with (go_at_call 138;refine (hd _).mono ?_;rintro e w' ⟨rfl,rfl⟩)
    go_ret
    exact ⟨ret_int e1,rfl⟩
theorem from_r (n i:Int) (hn:(Lit.int .i64 n).wf=true) (w:World) :
  Calls Tryz.prog 192 #[.int .i64 n,.int .i64 i] w fun e w'=>e=.returned (.int .i64 (fromZ n i))∧w=w':=by
 have hd:=deg_r n hn
 have d:=deg_nat n
 by_cases c:i < 0
 ·rw [from_none (by omega)]
  clear hn hd d
  go_enter Tryz.func192,Tryz.ntmps192
  go_wp2
  go_ret
  exact ⟨rfl,rfl⟩
 ·by_cases c0:degZ n≤i
  ·rw [from_none (by omega)]
   generalize degZ n=z at *
   clear hn
   go_enter Tryz.func192,Tryz.ntmps192
   go_wp2_with (go_at_call 138;refine (hd _).mono ?_;rintro e w' ⟨rfl,rfl⟩)
   go_ret
   exact ⟨rfl,rfl⟩
  ·rw [from_some (by omega) (by omega)]
   obtain ⟨z,ez⟩:∃ z,degZ n=z:=⟨_,rfl⟩
   have HZ:=gh ez
   rw [ez] at hd d c0
   obtain ⟨r,er⟩:∃ r,aheadZ n i=r:=⟨_,rfl⟩
   have HR:=gh er
   rw [er]
   have hn2:=gh hn
   clear hn ez er
   go_enter Tryz.func192,Tryz.ntmps192
   go_wp2_with (go_at_call 138;refine (hd _).mono ?_;rintro e w' ⟨rfl,rfl⟩)
   go_loop [5,6] (fun a k=>∃ x y:Int,Hid (aheadZ n y=x)∧0≤y∧y≤i∧a=.int .i64 x∧k=.int .i64 y) (fun _ k=>(i - intOf k).toNat)
   case atStart=>exact ⟨0,0,gh (ahead_zero (by have:=HZ.out;omega)),by omega,by omega,rfl,rfl⟩
   case round=>
    obtain ⟨x,y,H,y0,y1,rfl,rfl⟩:=hrel
    by_cases f:y < i
    ·have hs:=size_r n y hn2.out
     have b1:=ahead_bound (n:=n) (i:=y) (by omega) (by have:=HZ.out;omega) (by have:=HZ.out;omega)
     have b2:=ahead_bound (n:=n) (i:=y+1) (by omega) (by have:=HZ.out;omega) (by have:=HZ.out;omega)
     have st:=ahead_step (n:=n) (i:=y) (by omega) (by have:=HZ.out;omega)
     rw [H.out] at b1 st
     rw [st] at b2
     generalize sizeZ n y=s at *
     have x0:=b1.2.2
     have x1:=b2.2.2
     have H2:=gh st
     clear b1 b2 st H HR HZ hd
     go_wp2_with (go_at_call 139;refine (hs _).mono ?_;rintro e w' ⟨rfl,rfl⟩)
     go_round
     case rel=>exact ⟨x+s,y+1,H2,by omega,by omega,rfl,rfl⟩
     case measure=>simp [intOf];omega
    ·obtain rfl:y=i:=by omega
     have e:x=r:=by rw [← H.out,HR.out]
     subst e
     clear H HR HZ hd
     go_wp2
     go_ret
     exact ⟨rfl,rfl⟩
end Pt
section
def partL (ps:List (Int × Int)) (i:Int):List (Int × Int):=(ps.drop (Pt.fromZ ps.length i).toNat).take (Pt.sizeZ ps.length i).toNat
theorem part_in {n i:Int} (h0:0≤i) (h1:i < Pt.degZ n):0≤Pt.fromZ n i∧1≤Pt.sizeZ n i∧Pt.fromZ n i+Pt.sizeZ n i≤n:=by
 have hp:0 < Pt.degZ n:=by omega
 rw [Pt.from_some h0 h1,← Pt.ahead_step h0 h1]
 have hb:=Pt.ahead_bound h0 (by omega) hp
 have hs:=Pt.size_bound h0 h1
 refine ⟨hb.2.2.1,hs.1,?_⟩
 have mono:∀ k:Nat,i+1+k≤Pt.degZ n→Pt.aheadZ n (i+1)≤Pt.aheadZ n (i+1+k):=by
  intro k
  induction k with
  | zero=>intro _;simp
  | succ k ih=>
   intro hk
   have h2:=ih (by omega)
   have h3:=Pt.ahead_step (n:=n) (i:=i+1+k) (by omega) (by omega)
   have h4:=Pt.size_bound (n:=n) (i:=i+1+k) (by omega) (by omega)
   rw [show i+1+((k+1:Nat):Int)=i+1+k+1 by omega,h3]
   omega
 have:=mono (Pt.degZ n - (i+1)).toNat (by omega)
 rw [show i+1+(((Pt.degZ n - (i+1)).toNat:Nat):Int)=Pt.degZ n by omega,Pt.ahead_end hp] at this
 exact this
theorem PReads.sub {w:World} {bl off:Nat} {ps:List (Int × Int)} (h:PReads w (some ⟨bl,off,none⟩) ps) (i m:Nat):PReads w (some ⟨bl,off+i * 2,none⟩) ((ps.drop i).take m):=by
 rcases h with h | ⟨bl',off',e,h⟩
 ·subst h;exact .inl (by simp)
 ·cases e
  refine .inr ⟨bl,off+i * 2,rfl,fun j p hp=>?_⟩
  have hp':ps[i+j]? = some p:=by
   rw [List.getElem?_take] at hp
   split at hp
   ·rwa [List.getElem?_drop] at hp
   ·cases hp
  have:=h (i+j) p hp'
  rw [show off+(i+j) * 2=off+i * 2+j * 2 by omega,show off+((i+j) * 2+1)=off+i * 2+(j * 2+1) by omega] at this
  exact this
theorem from_k (n i r:Int) (hn:(Lit.int .i64 n).wf=true) (e1:Pt.fromZ n i=r) (w:World):Calls Tryz.prog 175 #[.int .i64 n,.int .i64 i] w fun e w'=>e=.returned (.int .i64 r)∧Kept w w':=by
 refine (Pt.from_c n i hn w).mono ?_
 rw [e1]
 rintro e w' ⟨rfl,k,rfl⟩
 exact ⟨rfl,Kept.drewN _ _⟩
theorem size_k (n i r:Int) (hn:(Lit.int .i64 n).wf=true) (e1:Pt.sizeZ n i=r) (w:World):Calls Tryz.prog 176 #[.int .i64 n,.int .i64 i] w fun e w'=>e=.returned (.int .i64 r)∧Kept w w':=by
 refine (Pt.size_c n i hn w).mono ?_
 rw [e1]
 rintro e w' ⟨rfl,k,rfl⟩
 exact ⟨rfl,Kept.drewN _ _⟩
end
section
set_option maxRecDepth 20000
def lowL (ps:List (Int × Int)):Nat→List Int
 | 0=>[]
 | i+1=>if i=0 then [] else lowL ps i++[((partL ps (i:Int)).headD (0,0)).1]
theorem lowL_len (ps:List (Int × Int)):∀ n,(lowL ps n).length=n - 1
 | 0=>rfl
 | n+1=>by
  rw [lowL]
  split
  ·rename_i h;subst h;rfl
  ·rw [List.length_append,lowL_len ps n,List.length_singleton];omega
theorem preads_head {w:World} {bl off:Nat} {ps:List (Int × Int)} (h:PReads w (some ⟨bl,off,none⟩) ps) (h0:0 < ps.length):w.cell? ⟨bl,off,none⟩=some (.int .i64 (ps.headD (0,0)).1)∧w.cell? ⟨bl,off+1,none⟩=some (.int .i64 (ps.headD (0,0)).2):=by
 cases ps with
 | nil=>simp at h0
 | cons p ps=>
  obtain ⟨bl',off',e,_,h1,h2⟩:=h.at (j:=0) (p:=p) rfl
  cases e
  exact ⟨by simpa using h1,by simpa using h2⟩
theorem Row.form {w:World} {n₀:Nat} {v:Value} {zs:List Int} (h:Row w n₀ 2 v zs):∃ a cap,v=.slice a zs.length cap∧Reads w a zs∧(a=none→cap=0):=by
 have hr:=h
 rcases hr.2 with ⟨rfl,h0⟩ | ⟨g,cap,cur,rfl,hg,_,hc,hm,_⟩
 ·obtain rfl:=List.length_eq_zero_iff.1 h0
  exact ⟨none,0,rfl,.inl rfl,fun _=>rfl⟩
 ·obtain ⟨a,cap',e1,h1,_⟩:=h.reads
  cases e1
  exact ⟨_,_,rfl,h1,fun e=>by cases e⟩
namespace Rn
def recM (s:Rn) (k:Int) (ws:List Int):(Int × Bool) × Rn:=((Rf.ofZ k (s.make ws).1,decide (0 < (s.make ws).1)),(s.make ws).2)
def growK (L:Rn→List (Int × Int)→(Int × Bool) × Rn) (ps:List (Int × Int)) (s:Rn):Nat→(Bool × List Int) × Rn
 | 0=>((true,[]),s)
 | i+1=>if (growK L ps s i).1.1=false then growK L ps s i
  else ((((L (growK L ps s i).2 (partL ps (i:Int))).1.2),(growK L ps s i).1.2++[(L (growK L ps s i).2 (partL ps (i:Int))).1.1]),(L (growK L ps s i).2 (partL ps (i:Int))).2)
def growF:Nat→Rn→List (Int × Int)→(Int × Bool) × Rn
 | 0=>fun s _=>((0,false),s)
 | f+1=>fun s ps=>
  if ps.length=0 then s.recM 1 [0]
  else if ps.length=1 then s.recM 2 [(ps.headD (0,0)).1,(ps.headD (0,0)).2]
  else if (growK (growF f) ps s (Pt.degZ ps.length).toNat).1.1=true then (growK (growF f) ps s (Pt.degZ ps.length).toNat).2.recM 3 (innerL ps.length (lowL ps (Pt.degZ ps.length).toNat) (growK (growF f) ps s (Pt.degZ ps.length).toNat).1.2)
  else ((0,false),(growK (growF f) ps s (Pt.degZ ps.length).toNat).2)
theorem growF_succ (f:Nat) (s:Rn) (ps:List (Int × Int)):growF (f+1) s ps=if ps.length=0 then s.recM 1 [0]
  else if ps.length=1 then s.recM 2 [(ps.headD (0,0)).1,(ps.headD (0,0)).2]
  else if (growK (growF f) ps s (Pt.degZ ps.length).toNat).1.1=true then (growK (growF f) ps s (Pt.degZ ps.length).toNat).2.recM 3 (innerL ps.length (lowL ps (Pt.degZ ps.length).toNat) (growK (growF f) ps s (Pt.degZ ps.length).toNat).1.2)
  else ((0,false),(growK (growF f) ps s (Pt.degZ ps.length).toNat).2):=rfl
theorem growK_len (L:Rn→List (Int × Int)→(Int × Bool) × Rn) (ps:List (Int × Int)) (s:Rn):∀ n,(growK L ps s n).1.1=true→(growK L ps s n).1.2.length=n
 | 0,_=>rfl
 | n+1,h=>by
  rw [growK] at h ⊢
  split at h
  ·rename_i h0
   rw [h0] at h
   cases h
  ·rename_i h0
   rw [if_neg h0,List.length_append,growK_len L ps s n (by simpa using h0)]
   rfl
theorem growK_stop {L:Rn→List (Int × Int)→(Int × Bool) × Rn} {ps:List (Int × Int)} {s:Rn} {n:Nat} (h:(growK L ps s n).1.1=false):∀ {m:Nat},n≤m→growK L ps s m=growK L ps s n
 | 0,hm=>by have:=Nat.le_zero.1 hm;subst this;rfl
 | m+1,hm=>by
  by_cases e:n=m+1
  ·subst e;rfl
  ·rw [growK,growK_stop h (m:=m) (by omega),if_pos h]
end Rn
structure GrowI (X:Nat→Prop) (W₀ W:World) (r:Nat) (s:Rn) (vq vc:Value) (qs cs:List Int):Prop where
 run:RunAt (fun k=>X k∧vq.ownBlock≠some k∧vc.ownBlock≠some k) W r s
 turned:Td (fun k=>k=r) W₀ W
 q:Row W W₀.heap.size 2 vq qs
 c:Row W W₀.heap.size 2 vc cs
 qc:∀ k,vq.ownBlock=some k→vc.ownBlock≠some k
namespace GrowI
variable {X:Nat→Prop} {W₀ W W':World} {r:Nat} {s s':Rn} {vq vc:Value} {qs cs:List Int}
theorem apart {n₀:Nat} {v:Value} {zs:List Int} {R:Nat→Prop} (h:Row W n₀ 2 v zs) (ht:Td R W W') (hn:∀ g,v.ownBlock=some g→¬ R g):Row W' n₀ 2 v zs:=by
 obtain ⟨h1,h2⟩:=h
 refine ⟨h1,?_⟩
 rcases h2 with h2 | ⟨g,cap,cur,rfl,hg,hh,r⟩
 ·exact .inl h2
 ·exact .inr ⟨g,cap,cur,rfl,hg,ht.heap hh (hn g rfl),r⟩
theorem step (h:GrowI X W₀ W r s vq vc qs cs) (hr:r < W₀.heap.size) (d:Ran (fun k=>X k∧vq.ownBlock≠some k∧vc.ownBlock≠some k) W r s' W'):GrowI X W₀ W' r s' vq vc qs cs:=
 ⟨d.1,h.turned.trans d.2 (fun _ e=>e) (fun _ _ e=>e),apart h.q d.2 (fun g hg e=>by have:=(h.q.lt g hg).1;omega),apart h.c d.2 (fun g hg e=>by have:=(h.c.lt g hg).1;omega),h.qc⟩
theorem kept (h:GrowI X W₀ W r s vq vc qs cs) (k:Kept W W'):GrowI X W₀ W' r s vq vc qs cs:=
 ⟨h.run.kept k,k.behind h.turned,h.q.kept k,h.c.kept k,h.qc⟩
theorem swap (h:GrowI X W₀ W r s vq vc qs cs):GrowI X W₀ W r s vc vq cs qs:=
 ⟨h.run.to (fun _ hk _=>⟨hk.1,hk.2.2,hk.2.1⟩),h.turned,h.c,h.q,fun k hk e=>h.qc k e hk⟩
theorem new (h:GrowI X W₀ W r s vq vc qs cs) (hX:∀ k,W₀.heap.size≤k→X k):∀ k,W.heap.size≤k→X k∧vq.ownBlock≠some k∧vc.ownBlock≠some k:=fun k hk=>
 ⟨hX k (Nat.le_trans h.turned.size hk),fun e=>by have:=(h.q.lt k e).2;omega,fun e=>by have:=(h.c.lt k e).2;omega⟩
theorem grow {w1:World} {vq':Value} {qs':List Int} (h:GrowI X W₀ W r s vq vc qs cs) (hown:Row w1 W₀.heap.size 2 vq' qs') (hg:W.grownBy w1 vq.ownBlock) (hat:vq'.ownBlock=vq.ownBlock∨vq'.ownBlock=some W.heap.size):GrowI X W₀ w1 r s vq' vc qs' cs:=by
 have tg:Td (fun k=>vq.ownBlock=some k) W w1:=Td.of_grownBy hg (fun _ e=>e)
 have r0:=h.run
 refine ⟨?_,?_,hown,apart h.c tg (fun g hg' e=>h.qc g e hg'),?_⟩
 ·refine RunAt.above (R:=fun k=>vq.ownBlock=some k) (RunAt.to (Y:=fun k=>(X k∧vq'.ownBlock≠some k∧vc.ownBlock≠some k)∧vq.ownBlock≠some k) r0 (fun k hk hlt=>⟨⟨hk.1,?_,hk.2.2⟩,hk.2.1⟩)) tg (fun k hk e=>hk.2 e) |>.to (fun k hk _=>hk.1)
  intro e
  rcases hat with e' | e'
  ·exact hk.2.1 (by rw [← e'];exact e)
  ·rw [e'] at e
   cases e
   omega
 ·exact h.turned.trans tg (fun _ e=>e) (fun i hi e=>by have:=(h.q.lt i e).1;omega)
 ·intro k hk e'
  rcases hat with e | e
  ·exact h.qc k (by rw [← e];exact hk) e'
  ·have:=(h.c.lt k e').2
   rw [e] at hk
   cases hk
   omega
theorem start (h:RunAt X W₀ r s):GrowI X W₀ W₀ r s (.slice none 0 0) (.slice none 0 0) [] []:=
 ⟨h.to (fun k hk _=>⟨hk,by simp [Value.ownBlock],by simp [Value.ownBlock]⟩),Td.refl _ _,World.ownsRow_nil _ _ _ _,World.ownsRow_nil _ _ _ _,fun k hk=>by simp [Value.ownBlock] at hk⟩
theorem fin (h:GrowI X W₀ W r s vq vc qs cs):Ran X W₀ r s W:=⟨h.run.to (fun _ hk _=>hk.1),h.turned⟩
end GrowI
theorem wpList_append_gq {X:Nat→Prop} {W₀ wr:World} {r:Nat} {s0:Rn} {vq vc:Value} {qs cs qs':List Int} {x:Int} {ops:Array Oper} {rest:List Oper} {o:Oper} {a:Act} {Q:Exit→Act→World→Prop} (hgd:o.guard=none) (s y:Operand)
  (ho:o.op=.call { callee:=.builtin .append,args:=#[s,y],argTypes:=#[56,56] }) (hs:a.eval s=vq) (hx:a.eval y=.slice (some ⟨wr.heap.size,0,none⟩) 1 1) (h:GrowI X W₀ wr r s0 vq vc qs cs) (hl:qs.length≤999999) (hq:qs'=qs++[x])
  (hk:∀ v' w',GrowI X W₀ w' r s0 v' vc qs' cs→wpList Tryz.prog ops Q rest (a.put o.dst v') w') :
  wpList Tryz.prog ops Q (o :: rest) a (wr.alloc (.cells #[.int .i64 x] 2)):=by
 have k1:Kept wr (wr.alloc (.cells #[.int .i64 x] 2)):=Td.alloc _ _ _
 refine wpList_append_reads hgd s y ho W₀.heap.size vq qs.length (cellsOf qs) hs (h.q.kept k1) _ [x] 1 hx (Reads.new wr 2 [x]) (fun e=>by cases e) (by simp;omega) (Nat.le_trans h.turned.size k1.size) ?_
 intro v2 w2 hown hg hat
 refine hk v2 w2 ((h.kept k1).grow ?_ hg hat)
 subst hq
 show World.ownsRow _ _ 2 1 _ (qs++[x]).length (cellsOf (qs++[x]))
 rw [List.length_append,cellsOf,List.map_append]
 exact hown
theorem wpList_append_gc {X:Nat→Prop} {W₀ wr:World} {r:Nat} {s0:Rn} {vq vc:Value} {qs cs cs':List Int} {x:Int} {ops:Array Oper} {rest:List Oper} {o:Oper} {a:Act} {Q:Exit→Act→World→Prop} (hgd:o.guard=none) (s y:Operand)
  (ho:o.op=.call { callee:=.builtin .append,args:=#[s,y],argTypes:=#[56,56] }) (hs:a.eval s=vc) (hx:a.eval y=.slice (some ⟨wr.heap.size,0,none⟩) 1 1) (h:GrowI X W₀ wr r s0 vq vc qs cs) (hl:cs.length≤999999) (hq:cs'=cs++[x])
  (hk:∀ v' w',GrowI X W₀ w' r s0 vq v' qs cs'→wpList Tryz.prog ops Q rest (a.put o.dst v') w') :
  wpList Tryz.prog ops Q (o :: rest) a (wr.alloc (.cells #[.int .i64 x] 2)):=
 wpList_append_gq hgd s y ho hs hx h.swap hl hq (fun v' w' h'=>hk v' w' h'.swap)
end
section
set_option maxRecDepth 20000
theorem Fresh.far {zs:List Int} {W W1:World} {e:Ending} (h:Fresh zs W e W1):∃ a cap,e=.returned (.slice a zs.length cap)∧Kept W W1∧∀ (Y:Nat→Prop) (r:Nat),(∀ k,W.heap.size≤k→Y k)→r < W.heap.size→Far Y W1 r a zs:=by
 obtain ⟨v,rfl,hrow,hk⟩:=h
 obtain ⟨a,cap,rfl,hr,_⟩:=Row.form hrow
 have hs:zs.length≤maxLen:=by
  rcases hrow.2 with ⟨_,h0⟩ | ⟨g,cap',cur,_,_,_,hc,hm,_⟩
  ·omega
  ·exact Nat.le_trans hc hm
 refine ⟨a,cap,rfl,hk,fun Y r hY hrl=>⟨hr,fun ad e=>?_,hs⟩⟩
 subst e
 rcases hrow.2 with ⟨e,_⟩ | ⟨g,cap',cur,e,hg,hh,_⟩
 ·cases e
 ·cases e
  exact ⟨⟨hY _ hg,(Array.getElem?_eq_some_iff.1 hh).1⟩,by simp only;omega⟩
theorem GrowI.list {X:Nat→Prop} {W₀ W:World} {r:Nat} {s:Rn} {vq vc:Value} {qs cs:List Int} {bl off:Nat} {ps:List (Int × Int)} (h:GrowI X W₀ W r s vq vc qs cs) (hr:PReads W₀ (some ⟨bl,off,none⟩) ps) (hf:bl≠r) (F S:Nat):PReads W (some ⟨bl,off+F * 2,none⟩) ((ps.drop F).take S):=
 (hr.turned h.turned (fun k _ ⟨ad,e,e'⟩ hk=>by cases e;exact hf (by rw [← e'] at hk;exact hk))).sub F S
theorem recM_r (X:Nat→Prop) (W:World) (r:Nat) (s:Rn) (k:Int) (a:Option Addr) (ws:List Int) (N cap:Nat) (hN:ws.length=N) (h:RunAt X W r s) (hq:Far X W r a ws) (z:Int) (ok:Bool) (s':Rn) (e1:s.recM k ws=((z,ok),s')) :
  ∃ x,Rf.ofZ k x=z∧decide (0 < x)=ok∧Calls Tryz.prog 186 #[.pointer (some ⟨r,0,none⟩),.slice a N cap] W fun e W'=>e=.returned (.tuple #[.int .i64 x,.bool ok])∧Ran X W r s' W':=by
 unfold Rn.recM at e1
 simp only [Prod.mk.injEq] at e1
 obtain ⟨⟨e2,e3⟩,e4⟩:=e1
 refine ⟨(s.make ws).1,e2,e3,?_⟩
 have:=make_r W r s a N cap ws h hq hN (s.make ws).1 (s.make ws).2 rfl
 rw [e3,e4] at this
 exact this
def GrowC (f:Nat):Prop:=∀ (X:Nat→Prop) (W:World) (r:Nat) (s:Rn) (a:Option Addr) (ps:List (Int × Int)) (M cap:Nat) (_:RunAt X W r s) (_:∀ k,W.heap.size≤k→X k) (_:PReads W a ps) (_:ps.length=M) (_:M≤cap) (_:cap≤maxLen) (_:M≤16384) (_:M < f) (_:ps≠[]→∀ ad,a=some ad→ad.block≠r) (z:Int) (ok:Bool) (s':Rn) (_:Rn.growF f s ps=((z,ok),s')),
  Calls Tryz.prog 160 #[.pointer (some ⟨r,0,none⟩),.slice a M cap] W fun e W'=>e=.returned (.tuple #[.int .i64 z,.bool ok])∧Ran X W r s' W'
set_option maxHeartbeats 4000000 in
theorem growInner_r (f:Nat) (ih:GrowC f) (X:Nat→Prop) (W:World) (r:Nat) (s:Rn) (a:Option Addr) (ps:List (Int × Int)) (M cap:Nat) (h:RunAt X W r s) (hX:∀ k,W.heap.size≤k→X k) (hr:PReads W a ps) (hM:ps.length=M) (hc:M≤cap) (hcm:cap≤maxLen) (hm:M≤16384) (hf:M < f+1) (h2:2≤M) (ha:∀ ad,a=some ad→ad.block≠r) (z:Int) (ok':Bool) (s':Rn) (e1:Rn.growF (f+1) s ps=((z,ok'),s')) :
  Calls Tryz.prog 160 #[.pointer (some ⟨r,0,none⟩),.slice a M cap] W fun e W'=>e=.returned (.tuple #[.int .i64 z,.bool ok'])∧Ran X W r s' W':=by
 have db:=Pt.deg_bound (n:=(M:Int)) (by omega) (by omega)
 obtain ⟨D,hD⟩:∃ D:Nat,Pt.degZ (M:Int)=(D:Int):=⟨(Pt.degZ M).toNat,by omega⟩
 rw [hD] at db
 obtain ⟨d1,d2,d3⟩:=db
 have e2:(if (Rn.growK (Rn.growF f) ps s D).1.1=true then (Rn.growK (Rn.growF f) ps s D).2.recM 3 (innerL (M:Int) (lowL ps D) (Rn.growK (Rn.growF f) ps s D).1.2) else ((0,false),(Rn.growK (Rn.growF f) ps s D).2))=((z,ok'),s'):=by
  rw [Rn.growF_succ,hM,if_neg (by omega),if_neg (by omega),hD] at e1
  exact e1
 obtain ⟨bl,off,rfl⟩:∃ bl off,a=some ⟨bl,off,none⟩:=by
  rcases hr with e | ⟨bl,off,e,_⟩
  ·rw [e] at hM;simp at hM;omega
  ·exact ⟨bl,off,e⟩
 have hcm':(cap:Int)≤9223372036854775807:=by unfold maxLen at hcm;omega
 have HRL:=gh h.lt
 have HA:=gh (ha _ rfl)
 have HR:=gh hr
 have HM:=gh hM
 have HXN:=gh hX
 have IH:=gh ih
 have HD:=gh hD
 have E2:=gh e2
 have HCM:=gh hcm
 have HF:=gh hf
 have S1:Hid (GrowI X W W r s (.slice none 0 0) (.slice none 0 0) [] []):=gh (GrowI.start h)
 have g0:((M:Int) == 0)=false:=by simp only [beq_eq_false_iff_ne,ne_eq];omega
 have g1:((M:Int) == 1)=false:=by simp only [beq_eq_false_iff_ne,ne_eq];omega
 clear h hr ha hM ih e1 e2 hD hcm hf hX
 go_enter Tryz.func160,Tryz.ntmps160
 go_wp2
 go_loopw [11,12,13,14,15,16] (fun vq vc i _ _ _ wr=>∃ (t:Nat),t≤D∧i=.int .i64 t∧Hid ((Rn.growK (Rn.growF f) ps s t).1.1=true)∧Hid (GrowI X W wr r (Rn.growK (Rn.growF f) ps s t).2 vq vc (lowL ps t) (Rn.growK (Rn.growF f) ps s t).1.2)) (fun _ _ i _ _ _ _=>D - (intOf i).toNat)
 case atStart=>exact ⟨0,Nat.zero_le _,rfl,gh rfl,S1⟩
 case round=>
  obtain ⟨t,ht,rfl,HT,HI⟩:=hrel
  clear S1
  have CL:=Rn.growK_len (Rn.growF f) ps s t HT.out
  have QL:=lowL_len ps t
  by_cases hlt:t < D
  ·have pin:=part_in (n:=(M:Int)) (i:=(t:Int)) (by omega) (by rw [HD.out];omega)
   have sb:=Pt.size_bound (n:=(M:Int)) (i:=(t:Int)) (by omega) (by rw [HD.out];omega)
   obtain ⟨F,hF⟩:∃ F:Nat,Pt.fromZ (M:Int) (t:Int)=(F:Int):=⟨(Pt.fromZ (M:Int) (t:Int)).toNat,by omega⟩
   obtain ⟨S,hS⟩:∃ S:Nat,Pt.sizeZ (M:Int) (t:Int)=(S:Int):=⟨(Pt.sizeZ (M:Int) (t:Int)).toNat,by omega⟩
   rw [hF,hS] at pin
   rw [hS] at sb
   have hown:partL ps (t:Int)=(ps.drop F).take S:=by unfold partL;rw [HM.out,hF,hS];rfl
   obtain ⟨own,ho⟩:∃ own,partL ps (t:Int)=own:=⟨_,rfl⟩
   have OWL:Hid (own.length=S):=gh (by rw [← ho,hown,List.length_take,List.length_drop,HM.out];omega)
   have OWN:Hid (own=(ps.drop F).take S):=gh (by rw [← ho,hown])
   have LS:Hid (0 < t→lowL ps (t+1)=lowL ps t++[(own.headD (0,0)).1]):=gh (fun h=>by rw [lowL,if_neg (by omega),ho])
   obtain ⟨cs,hcs⟩:∃ cs,(Rn.growK (Rn.growF f) ps s t).1.2=cs:=⟨_,rfl⟩
   obtain ⟨st,hst⟩:∃ st,(Rn.growK (Rn.growF f) ps s t).2=st:=⟨_,rfl⟩
   obtain ⟨qs,hqs⟩:∃ qs,lowL ps t=qs:=⟨_,rfl⟩
   obtain ⟨zc,ok,sc,hz⟩:∃ zc ok sc,Rn.growF f st own=((zc,ok),sc):=⟨_,_,_,rfl⟩
   have KS:Hid (Rn.growK (Rn.growF f) ps s (t+1)=((ok,cs++[zc]),sc)):=gh (by
    rw [Rn.growK,if_neg (by rw [HT.out];decide),ho,hst,hz,hcs])
   rw [hqs] at LS QL
   rw [hcs] at CL
   rw [hcs,hst,hqs] at HI
   have HZ:=gh hz
   have HFF:=gh hF
   have HSS:=gh hS
   have HCL:=gh CL
   have HQL:=gh QL
   obtain ⟨p1,p2,p3⟩:=pin
   have p4:F+S≤M:=by omega
   have p5:1≤S:=by omega
   have p6:S < M:=by omega
   have i1:(t:Int) < (D:Int):=by omega
   have PR:=HI.out.list HR.out HA.out F S
   rw [← OWN.out] at PR
   have c0:=(preads_head PR (by have:=OWL.out;omega)).1
   obtain ⟨hk,hhk⟩:∃ x,(own.headD (0,0)).1=x:=⟨_,rfl⟩
   rw [hhk] at c0 LS
   clear hown ho hcs hst hqs hz hF hS sb p1 p2 p3 CL QL PR hhk HT
   go_wp2_with (fail)
   refine (Pt.deg_r (M:Int) (I64.wf ⟨by omega,by omega⟩) _).mono ?_
   rw [HD.out]
   rintro e w' ⟨rfl,rfl⟩
   go_wp2_with (fail)
   refine (Pt.from_r (M:Int) (t:Int) (I64.wf ⟨by omega,by omega⟩) _).mono ?_
   rw [HFF.out]
   rintro e w' ⟨rfl,rfl⟩
   by_cases g2:(0:Int) < (t:Int)
   ·go_wp2_with (at_builtin;refine Stop.out ?_)
    refine ⟨?_⟩
    refine wpList_append_gq rfl _ _ rfl rfl rfl HI.out (by have:=HQL.out;omega) rfl ?_
    intro vq' wq iq
    have IQ:=gh iq
    clear iq HI c0
    go_wp2_with (fail)
    refine (Pt.size_r (M:Int) (t:Int) (I64.wf ⟨by omega,by omega⟩) _).mono ?_
    rw [HSS.out]
    rintro e w' ⟨rfl,rfl⟩
    go_wp2_with (fail)
    have PR1:=(IQ.out.list HR.out HA.out F S)
    rw [← OWN.out] at PR1
    refine (IH.out _ _ r st _ own S (cap - F) IQ.out.run (IQ.out.new HXN.out) PR1 OWL.out (by omega) (by have:=HCM.out;omega) (by omega) (by have:=HF.out;omega) (fun _ ad e=>by cases e;exact HA.out) zc ok sc HZ.out).mono ?_
    rintro e w3 ⟨rfl,d3⟩
    have I3:=gh (IQ.out.step HRL.out d3)
    clear d3 PR1 IQ
    cases ok with
    | false=>
     have FIN:=gh I3.out.fin
     have ES:Hid ((z,ok')=(0,false)∧s'=sc):=gh (by
      have e:=KS.out
      have st':=Rn.growK_stop (L:=Rn.growF f) (ps:=ps) (s:=s) (n:=t+1) (by rw [e]) (m:=D) (by omega)
      have e2:=E2.out
      rw [st',e] at e2
      simp at e2
      exact ⟨by rw [← e2.1.1,← e2.1.2],e2.2.symm⟩)
     obtain ⟨es1,es2⟩:=ES.out
     cases es1
     subst es2
     clear I3 E2 KS LS ES
     go_wp2
     go_ret2
     exact ⟨rfl,FIN.out⟩
    | true=>
     go_wp2_with (at_builtin;refine Stop.out ?_)
     refine ⟨?_⟩
     refine wpList_append_gc rfl _ _ rfl rfl rfl I3.out (by have:=HCL.out;omega) rfl ?_
     intro v4 w4 i4
     have I4:=gh i4
     clear i4 I3
     go_wp2
     exact ⟨⟨t+1,by omega,by simp,gh (by rw [KS.out]),gh (by rw [KS.out,LS.out (by omega)];exact I4.out)⟩,by simp [intOf];omega⟩
   ·have z0:t=0:=by omega
    have QN:Hid (lowL ps (t+1)=qs):=gh (by
     have h1:=lowL_len ps (t+1)
     have h2:=HQL.out
     rw [z0] at h1 h2
     rw [z0,List.length_eq_zero_iff.1 h1,List.length_eq_zero_iff.1 h2])
    clear c0 z0
    go_wp2_with (fail)
    refine (Pt.size_r (M:Int) (t:Int) (I64.wf ⟨by omega,by omega⟩) _).mono ?_
    rw [HSS.out]
    rintro e w' ⟨rfl,rfl⟩
    go_wp2_with (fail)
    have PR1:=(HI.out.list HR.out HA.out F S)
    rw [← OWN.out] at PR1
    refine (IH.out _ _ r st _ own S (cap - F) HI.out.run (HI.out.new HXN.out) PR1 OWL.out (by omega) (by have:=HCM.out;omega) (by omega) (by have:=HF.out;omega) (fun _ ad e=>by cases e;exact HA.out) zc ok sc HZ.out).mono ?_
    rintro e w3 ⟨rfl,d3⟩
    have I3:=gh (HI.out.step HRL.out d3)
    clear d3 PR1 HI
    cases ok with
    | false=>
     have FIN:=gh I3.out.fin
     have ES:Hid ((z,ok')=(0,false)∧s'=sc):=gh (by
      have e:=KS.out
      have st':=Rn.growK_stop (L:=Rn.growF f) (ps:=ps) (s:=s) (n:=t+1) (by rw [e]) (m:=D) (by omega)
      have e2:=E2.out
      rw [st',e] at e2
      simp at e2
      exact ⟨by rw [← e2.1.1,← e2.1.2],e2.2.symm⟩)
     obtain ⟨es1,es2⟩:=ES.out
     cases es1
     subst es2
     clear I3 E2 KS LS ES
     go_wp2
     go_ret2
     exact ⟨rfl,FIN.out⟩
    | true=>
     go_wp2_with (at_builtin;refine Stop.out ?_)
     refine ⟨?_⟩
     refine wpList_append_gc rfl _ _ rfl rfl rfl I3.out (by have:=HCL.out;omega) rfl ?_
     intro v4 w4 i4
     have I4:=gh i4
     clear i4 I3
     go_wp2
     exact ⟨⟨t+1,by omega,by simp,gh (by rw [KS.out]),gh (by rw [KS.out,QN.out];exact I4.out)⟩,by simp [intOf];omega⟩
  ·obtain rfl:t=D:=by omega
   obtain ⟨cs,hcs⟩:∃ cs,(Rn.growK (Rn.growF f) ps s t).1.2=cs:=⟨_,rfl⟩
   obtain ⟨st,hst⟩:∃ st,(Rn.growK (Rn.growF f) ps s t).2=st:=⟨_,rfl⟩
   obtain ⟨qs,hqs⟩:∃ qs,lowL ps t=qs:=⟨_,rfl⟩
   rw [HT.out,if_pos rfl,hcs,hst,hqs] at E2
   rw [hcs,hst,hqs] at HI
   rw [hqs] at QL
   rw [hcs] at CL
   obtain ⟨aq,cq,rfl,rq,q0⟩:=Row.form HI.out.q
   obtain ⟨ac,cc,rfl,rc,c0⟩:=Row.form HI.out.c
   have HIN:=gh (inner_r _ (M:Int) aq qs cq ac cs cc rq rc q0 c0 (by omega) (by omega))
   obtain ⟨ws,hws⟩:∃ ws,innerL (M:Int) qs cs=ws:=⟨_,rfl⟩
   rw [hws] at HIN E2
   clear hcs hst hqs hws rq rc q0 c0 CL QL HT
   go_wp2_with (fail)
   refine (Pt.deg_r (M:Int) (I64.wf ⟨by omega,by omega⟩) _).mono ?_
   rw [HD.out]
   rintro e w' ⟨rfl,rfl⟩
   go_wp2_with (fail)
   refine HIN.out.mono ?_
   intro e w1 hf
   obtain ⟨a1,cap1,rfl,k1,far⟩:=hf.far
   have I1:=gh (HI.out.kept k1)
   have FAR:=gh (far _ r (HI.out.new HXN.out) (by have:=HI.out.run.lt;omega))
   clear hf k1 far HI HIN
   go_wp2_with (fail)
   obtain ⟨x2,ex,eo,hx2⟩:=recM_r _ w1 r st 3 a1 ws ws.length cap1 rfl I1.out.run FAR.out z ok' s' E2.out
   refine hx2.mono ?_
   rintro e w3 ⟨rfl,d3⟩
   have D3:=gh (I1.out.step HRL.out d3).fin
   have EX:=gh ex
   clear d3 hx2 ex eo
   go_wp2_with (fail)
   refine (ofr_c 3 x2 z EX.out _).mono ?_
   rintro e w4 ⟨rfl,rfl⟩
   go_wp2
   go_ret2
   exact ⟨rfl,D3.out⟩
set_option maxHeartbeats 4000000 in
theorem grow_r:∀ f,GrowC f
 | 0=>fun _ _ _ _ _ _ _ _ _ _ _ _ _ _ _ h=>by omega
 | f+1=>fun X W r s a ps M cap h hX hr hM hc hcm hm hf ha z ok s' e1=>by
  have ih:=grow_r f
  have hcm':(cap:Int)≤9223372036854775807:=by unfold maxLen at hcm;omega
  by_cases h0:M=0
  ·have e2:s.recM 1 [0]=((z,ok),s'):=by rw [← e1,Rn.growF_succ,if_pos (by omega)]
   have H:=gh h
   have HX:=gh hX
   have HRL:=gh h.lt
   have E2:=gh e2
   have g0:((M:Int) == 0)=true:=by simp [h0]
   clear h hX hr hM ha e1 e2 ih hcm
   go_enter Tryz.func160,Tryz.ntmps160
   go_wp2_with (fail)
   refine (emptyw_r W).mono ?_
   intro e w1 hff
   obtain ⟨a1,cap1,rfl,k1,far⟩:=hff.far
   have K1:=gh k1
   have FAR:=gh (far X r HX.out HRL.out)
   clear hff k1 far
   go_wp2_with (fail)
   obtain ⟨x2,ex,eo,hx2⟩:=recM_r X w1 r s 1 a1 [0] _ cap1 rfl (H.out.kept K1.out) FAR.out z ok s' E2.out
   refine hx2.mono ?_
   rintro e w3 ⟨rfl,d3⟩
   have D3:=gh (Ran.behind K1.out d3)
   have EX:=gh ex
   clear d3 hx2 ex eo
   go_wp2_with (fail)
   refine (ofr_c 1 x2 z EX.out _).mono ?_
   rintro e w4 ⟨rfl,rfl⟩
   go_wp2
   go_ret2
   exact ⟨rfl,D3.out⟩
  ·by_cases h1:M=1
   ·subst h1
    obtain ⟨p,rfl⟩:∃ p,ps=[p]:=List.length_eq_one_iff.1 hM
    have e2:s.recM 2 [p.1,p.2]=((z,ok),s'):=by rw [← e1,Rn.growF_succ,if_neg (by simp),if_pos (by simp)];rfl
    obtain ⟨bl,off,rfl⟩:∃ bl off,a=some ⟨bl,off,none⟩:=by
     obtain ⟨bl,off,e,_⟩:=hr.at (j:=0) (p:=p) rfl
     exact ⟨bl,off,e⟩
    obtain ⟨c1,c2⟩:=preads_head hr (by simp)
    simp only [List.headD_cons] at c1 c2
    obtain ⟨V,hV⟩:∃ V,W.drew=V:=⟨_,rfl⟩
    have kV:Kept W V:=by rw [← hV];exact Kept.drew _
    have hna:=ha (by simp) _ rfl
    have x1:∀ u:Wd (fun U=>Td (fun k=>k=r) V U),u.w.cell? ⟨bl,off,none⟩=some (.int .i64 p.1):=fun u=>u.ok.cell (kV.cell c1 id) hna
    have x2:∀ u:Wd (fun U=>Td (fun k=>k=r) V U),u.w.cell? ⟨bl,off+1,none⟩=some (.int .i64 p.2):=fun u=>u.ok.cell (kV.cell c2 id) hna
    have HV:=gh hV
    have KV:=gh kV
    have H:=gh (h.kept kV)
    have HX:Hid (∀ k,V.heap.size≤k→X k):=gh (fun k hk=>hX k (Nat.le_trans kV.size hk))
    have HRL:=gh (h.kept kV).lt
    have E2:=gh e2
    obtain ⟨p1,p2⟩:=p
    simp only at x1 x2 E2
    clear h hX hr hM ha e1 e2 ih hcm c1 c2 hna hV kV
    go_enter Tryz.func160,Tryz.ntmps160
    go_wp2_with (fail)
    refine region_wide [0,1,2,3,4,5,6,7,8,9,10,11,12,13,14,15] (fun U=>Td (fun k=>k=r) V U) (by kernel_rfl) (by kernel_rfl) (by rw [HV.out];exact Td.refl _ _) (fun _=>?_)
    rw [HV.out]
    repeat (refine pq rfl rfl ?_;go_big_quiet_step (fail);refine wpQuiet_nil ?_)
    refine pl rfl rfl ?_
    gi_wp2_with (fail)
    refine ⟨trivial,?_⟩
    refine (callsIn_wide.2 (leafw_r V p1 p2)).mono ?_
    intro e w1 hff
    obtain ⟨a1,cap1,rfl,k1,far⟩:=hff.far
    have K1:=gh k1
    have FAR:=gh (far X r HX.out HRL.out)
    clear hff k1 far
    gi_wp2_with (fail)
    refine ⟨Wd.mem (K1.out.mono (fun _ _ e=>e.elim)),?_⟩
    refine pl rfl rfl ?_
    gi_wp2_with (fail)
    refine ⟨trivial,?_⟩
    obtain ⟨x3,ex,eo,hx3⟩:=recM_r X w1 r s 2 a1 [p1,p2] _ cap1 rfl (H.out.kept K1.out) FAR.out z ok s' E2.out
    refine (callsIn_wide.2 hx3).mono ?_
    rintro e w3 ⟨rfl,d3⟩
    have D3:=gh (Ran.behind (KV.out.trans K1.out) d3)
    have T3:Hid (Td (fun k=>k=r) V w3):=gh (Ran.behind K1.out d3).2
    have EX:=gh ex
    clear d3 hx3 ex eo
    gi_wp2_with (fail)
    refine ⟨Wd.mem T3.out,?_⟩
    repeat (refine pq rfl rfl ?_;go_big_quiet_step (fail);refine wpQuiet_nil ?_)
    refine perm_done ?_
    go_wp2_with (fail)
    refine (ofr_c 2 x3 z EX.out _).mono ?_
    rintro e w4 ⟨rfl,rfl⟩
    go_wp2
    go_ret2
    exact ⟨rfl,D3.out⟩
   ·exact growInner_r f ih X W r s a ps M cap h hX hr hM hc hcm hm hf (by omega) (ha (fun e=>by rw [e] at hM;simp at hM;omega)) z ok s' e1
end
section
variable {X:Nat→Prop}
namespace Rn
def markK (g:Rn→Int→Int × Rn) (n d:Int):Nat→Int→Int→Rn→Int × Rn
 | 0,_,m,t=>(m,t)
 | c+1,i,m,t=>
  if t.off=true then (m,t)
  else if kd (t.slot (childZ n d i)).1=2 then markK g n d c (i+1) (wrap64 (m+1)) (t.slot (childZ n d i)).2
  else if kd (t.slot (childZ n d i)).1=3 then markK g n d c (i+1) (wrap64 (m+(g (t.slot (childZ n d i)).2 (ad (t.slot (childZ n d i)).1)).1)) (g (t.slot (childZ n d i)).2 (ad (t.slot (childZ n d i)).1)).2
  else if kd (t.slot (childZ n d i)).1=4 then
   let q:=(t.slot (childZ n d i)).2.read (ad (t.slot (childZ n d i)).1)
   markK g n d c (i+1) (wrap64 (m+(g q.2 (ad q.1)).1)) (g q.2 (ad q.1)).2
  else markK g n d c (i+1) m (t.slot (childZ n d i)).2
def markF:Nat→Rn→Int→Int × Rn
 | 0=>fun s _=>(0,s)
 | f+1=>fun s n=>
  if (s.read (wrap64 (n+4))).1=0 then
   let d:=((s.read (wrap64 (n+4))).2.write (wrap64 (n+2)) 1).read n
   let m:=markK (markF f) n d.1 d.1.toNat 0 0 d.2
   (m.1,m.2.write (wrap64 (n+4)) (wrap64 (m.1+1)))
  else (wrap64 ((s.read (wrap64 (n+4))).1 - 1),(s.read (wrap64 (n+4))).2)
theorem markF_shut {f:Nat} {s s1:Rn} {n x:Int} (h:s.read (wrap64 (n+4))=(x,s1)) (hx:x≠0):markF (f+1) s n=(wrap64 (x - 1),s1):=by
 show (if (s.read (wrap64 (n+4))).1=0 then _ else _)=_
 rw [h,if_neg hx]
theorem markF_go {f:Nat} {s s1 s2 s3 s4 s5:Rn} {n d m:Int} (h:s.read (wrap64 (n+4))=(0,s1)) (h2:s1.write (wrap64 (n+2)) 1=s2) (h3:s2.read n=(d,s3)) (h4:markK (markF f) n d d.toNat 0 0 s3=(m,s4)) (h5:s4.write (wrap64 (n+4)) (wrap64 (m+1))=s5):markF (f+1) s n=(m,s5):=by
 show (if (s.read (wrap64 (n+4))).1=0 then _ else _)=_
 rw [h,if_pos rfl]
 dsimp only
 rw [h2,h3]
 dsimp only
 rw [h4,h5]
variable {g:Rn→Int→Int × Rn} {n d i m x:Int} {c:Nat} {t t2:Rn}
theorem markK_off (h:t.off=true):markK g n d c i m t=(m,t):=by
 cases c with
 | zero=>rfl
 | succ c=>rw [markK,if_pos h]
theorem markK_2 (h:t.off=false) (e:t.slot (childZ n d i)=(x,t2)) (k:kd x=2):markK g n d (c+1) i m t=markK g n d c (i+1) (wrap64 (m+1)) t2:=by
 rw [markK,h,e]
 simp [k]
theorem markK_3 {y:Int} {t3:Rn} (h:t.off=false) (e:t.slot (childZ n d i)=(x,t2)) (k:kd x=3) (e2:g t2 (ad x)=(y,t3)):markK g n d (c+1) i m t=markK g n d c (i+1) (wrap64 (m+y)) t3:=by
 rw [markK,h,e]
 simp [k,e2]
theorem markK_4 {y q:Int} {t3 t4:Rn} (h:t.off=false) (e:t.slot (childZ n d i)=(x,t2)) (k:kd x=4) (e1:t2.read (ad x)=(q,t3)) (e2:g t3 (ad q)=(y,t4)):markK g n d (c+1) i m t=markK g n d c (i+1) (wrap64 (m+y)) t4:=by
 rw [markK,h,e]
 simp [k,e1,e2]
theorem markK_0 (h:t.off=false) (e:t.slot (childZ n d i)=(x,t2)) (k2:kd x≠2) (k3:kd x≠3) (k4:kd x≠4):markK g n d (c+1) i m t=markK g n d c (i+1) m t2:=by
 rw [markK,h,e]
 simp [k2,k3,k4]
end Rn
theorem Ran.went_read {W W':World} {r:Nat} {s s':Rn} {a z:Int} (R:Ran X W r s' W') (ho:s.ok) (e:s.read a=(z,s')):Went X W r s s' W':=by
 have h:=ho.read e
 have:s'=(s.read a).2:=by rw [e]
 exact ⟨R,by rw [this];exact Rn.ask_on s _,h.2⟩
theorem Ran.went_write {W W':World} {r:Nat} {s s':Rn} {a x:Int} (R:Ran X W r s' W') (ho:s.ok) (e:s.write a x=s'):Went X W r s s' W':=by
 subst e
 exact ⟨R,Rn.ask_on s _,(Rn.ask_on s _).ok ho⟩
theorem Ran.went_slot {W W':World} {r:Nat} {s s':Rn} {a z:Int} (R:Ran X W r s' W') (ho:s.ok) (e:s.slot a=(z,s')):Went X W r s s' W':=by
 have h:=ho.slot e
 have:s'=(s.slot a).2:=by rw [e]
 exact ⟨R,by rw [this];exact ⟨Rn.slot_tape s a,Rn.slot_le s a⟩,h.2⟩
theorem Rn.slot_lt' {s s':Rn} {a z:Int} (e:s.slot a=(z,s')) (h:s.off=false):s'.left < s.left:=by
 have:=Rn.slot_lt a h
 rw [e] at this
 exact this
set_option maxHeartbeats 1000000 in
theorem mark_r (r N:Nat):∀ (W:World) (s:Rn) (n:Int),s.left < N→RunAt X W r s→s.ok→∀ (z:Int) (s':Rn),Rn.markF N s n=(z,s')→
  Calls Tryz.prog 158 #[.pointer (some ⟨r,0,none⟩),.int .i64 n] W fun e W'=>e=.returned (.int .i64 z)∧Went X W r s s' W':=by
 induction N with
 | zero=>intro W s n h;omega
 | succ N ih=>
  intro W s n hN h ho z s' he
  have H:=gh h
  have OK:=gh ho
  have HN:=gh hN
  obtain ⟨x1,s1,hx1⟩:∃ x s1,s.read (wrap64 (n+4))=(x,s1):=⟨_,_,rfl⟩
  have HE:=gh he
  have HX:=gh hx1
  clear h ho hN he hx1
  go_enter Tryz.func158,Tryz.ntmps158
  go_wp2_with (fail)
  refine (read_r _ r s _ H.out x1 s1 HX.out).mono ?_
  rintro e W1 ⟨rfl,R1⟩
  replace R1:=R1.went_read OK.out HX.out
  by_cases hx:x1=0
  ·subst hx
   obtain ⟨s2,h2⟩:∃ s2,s1.write (wrap64 (n+2)) 1=s2:=⟨_,rfl⟩
   obtain ⟨d,s3,h3⟩:∃ d s3,s2.read n=(d,s3):=⟨_,_,rfl⟩
   obtain ⟨m,s4,h4⟩:∃ m s4,Rn.markK (Rn.markF N) n d d.toNat 0 0 s3=(m,s4):=⟨_,_,rfl⟩
   obtain ⟨s5,h5⟩:∃ s5,s4.write (wrap64 (n+4)) (wrap64 (m+1))=s5:=⟨_,rfl⟩
   have hez:=Rn.markF_go HX.out h2 h3 h4 h5
   rw [HE.out] at hez
   have hez1:=congrArg Prod.fst hez
   have hez2:=congrArg Prod.snd hez
   simp only at hez1 hez2
   subst hez1 hez2
   have H2:=gh h2
   have H3:=gh h3
   have H4:=gh h4
   have H5:=gh h5
   clear h2 h3 h4 h5 hez HE
   go_wp2_with (fail)
   refine (write_r _ r s1 _ 1 R1.at s2 H2.out).mono ?_
   rintro e W2 ⟨rfl,R2⟩
   replace R2:=R1.trans (R2.went_write R1.ok H2.out)
   go_wp2_with (fail)
   refine (read_r _ r s2 n R2.at d s3 H3.out).mono ?_
   rintro e W3 ⟨rfl,R3⟩
   obtain ⟨d0,d1⟩:=(R2.ok.read H3.out).1
   have G3:=R2.trans (R3.went_read R2.ok H3.out)
   clear R3 R2
   go_wp2_with (fail)
   go_loopw [7,8,9,10] (fun va vi _ _ wr=>∃ (i al:Int) (t:Rn),vi=.int .i64 i∧va=.int .i64 al∧0≤i∧i≤9223372036854775807∧Went X W r s t wr∧Rn.markK (Rn.markF N) n d (d - i).toNat i al t=(z,s4)) (fun _ vi _ _ _=>(d - intOf vi).toNat)
   case atStart=>exact ⟨0,0,s3,rfl,rfl,by omega,by omega,G3,by simpa using H4.out⟩
   case round=>
    obtain ⟨i,al,t,rfl,rfl,i0,i1,G,hk⟩:=hrel
    have HK0:=gh hk
    obtain ⟨ta,tc,wa,wc,RI⟩:=G.at
    obtain ⟨_,_,c2,_,_,ff⟩:=RI.cells
    clear RI ff hk
    by_cases hid:i < d
    ·cases hof:t.off with
     | true=>
      rw [hof] at c2
      have hz:=HK0.out
      rw [Rn.markK_off hof] at hz
      obtain ⟨rfl,rfl⟩:=Prod.mk.inj hz
      clear hof hz
      go_wp2_with (fail)
      refine (write_r _ r t _ _ G.at _ H5.out).mono ?_
      rintro e W4 ⟨rfl,G4⟩
      go_wp2
      go_ret
      exact ⟨rfl,G.trans (G4.went_write G.ok H5.out)⟩
     | false=>
      rw [hof] at c2
      have HOF:=gh hof
      obtain ⟨c,hc⟩:∃ c,(d - (i+1)).toNat=c:=⟨_,rfl⟩
      have HC:Hid ((d - i).toNat=c+1):=gh (by omega)
      have HC':=gh hc
      obtain ⟨cz,hcz⟩:∃ cz,childZ n d i=cz:=⟨_,rfl⟩
      have HCZ:=gh hcz
      obtain ⟨x,t2,hx⟩:∃ x t2,t.slot cz=(x,t2):=⟨_,_,rfl⟩
      have HXT:=gh hx
      have HSL:Hid (t.slot (childZ n d i)=(x,t2)):=gh (by rw [hcz];exact hx)
      clear hof hcz hc hx
      go_wp2_with (fail)
      refine (child_r _ n d i cz HCZ.out).mono ?_
      rintro e w' ⟨rfl,rfl⟩
      go_wp2_with (fail)
      refine (slot_r _ r t cz G.at G.ok x t2 HXT.out).mono ?_
      rintro e W5 ⟨rfl,R5⟩
      have IX:=gh (G.ok.slot HXT.out).1
      have G5:=R5.went_slot G.ok HXT.out
      have L5:=gh (Rn.slot_lt' HXT.out HOF.out)
      clear R5
      obtain ⟨kk,hkk⟩:∃ kk,kd x=kk:=⟨_,rfl⟩
      obtain ⟨p,hp⟩:∃ p,ad x=p:=⟨_,rfl⟩
      have HK:=gh hkk
      have HP:=gh hp
      go_wp2_with (fail)
      refine (ak_d _ x p IX.out HP.out).mono ?_
      rintro e w' ⟨rfl,rfl⟩
      go_wp2_with (fail)
      refine (kk_d _ x kk IX.out HK.out).mono ?_
      rintro e w' ⟨rfl,rfl⟩
      clear hkk hp
      by_cases k2:kk=2
      ·subst k2
       go_wp2
       refine ⟨⟨i+1,_,t2,rfl,rfl,by omega,by omega,G.trans G5,?_⟩,by simp [intOf];omega⟩
       have:=HK0.out
       rw [HC.out,Rn.markK_2 HOF.out HSL.out HK.out] at this
       rw [HC'.out]
       exact this
      ·by_cases k3:kk=3
       ·subst k3
        obtain ⟨y,t3,hy⟩:∃ y t3,Rn.markF N t2 p=(y,t3):=⟨_,_,rfl⟩
        have HY:=gh hy
        clear hy
        go_wp2_with (fail)
        refine (ih _ t2 p (by have:=L5.out;have:=G.on.left;have:=HN.out;omega) G5.at G5.ok y t3 HY.out).mono ?_
        rintro e W6 ⟨rfl,G6⟩
        go_wp2
        refine ⟨⟨i+1,_,t3,rfl,rfl,by omega,by omega,(G.trans G5).trans G6,?_⟩,by simp [intOf];omega⟩
        have:=HK0.out
        rw [HC.out,Rn.markK_3 (y:=y) (t3:=t3) HOF.out HSL.out HK.out (by rw [HP.out];exact HY.out)] at this
        rw [HC'.out]
        exact this
       ·by_cases k4:kk=4
        ·subst k4
         obtain ⟨q,t3,hq⟩:∃ q t3,t2.read p=(q,t3):=⟨_,_,rfl⟩
         have HQ:=gh hq
         clear hq
         go_wp2_with (fail)
         refine (read_r _ r t2 p G5.at q t3 HQ.out).mono ?_
         rintro e W6 ⟨rfl,R6⟩
         have IQ:=gh (G5.ok.read HQ.out).1
         have G6:=R6.went_read G5.ok HQ.out
         clear R6
         obtain ⟨a,ha⟩:∃ a,ad q=a:=⟨_,rfl⟩
         have HA:=gh ha
         clear ha
         obtain ⟨y,t4,hy⟩:∃ y t4,Rn.markF N t3 a=(y,t4):=⟨_,_,rfl⟩
         have HY:=gh hy
         clear hy
         go_wp2_with (fail)
         refine (ak_d _ q a IQ.out HA.out).mono ?_
         rintro e w' ⟨rfl,rfl⟩
         go_wp2_with (fail)
         refine (ih _ t3 a (by have:=L5.out;have:=G.on.left;have:=HN.out;have:=G6.on.left;omega) G6.at G6.ok y t4 HY.out).mono ?_
         rintro e W7 ⟨rfl,G7⟩
         go_wp2
         refine ⟨⟨i+1,_,t4,rfl,rfl,by omega,by omega,((G.trans G5).trans G6).trans G7,?_⟩,by simp [intOf];omega⟩
         have:=HK0.out
         rw [HC.out,Rn.markK_4 (y:=y) (q:=q) (t3:=t3) (t4:=t4) HOF.out HSL.out HK.out (by rw [HP.out];exact HQ.out) (by rw [HA.out];exact HY.out)] at this
         rw [HC'.out]
         exact this
        ·have g2:(kk == 2)=false:=by simp [k2]
         have g3:(kk == 3)=false:=by simp [k3]
         have g4:(kk == 4)=false:=by simp [k4]
         go_wp2
         refine ⟨⟨i+1,_,t2,rfl,rfl,by omega,by omega,G.trans G5,?_⟩,by simp [intOf];omega⟩
         have:=HK0.out
         rw [HC.out,Rn.markK_0 HOF.out HSL.out (by rw [HK.out];exact k2) (by rw [HK.out];exact k3) (by rw [HK.out];exact k4)] at this
         rw [HC'.out]
         exact this
    ·have hz:=HK0.out
     rw [show (d - i).toNat=0 from by omega] at hz
     obtain ⟨rfl,rfl⟩:=Prod.mk.inj hz
     clear hz
     go_wp2_with (fail)
     refine (write_r _ r t _ _ G.at _ H5.out).mono ?_
     rintro e W4 ⟨rfl,G4⟩
     go_wp2
     go_ret
     exact ⟨rfl,G.trans (G4.went_write G.ok H5.out)⟩
  ·have g1:(x1 == 0)=false:=by simp [hx]
   have g2:(x1 != 0)=true:=by simp [hx]
   have hez:=Rn.markF_shut (f:=N) HX.out hx
   rw [HE.out] at hez
   obtain ⟨rfl,rfl⟩:=Prod.mk.inj hez
   clear hez HE
   go_wp2
   go_ret
   exact ⟨rfl,R1⟩
end
section
open Go.Shelf
variable {X:Nat→Prop} {lo:Nat}
attribute [local go_sem] Oper.semAt_some
namespace Rn
def gatherK (g:Rn→Int→Int→Int→List (Int × Int)→List (Int × Int) × Rn) (n d f to:Int):Nat→Int→Int→List (Int × Int)→Rn→List (Int × Int) × Rn
 | 0,_,_,ys,t=>(ys,t)
 | c+1,i,rk,ys,t=>
  if to≤rk∨t.off=true then (ys,t)
  else
   let x:=t.peek (childZ n d i)
   if kd x.1=2 then
    if f≤rk then
     let k:=x.2.read (ad x.1)
     let v:=k.2.read (ad x.1+1)
     gatherK g n d f to c (i+1) (wrap64 (rk+1)) (ys++[(k.1,v.1)]) v.2
    else gatherK g n d f to c (i+1) (wrap64 (rk+1)) ys x.2
   else if kd x.1=3 then
    let q:=x.2.read (ad x.1+4)
    if f < wrap64 (rk+wrap64 (q.1 - 1)) then
     let y:=g q.2 (ad x.1) (wrap64 (f - rk)) (wrap64 (to - rk)) ys
     gatherK g n d f to c (i+1) (wrap64 (rk+wrap64 (q.1 - 1))) y.1 y.2
    else gatherK g n d f to c (i+1) (wrap64 (rk+wrap64 (q.1 - 1))) ys q.2
   else if kd x.1=4 then
    let b:=x.2.read (ad x.1)
    let q:=b.2.read (ad b.1+4)
    if f < wrap64 (rk+wrap64 (q.1 - 1)) then
     let y:=g q.2 (ad b.1) (wrap64 (f - rk)) (wrap64 (to - rk)) ys
     gatherK g n d f to c (i+1) (wrap64 (rk+wrap64 (q.1 - 1))) y.1 y.2
    else gatherK g n d f to c (i+1) (wrap64 (rk+wrap64 (q.1 - 1))) ys q.2
   else gatherK g n d f to c (i+1) rk ys x.2
def gatherF:Nat→Rn→Int→Int→Int→List (Int × Int)→List (Int × Int) × Rn
 | 0=>fun s _ _ _ xs=>(xs,s)
 | F+1=>fun s n f to xs=>gatherK (gatherF F) n (s.read n).1 f to (s.read n).1.toNat 0 0 xs (s.read n).2
theorem gatherF_go {F:Nat} {s s1:Rn} {n d f to:Int} {xs:List (Int × Int)} (h:s.read n=(d,s1)):gatherF (F+1) s n f to xs=gatherK (gatherF F) n d f to d.toNat 0 0 xs s1:=by
 show gatherK (gatherF F) n (s.read n).1 f to (s.read n).1.toNat 0 0 xs (s.read n).2=_
 rw [h]
variable {g:Rn→Int→Int→Int→List (Int × Int)→List (Int × Int) × Rn} {n d f to i rk x:Int} {c:Nat} {t t2:Rn} {ys:List (Int × Int)}
theorem gatherK_end (h:to≤rk∨t.off=true):gatherK g n d f to c i rk ys t=(ys,t):=by
 cases c with
 | zero=>rfl
 | succ c=>rw [gatherK,if_pos h]
theorem gatherK_2 {k v:Int} {t3 t4:Rn} (hr:rk < to) (h:t.off=false) (e:t.peek (childZ n d i)=(x,t2)) (hk:kd x=2) (hf:f≤rk) (e1:t2.read (ad x)=(k,t3)) (e2:t3.read (ad x+1)=(v,t4)):gatherK g n d f to (c+1) i rk ys t=gatherK g n d f to c (i+1) (wrap64 (rk+1)) (ys++[(k,v)]) t4:=by
 rw [gatherK,if_neg (by rw [h];simp;omega),e]
 simp [hk,hf,e1,e2]
theorem gatherK_2' (hr:rk < to) (h:t.off=false) (e:t.peek (childZ n d i)=(x,t2)) (hk:kd x=2) (hf:¬ f≤rk):gatherK g n d f to (c+1) i rk ys t=gatherK g n d f to c (i+1) (wrap64 (rk+1)) ys t2:=by
 rw [gatherK,if_neg (by rw [h];simp;omega),e]
 simp [hk,hf]
theorem gatherK_3 {q:Int} {t4 t5:Rn} {zs:List (Int × Int)} (hr:rk < to) (h:t.off=false) (e:t.peek (childZ n d i)=(x,t2)) (hk:kd x=3) (e1:t2.read (ad x+4)=(q,t4)) (hf:f < wrap64 (rk+wrap64 (q - 1))) (e2:g t4 (ad x) (wrap64 (f - rk)) (wrap64 (to - rk)) ys=(zs,t5)):gatherK g n d f to (c+1) i rk ys t=gatherK g n d f to c (i+1) (wrap64 (rk+wrap64 (q - 1))) zs t5:=by
 rw [gatherK,if_neg (by rw [h];simp;omega),e]
 simp [hk,e1,hf,e2]
theorem gatherK_3' {q:Int} {t4:Rn} (hr:rk < to) (h:t.off=false) (e:t.peek (childZ n d i)=(x,t2)) (hk:kd x=3) (e1:t2.read (ad x+4)=(q,t4)) (hf:¬ f < wrap64 (rk+wrap64 (q - 1))):gatherK g n d f to (c+1) i rk ys t=gatherK g n d f to c (i+1) (wrap64 (rk+wrap64 (q - 1))) ys t4:=by
 rw [gatherK,if_neg (by rw [h];simp;omega),e]
 simp [hk,e1,hf]
theorem gatherK_4 {b q:Int} {t3 t4 t5:Rn} {zs:List (Int × Int)} (hr:rk < to) (h:t.off=false) (e:t.peek (childZ n d i)=(x,t2)) (hk:kd x=4) (e0:t2.read (ad x)=(b,t3)) (e1:t3.read (ad b+4)=(q,t4)) (hf:f < wrap64 (rk+wrap64 (q - 1))) (e2:g t4 (ad b) (wrap64 (f - rk)) (wrap64 (to - rk)) ys=(zs,t5)):gatherK g n d f to (c+1) i rk ys t=gatherK g n d f to c (i+1) (wrap64 (rk+wrap64 (q - 1))) zs t5:=by
 rw [gatherK,if_neg (by rw [h];simp;omega),e]
 simp [hk,e0,e1,hf,e2]
theorem gatherK_4' {b q:Int} {t3 t4:Rn} (hr:rk < to) (h:t.off=false) (e:t.peek (childZ n d i)=(x,t2)) (hk:kd x=4) (e0:t2.read (ad x)=(b,t3)) (e1:t3.read (ad b+4)=(q,t4)) (hf:¬ f < wrap64 (rk+wrap64 (q - 1))):gatherK g n d f to (c+1) i rk ys t=gatherK g n d f to c (i+1) (wrap64 (rk+wrap64 (q - 1))) ys t4:=by
 rw [gatherK,if_neg (by rw [h];simp;omega),e]
 simp [hk,e0,e1,hf]
theorem gatherK_0 (hr:rk < to) (h:t.off=false) (e:t.peek (childZ n d i)=(x,t2)) (k2:kd x≠2) (k3:kd x≠3) (k4:kd x≠4):gatherK g n d f to (c+1) i rk ys t=gatherK g n d f to c (i+1) rk ys t2:=by
 rw [gatherK,if_neg (by rw [h];simp;omega),e]
 simp [k2,k3,k4]
end Rn
theorem Ran.went_peek {X:Nat→Prop} {W W':World} {r:Nat} {s s':Rn} {a z:Int} (R:Ran X W r s' W') (ho:s.ok) (e:s.peek a=(z,s')):Went X W r s s' W':=⟨R,Rn.peek_on e,(ho.peek e).2⟩
theorem Rn.peek_lt' {s s':Rn} {a z:Int} (e:s.peek a=(z,s')) (h:s.off=false):s'.left < s.left:=by
 have:=Rn.peek_lt a h
 rw [e] at this
 exact this
set_option maxRecDepth 100000 in
set_option maxHeartbeats 2000000 in
theorem gather_r (hX:∀ k,X k→k < lo) (r B:Nat):∀ (W:World) (s:Rn) (n f to:Int) (v:Value) (xs:List (Int × Int)),s.left < B→RunAt X W r s→s.ok→PRow W lo 59 v xs→xs.length+s.left≤1000000→lo≤W.heap.size→∀ (ys:List (Int × Int)) (s':Rn),Rn.gatherF B s n f to xs=(ys,s')→
  Calls Tryz.prog 159 #[.pointer (some ⟨r,0,none⟩),.int .i64 n,.int .i64 f,.int .i64 to,v] W fun e W'=>∃ v',e=.returned v'∧PRow W' lo 59 v' ys∧Gath X lo W r s s' W'∧ys.length+s'.left≤xs.length+s.left:=by
 induction B with
 | zero=>intro W s n f to v xs h;omega
 | succ B ih=>
  intro W s n f to v xs hN h ho hp hx hlo res sE he
  obtain ⟨d,s1,hd⟩:∃ d s1,s.read n=(d,s1):=⟨_,_,rfl⟩
  rw [Rn.gatherF_go hd] at he
  have HE:=gh he
  have HD:=gh hd
  clear he hd
  have HLO:=gh hlo
  clear hlo
  have H:=gh h
  have OK:=gh ho
  have HN:=gh hN
  have HPR:=gh hp
  have HXS:=gh hx
  have HR0:=gh (h.rlo hX)
  clear h ho hN hp hx
  go_enter Tryz.func159,Tryz.ntmps159
  go_wp2_with (fail)
  refine (read_r _ r s n H.out d s1 HD.out).mono ?_
  rintro e W1 ⟨rfl,R1⟩
  obtain ⟨d0,d1⟩:=(OK.out.read HD.out).1
  have G1:=R1.went_read OK.out HD.out
  clear R1
  have HG1:=gh G1
  have PR1:=gh (HPR.out.ran G1.ran.2 HR0.out)
  clear G1
  go_wp2_with (fail)
  go_loopw [4,12,13,14,15,16,17,18] (fun vo vr vi _ _ _ _ _ wr=>∃ (i rk:Int) (t:Rn) (vv:Value) (ys:List (Int × Int)),vi=.int .i64 i∧vr=.int .i64 rk∧vv=vo∧0≤i∧i≤9223372036854775807∧PRow wr lo 59 vv ys∧Gath X lo W r s t wr∧ys.length+t.left≤xs.length+s.left∧Rn.gatherK (Rn.gatherF B) n d f to (d - i).toNat i rk ys t=(res,sE)) (fun _ _ vi _ _ _ _ _ _=>(d - intOf vi).toNat)
  case atStart=>exact ⟨0,0,s1,v,xs,rfl,rfl,rfl,by omega,by omega,PR1.out,HG1.out.gath,by have:=HG1.out.on.left;omega,by simpa using HE.out⟩
  case round=>
   obtain ⟨i,rk,t,vv,ys,rfl,rfl,rfl,i0,i1,hpr,hG,hl,hgk⟩:=hrel
   have HGK:=gh hgk
   have PR:=gh hpr
   have G:=gh hG
   have HL:=gh hl
   obtain ⟨ta,tc,wa,wc,RI⟩:=hG.lies
   obtain ⟨_,_,c2,_,_,ff⟩:=RI.cells
   have HTN:=gh (Nat.lt_of_le_of_lt hG.on.left HN.out)
   clear RI ff hpr hG hl hgk
   by_cases hid:i < d
   ·by_cases hrt:rk < to
    ·cases hof:t.off with
     | true=>
      rw [hof] at c2
      have hz:=HGK.out
      rw [Rn.gatherK_end (.inr hof)] at hz
      obtain ⟨rfl,rfl⟩:=Prod.mk.inj hz
      clear hof hz
      go_wp2
      go_ret
      first | exact ⟨vv,rfl,PR.out,G.out,HL.out⟩ | exact ⟨PR.out,G.out,HL.out⟩
     | false=>
      rw [hof] at c2
      have HOF:=gh hof
      obtain ⟨cz,hcz⟩:∃ cz,childZ n d i=cz:=⟨_,rfl⟩
      have HCZ:=gh hcz
      obtain ⟨c,hc⟩:∃ c,(d - (i+1)).toNat=c:=⟨_,rfl⟩
      have HC:Hid ((d - i).toNat=c+1):=gh (by omega)
      have HC':=gh hc
      obtain ⟨x,t2,hx⟩:∃ x t2,t.peek cz=(x,t2):=⟨_,_,rfl⟩
      have HXT:=gh hx
      have HSL:Hid (t.peek (childZ n d i)=(x,t2)):=gh (by rw [hcz];exact hx)
      clear hof hcz hc hx
      go_wp2_with (fail)
      refine (child_r _ n d i cz HCZ.out).mono ?_
      rintro e w' ⟨rfl,rfl⟩
      go_wp2_with (fail)
      refine (peek_r _ r t cz G.out.lies G.out.ok x t2 HXT.out).mono ?_
      rintro e W5 ⟨rfl,R5⟩
      have G5':=R5.went_peek G.out.ok HXT.out
      have L5:=gh (Rn.peek_lt' HXT.out HOF.out)
      have IX:=gh (G.out.ok.peek HXT.out).1
      have PR5:=gh (PR.out.ran G5'.ran.2 HR0.out)
      have G5:=gh (G.out.trans G5'.gath)
      clear R5 G5'
      obtain ⟨kk,hkk⟩:∃ kk,kd x=kk:=⟨_,rfl⟩
      obtain ⟨p,hp⟩:∃ p,ad x=p:=⟨_,rfl⟩
      have kr:=ad_range x
      rw [hp] at kr
      obtain ⟨p0,p1⟩:=kr
      have HK:=gh hkk
      have HP:=gh hp
      go_wp2_with (fail)
      refine (ak_d _ x p IX.out HP.out).mono ?_
      rintro e w' ⟨rfl,rfl⟩
      go_wp2_with (fail)
      refine (kk_d _ x kk IX.out HK.out).mono ?_
      rintro e w' ⟨rfl,rfl⟩
      clear hkk hp
      by_cases k2:kk=2
      ·subst k2
       by_cases hrf:f≤rk
       ·obtain ⟨k1,t3,hk1⟩:∃ k1 t3,t2.read p=(k1,t3):=⟨_,_,rfl⟩
        obtain ⟨v1,t4,hv1⟩:∃ v1 t4,t3.read (p+1)=(v1,t4):=⟨_,_,rfl⟩
        have HK1:=gh hk1
        have HV1:=gh hv1
        clear hk1 hv1
        go_wp2_with (fail)
        refine (read_r _ r t2 p G5.out.lies k1 t3 HK1.out).mono ?_
        rintro e W6 ⟨rfl,R6⟩
        have G6':=R6.went_read G5.out.ok HK1.out
        clear R6
        have PR6:=gh (PR5.out.ran G6'.ran.2 HR0.out)
        have L6:=gh (G6'.on.left)
        have G6:=gh (G5.out.trans G6'.gath)
        clear G6'
        go_wp2_with (fail)
        refine (read_r _ r t3 (p+1) G6.out.lies v1 t4 HV1.out).mono ?_
        rintro e W7 ⟨rfl,R7⟩
        have G7':=R7.went_read G6.out.ok HV1.out
        clear R7
        have PR7:=gh (PR6.out.ran G7'.ran.2 HR0.out)
        have L7:=gh (G7'.on.left)
        have G7:=gh (G6.out.trans G7'.gath)
        clear G7'
        obtain ⟨la,lc,hv,_⟩:=PR7.out.reads
        obtain ⟨M,hM⟩:∃ M,ys.length=M:=⟨_,rfl⟩
        rw [hM] at hv
        have HM:=gh hM
        subst hv
        clear hM
        go_wp2_with (at_builtin;refine Stop.out ?_)
        refine ⟨?_⟩
        have HRA:=gh (PR7.out.kept (Kept.alloc (Kept.refl W7) (.cells #[.int .i64 k1,.int .i64 v1] 59)))
        have HNW:Hid ((W7.alloc (.cells #[.int .i64 k1,.int .i64 v1] 59)).heap[W7.heap.size]? = some (.cells #[.int .i64 k1,.int .i64 v1] 59)):=gh (heap_new _ _)
        refine wpList_append_pair ptP rfl _ _ rfl lo _ ys (ys++[(k1,v1)]) rfl HRA.out W7.heap.size k1 v1 rfl HNW.out (by have:=HXS.out;have:=HL.out;omega) (by have:=G7.out.turned.size;have:=HLO.out;simp;omega) rfl ?_
        intro v9 W9 hown hg hat
        have HR9:=gh hown
        have G9:=gh (G7.out.trans (Gath.grown hX G7.out.lies G7.out.ok PR7.out _ hg))
        clear hown hg hat HRA HNW
        go_wp2
        refine ⟨⟨i+1,_,t4,v9,ys++[(k1,v1)],rfl,rfl,rfl,by omega,by omega,HR9.out,G9.out,by have:=L5.out;have:=L6.out;have:=L7.out;have:=HL.out;simp;omega,?_⟩,by simp [intOf];omega⟩
        have hz:=HGK.out
        rw [HC.out,Rn.gatherK_2 (k:=k1) (v:=v1) (t3:=t3) (t4:=t4) hrt HOF.out HSL.out HK.out hrf (by rw [HP.out];exact HK1.out) (by rw [HP.out];exact HV1.out)] at hz
        rw [HC'.out]
        exact hz
       ·go_wp2
        refine ⟨⟨i+1,_,t2,vv,ys,rfl,rfl,rfl,by omega,by omega,PR5.out,G5.out,by have:=L5.out;have:=HL.out;omega,?_⟩,by simp [intOf];omega⟩
        have hz:=HGK.out
        rw [HC.out,Rn.gatherK_2' hrt HOF.out HSL.out HK.out (Int.not_le.2 hrf)] at hz
        rw [HC'.out]
        exact hz
      ·by_cases k3:kk=3
       ·subst k3
        go_wp2_with (fail)
        refine (kk_d _ x 3 IX.out HK.out).mono ?_
        rintro e w' ⟨rfl,rfl⟩
        have GP:=G5
        have PRP:=PR5
        obtain ⟨q,t4,hq⟩:∃ q t4,t2.read (p+4)=(q,t4):=⟨_,_,rfl⟩
        have HQ:=gh hq
        clear hq
        obtain ⟨zs,t5,hzs⟩:∃ zs t5,Rn.gatherF B t4 p (wrap64 (f - rk)) (wrap64 (to - rk)) ys=(zs,t5):=⟨_,_,rfl⟩
        have HZ:=gh hzs
        clear hzs
        go_wp2_with (fail)
        refine (read_r _ r t2 _ GP.out.lies q t4 HQ.out).mono ?_
        rintro e W7 ⟨rfl,R7⟩
        have G7':=R7.went_read GP.out.ok HQ.out
        clear R7
        have PR7:=gh (PRP.out.ran G7'.ran.2 HR0.out)
        have L7:=gh (G7'.on.left)
        have G7:=gh (GP.out.trans G7'.gath)
        clear G7'
        by_cases hgt:f < wrap64 (rk+wrap64 (q - 1))
        ·go_wp2_with (fail)
         refine (ih _ t4 _ _ _ vv ys (by have:=L5.out;have:=HTN.out;have:=L7.out;omega) G7.out.lies G7.out.ok PR7.out (by have:=L5.out;have:=L7.out;have:=HL.out;have:=HXS.out;omega) (Nat.le_trans HLO.out G7.out.turned.size) zs t5 HZ.out).mono ?_
         rintro e W8 ⟨v8,rfl,PR8,G8,l8⟩
         have L8:=gh l8
         have HP8:=gh PR8
         have G8':=gh (G7.out.trans G8)
         clear PR8 G8 l8
         go_wp2
         refine ⟨⟨i+1,_,t5,v8,zs,rfl,rfl,rfl,by omega,by omega,HP8.out,G8'.out,by have:=L5.out;have:=L7.out;have:=HL.out;have:=L8.out;omega,?_⟩,by simp [intOf];omega⟩
         have hz:=HGK.out
         rw [HC.out,Rn.gatherK_3 (q:=q) (t4:=t4) (t5:=t5) (zs:=zs) hrt HOF.out HSL.out HK.out (by rw [HP.out];exact HQ.out) hgt (by rw [HP.out];exact HZ.out)] at hz
         rw [HC'.out]
         exact hz
        ·go_wp2
         refine ⟨⟨i+1,_,t4,vv,ys,rfl,rfl,rfl,by omega,by omega,PR7.out,G7.out,by have:=L5.out;have:=L7.out;have:=HL.out;omega,?_⟩,by simp [intOf];omega⟩
         have hz:=HGK.out
         rw [HC.out,Rn.gatherK_3' (q:=q) (t4:=t4) hrt HOF.out HSL.out HK.out (by rw [HP.out];exact HQ.out) (Int.not_lt.2 hgt)] at hz
         rw [HC'.out]
         exact hz
       ·by_cases k4:kk=4
        ·subst k4
         obtain ⟨a1,t3,hb⟩:∃ a1 t3,t2.read p=(a1,t3):=⟨_,_,rfl⟩
         have HB:=gh hb
         clear hb
         go_wp2_with (fail)
         refine (kk_d _ x 4 IX.out HK.out).mono ?_
         rintro e w' ⟨rfl,rfl⟩
         go_wp2_with (fail)
         refine (read_r _ r t2 p G5.out.lies a1 t3 HB.out).mono ?_
         rintro e W6 ⟨rfl,R6⟩
         have ia:=(G5.out.ok.read HB.out).1
         have G6':=R6.went_read G5.out.ok HB.out
         clear R6
         have PRP:=gh (PR5.out.ran G6'.ran.2 HR0.out)
         have L6:=gh (G6'.on.left)
         have GP:=gh (G5.out.trans G6'.gath)
         have IA:=gh ia
         clear G6' ia
         obtain ⟨a2,ha⟩:∃ a2,ad a1=a2:=⟨_,rfl⟩
         have HA:=gh ha
         have kr2:=ad_range a1
         rw [ha] at kr2
         obtain ⟨q0,q1⟩:=kr2
         clear ha
         go_wp2_with (fail)
         refine (ak_d _ a1 a2 IA.out HA.out).mono ?_
         rintro e w' ⟨rfl,rfl⟩
         go_wp2_with (fail)
         obtain ⟨q,t4,hq⟩:∃ q t4,t3.read (a2+4)=(q,t4):=⟨_,_,rfl⟩
         have HQ:=gh hq
         clear hq
         obtain ⟨zs,t5,hzs⟩:∃ zs t5,Rn.gatherF B t4 a2 (wrap64 (f - rk)) (wrap64 (to - rk)) ys=(zs,t5):=⟨_,_,rfl⟩
         have HZ:=gh hzs
         clear hzs
         refine (read_r _ r t3 _ GP.out.lies q t4 HQ.out).mono ?_
         rintro e W7 ⟨rfl,R7⟩
         have G7':=R7.went_read GP.out.ok HQ.out
         clear R7
         have PR7:=gh (PRP.out.ran G7'.ran.2 HR0.out)
         have L7:=gh (G7'.on.left)
         have G7:=gh (GP.out.trans G7'.gath)
         clear G7'
         by_cases hgt:f < wrap64 (rk+wrap64 (q - 1))
         ·go_wp2_with (fail)
          refine (ih _ t4 _ _ _ vv ys (by have:=L5.out;have:=HTN.out;have:=L7.out;have:=L6.out;omega) G7.out.lies G7.out.ok PR7.out (by have:=L5.out;have:=L7.out;have:=HL.out;have:=HXS.out;have:=L6.out;omega) (Nat.le_trans HLO.out G7.out.turned.size) zs t5 HZ.out).mono ?_
          rintro e W8 ⟨v8,rfl,PR8,G8,l8⟩
          have L8:=gh l8
          have HP8:=gh PR8
          have G8':=gh (G7.out.trans G8)
          clear PR8 G8 l8
          go_wp2
          refine ⟨⟨i+1,_,t5,v8,zs,rfl,rfl,rfl,by omega,by omega,HP8.out,G8'.out,by have:=L5.out;have:=L7.out;have:=HL.out;have:=L8.out;have:=L6.out;omega,?_⟩,by simp [intOf];omega⟩
          have hz:=HGK.out
          rw [HC.out,Rn.gatherK_4 (b:=a1) (q:=q) (t3:=t3) (t4:=t4) (t5:=t5) (zs:=zs) hrt HOF.out HSL.out HK.out (by rw [HP.out];exact HB.out) (by rw [HA.out];exact HQ.out) hgt (by rw [HA.out];exact HZ.out)] at hz
          rw [HC'.out]
          exact hz
         ·go_wp2
          refine ⟨⟨i+1,_,t4,vv,ys,rfl,rfl,rfl,by omega,by omega,PR7.out,G7.out,by have:=L5.out;have:=L7.out;have:=HL.out;have:=L6.out;omega,?_⟩,by simp [intOf];omega⟩
          have hz:=HGK.out
          rw [HC.out,Rn.gatherK_4' (b:=a1) (q:=q) (t3:=t3) (t4:=t4) hrt HOF.out HSL.out HK.out (by rw [HP.out];exact HB.out) (by rw [HA.out];exact HQ.out) (Int.not_lt.2 hgt)] at hz
          rw [HC'.out]
          exact hz
        ·have g2:(kk == 2)=false:=by simp [k2]
         have g3:(kk == 3)=false:=by simp [k3]
         have g4:(kk == 4)=false:=by simp [k4]
         go_wp2
         refine ⟨⟨i+1,_,t2,vv,ys,rfl,rfl,rfl,by omega,by omega,PR5.out,G5.out,by have:=L5.out;have:=HL.out;omega,?_⟩,by simp [intOf];omega⟩
         have hz:=HGK.out
         rw [HC.out,Rn.gatherK_0 hrt HOF.out HSL.out (by rw [HK.out];exact k2) (by rw [HK.out];exact k3) (by rw [HK.out];exact k4)] at hz
         rw [HC'.out]
         exact hz
    ·have hz:=HGK.out
     rw [Rn.gatherK_end (.inl (by omega))] at hz
     obtain ⟨rfl,rfl⟩:=Prod.mk.inj hz
     clear hz
     go_wp2
     go_ret
     first | exact ⟨vv,rfl,PR.out,G.out,HL.out⟩ | exact ⟨PR.out,G.out,HL.out⟩
   ·have hz:=HGK.out
    rw [show (d - i).toNat=0 from by omega] at hz
    obtain ⟨rfl,rfl⟩:=Prod.mk.inj hz
    clear hz
    go_wp2
    go_ret
    first | exact ⟨vv,rfl,PR.out,G.out,HL.out⟩ | exact ⟨PR.out,G.out,HL.out⟩
end
section
open Go.Shelf
variable {X:Nat→Prop}
attribute [local go_sem] Oper.semAt_some
namespace Rn
def againL:List (Int × Int)→Rn→Bool × Rn
 | [],s=>(true,s)
 | p :: L,s=>if s.off=true then (true,s) else if (s.peek p.1).1=p.2 then againL L (s.peek p.1).2 else (false,(s.peek p.1).2)
theorem againL_off {L:List (Int × Int)} {s:Rn} (h:s.off=true):againL L s=(true,s):=by
 cases L with
 | nil=>rfl
 | cons p L=>rw [againL,if_pos h]
theorem againL_same {L:List (Int × Int)} {s t:Rn} {a y:Int} (h:s.off=false) (e:s.peek a=(y,t)):againL ((a,y) :: L) s=againL L t:=by
 rw [againL,h,e]
 simp
theorem againL_other {L:List (Int × Int)} {s t:Rn} {a y z:Int} (h:s.off=false) (e:s.peek a=(z,t)) (hz:z≠y):againL ((a,y) :: L) s=(false,t):=by
 rw [againL,h,e]
 simp [hz]
end Rn
set_option maxRecDepth 100000 in
set_option maxHeartbeats 1000000 in
theorem again_r (W:World) (r:Nat) (s:Rn) (la:Option Addr) (N lc:Nat) (L:List (Int × Int)) (h:RunAt X W r s) (ho:s.ok) (hr:PReads W la L) (hN:L.length=N) (hc:N≤lc) (hm:N≤1000000) (hb:∀ ad,la=some ad→ad.block≠r) (b:Bool) (sE:Rn) (he:Rn.againL L s=(b,sE)) :
  Calls Tryz.prog 157 #[.pointer (some ⟨r,0,none⟩),.slice la N lc] W fun e W'=>e=.returned (.bool b)∧Went X W r s sE W':=by
 have H:=gh h
 have OK:=gh ho
 have HR:=gh hr
 have HL:=gh hN
 have HB:=gh hb
 have HE:=gh he
 clear h ho hr hN hb he
 go_enter Tryz.func157,Tryz.ntmps157
 go_wp2_with (fail)
 go_loopw [5] (fun v wr=>∃ (i:Nat) (t:Rn),v=.int .i64 (i:Int)∧i≤N∧Went X W r s t wr∧Rn.againL (L.drop i) t=(b,sE)) (fun v _=>N - (intOf v).toNat)
 case atStart=>exact ⟨0,s,rfl,by omega,Went.refl H.out OK.out,by simpa using HE.out⟩
 case round=>
  obtain ⟨i,t,rfl,i1,hG,hA⟩:=hrel
  have HAG:=gh hA
  clear hA
  have G:=gh hG
  obtain ⟨ta,tc,wa,wc,RI⟩:=hG.at
  obtain ⟨_,_,c2,_,_,ff⟩:=RI.cells
  clear RI ff
  by_cases hi:i < N
  ·have q1:(i:Int) < (N:Int):=by omega
   have q2:i < lc:=by omega
   cases hof:t.off with
   | true=>
    rw [hof] at c2
    have hz:=HAG.out
    rw [Rn.againL_off hof] at hz
    obtain ⟨rfl,rfl⟩:=Prod.mk.inj hz
    clear hof hG hz
    go_wp2
    go_ret
    exact ⟨rfl,G.out⟩
   | false=>
    rw [hof] at c2
    have hr2:=HR.out.turned hG.ran.2 (fun k _ ⟨ad,e,e'⟩ hk=>HB.out ad e (by rw [e',hk]))
    obtain ⟨p,hp⟩:∃ p,L[i]? = some p:=⟨_,List.getElem?_eq_getElem (by rw [HL.out];exact hi)⟩
    obtain ⟨sl,y⟩:=p
    have HDR:Hid (L.drop i=(sl,y) :: L.drop (i+1)):=gh (by
     obtain ⟨hi',e⟩:=List.getElem?_eq_some_iff.1 hp
     rw [List.drop_eq_getElem_cons hi',e])
    have HOF:=gh hof
    obtain ⟨z,t2,hpk⟩:∃ z t2,t.peek sl=(z,t2):=⟨_,_,rfl⟩
    have HPK:=gh hpk
    clear hpk
    obtain ⟨bl,off,rfl,hbl,cs,cy⟩:=hr2.at hp
    have hne:bl≠r:=HB.out _ rfl
    obtain ⟨V,hV⟩:∃ V,wr.drew=V:=⟨_,rfl⟩
    have kV:Kept wr V:=by rw [← hV];exact Kept.drew _
    have x0:∀ u:Wd (fun U=>Td (fun k=>k=r) V U),u.w.cell? ⟨bl,off+i * 2,none⟩=some (.int .i64 sl):=fun u=>u.ok.cell (kV.cell cs id) hne
    have x1:∀ u:Wd (fun U=>Td (fun k=>k=r) V U),u.w.cell? ⟨bl,off+(i * 2+1),none⟩=some (.int .i64 y):=fun u=>u.ok.cell (kV.cell cy id) hne
    have x2:∀ u:Wd (fun U=>Td (fun k=>k=r) V U),u.w.cell? ⟨bl,off+i * 2+1,none⟩=some (.int .i64 y):=fun u=>x1 u
    have HV:=gh hV
    have KV:=gh kV
    clear hV kV hr2 hp cs cy hG hof
    go_wp2_with (fail)
    refine region_wide [0,1,2,3,4,5,7,8,9,10,11,6,12] (fun U=>Td (fun k=>k=r) V U) (by kernel_rfl) (by kernel_rfl) (by rw [HV.out];exact Td.refl _ _) (fun _=>?_)
    rw [HV.out]
    repeat (refine pq rfl rfl ?_;go_big_quiet_step (fail);refine wpQuiet_nil ?_)
    refine pl rfl rfl ?_
    gi_wp2_with (fail)
    refine ⟨trivial,?_⟩
    refine (callsIn_wide.2 (peek_r _ r t sl (G.out.at.kept KV.out) G.out.ok z t2 HPK.out)).mono ?_
    rintro e U ⟨rfl,R2⟩
    have G2':=R2.went_peek G.out.ok HPK.out
    clear R2
    have G2:=gh (G.out.trans (⟨Ran.behind KV.out G2'.ran,G2'.on,G2'.ok⟩:Went X wr r t t2 U))
    have TU:=gh G2'.ran.2
    clear G2'
    by_cases hzy:z=y
    ·subst hzy
     gi_wp2_with (fail)
     refine ⟨Wd.mem TU.out,?_⟩
     repeat (refine pq rfl rfl ?_;go_big_quiet_step (fail);refine wpQuiet_nil ?_)
     refine perm_done ?_
     go_wp2
     refine ⟨⟨i+1,t2,by simp,by omega,G2.out,?_⟩,by simp [intOf];omega⟩
     have hz:=HAG.out
     rw [HDR.out,Rn.againL_same HOF.out HPK.out] at hz
     exact hz
    ·have g1:(z == y)=false:=by simp [hzy]
     have g2:(z != y)=true:=by simp [hzy]
     gi_wp2_with (fail)
     refine ⟨Wd.mem TU.out,?_⟩
     repeat (refine pq rfl rfl ?_;go_big_quiet_step (fail);refine wpQuiet_nil ?_)
     refine perm_done ?_
     have hz:=HAG.out
     rw [HDR.out,Rn.againL_other HOF.out HPK.out hzy] at hz
     obtain ⟨rfl,rfl⟩:=Prod.mk.inj hz
     clear hz
     go_wp2
     go_ret
     exact ⟨rfl,G2.out⟩
  ·have q1:¬ ((i:Int) < (N:Int)):=by omega
   have hz:=HAG.out
   rw [List.drop_eq_nil_of_le (by rw [HL.out];omega)] at hz
   obtain ⟨rfl,rfl⟩:=Prod.mk.inj hz
   clear hz
   go_wp2
   go_ret
   first | exact ⟨rfl,G.out⟩ | exact G.out
end
section
open Go.Shelf
variable {X:Nat→Prop}
attribute [local go_sem] Oper.semAt_some
def Rn.partR (N:Nat) (s:Rn) (n m root d i:Int):Bool × Rn:=
 let g:=Rn.gatherF N s n (Pt.fromZ m i) (wrap64 (Pt.fromZ m i+Pt.sizeZ m i)) []
 if g.2.off=true then (true,g.2)
 else
  let w:=Rn.growF (g.1.length+1) g.2 g.1
  if w.1.2=false then (false,w.2)
  else
   let t:=if 0 < i∧0 < g.1.length then w.2.write (keyZ root i) (g.1.headD (0,0)).1 else w.2
   (true,(t.cas (childZ root d i) 0 w.1.1).2)
namespace Rn
theorem recM_on (s:Rn) (k:Int) (ws:List Int):On s (s.recM k ws).2:=Rn.ask_on s _
theorem growK_on (L:Rn→List (Int × Int)→(Int × Bool) × Rn) (hL:∀ s ps,On s (L s ps).2) (ps:List (Int × Int)) (s:Rn):∀ n,On s (growK L ps s n).2
 | 0=>On.refl s
 | n+1=>by
  rw [growK]
  split
  ·exact growK_on L hL ps s n
  ·exact (growK_on L hL ps s n).trans (hL _ _)
theorem growF_on:∀ (f:Nat) (s:Rn) (ps:List (Int × Int)),On s (growF f s ps).2
 | 0,s,_=>On.refl s
 | f+1,s,ps=>by
  rw [growF_succ]
  split
  ·exact recM_on _ _ _
  ·split
   ·exact recM_on _ _ _
   ·split
    ·exact (growK_on _ (growF_on f) ps s _).trans (recM_on _ _ _)
    ·exact growK_on _ (growF_on f) ps s _
end Rn
theorem cas_on {s s':Rn} {a x y:Int} {b:Bool} (e:s.cas a x y=(b,s')):Rn.On s s':=by
 have:s'=(s.ask ⟨3,a,x,y,[]⟩).2:=(congrArg Prod.snd e).symm
 rw [this]
 exact Rn.ask_on s _
set_option maxRecDepth 100000 in
set_option maxHeartbeats 2000000 in
theorem part_r (N:Nat) (W:World) (r:Nat) (s:Rn) (n m root d i:Int) (h:RunAt X W r s) (ho:s.ok) (hX:∀ k,W.heap.size≤k→X k) (hm:I64 m) (hN:s.left < N) (hl:s.left≤16384) (b:Bool) (sE:Rn) (he:s.partR N n m root d i=(b,sE)) :
  Calls Tryz.prog 209 #[.pointer (some ⟨r,0,none⟩),.int .i64 n,.int .i64 m,.int .i64 root,.int .i64 d,.int .i64 i] W fun e W'=>e=.returned (.bool b)∧Went X W r s sE W':=by
 have HRL:=gh h.lt
 have H:Hid (RunAt (fun k=>X k∧k < W.heap.size) W r s):=gh (h.to fun k a c=>⟨a,c⟩)
 have HX:=gh hX
 have HM:=gh hm
 have OK:=gh ho
 have HN:=gh hN
 have HL:=gh hl
 obtain ⟨fr,hfr⟩:∃ fr,Pt.fromZ m i=fr:=⟨_,rfl⟩
 obtain ⟨sz,hsz⟩:∃ sz,Pt.sizeZ m i=sz:=⟨_,rfl⟩
 obtain ⟨ys,s1,hg⟩:∃ ys s1,Rn.gatherF N s n fr (wrap64 (fr+sz)) []=(ys,s1):=⟨_,_,rfl⟩
 unfold Rn.partR at he
 rw [hfr,hsz,hg] at he
 dsimp only at he
 have HE:=gh he
 have HFR:=gh hfr
 have HSZ:=gh hsz
 have HG:=gh hg
 clear h ho hX hm hN hl he hfr hsz hg
 go_enter Tryz.func209,Tryz.ntmps209
 go_wp2_with (fail)
 refine (Pt.from_r m i (I64.wf HM.out) _).mono ?_
 rw [HFR.out]
 rintro e w' ⟨rfl,rfl⟩
 go_wp2_with (fail)
 refine (Pt.size_r m i (I64.wf HM.out) _).mono ?_
 rw [HSZ.out]
 rintro e w' ⟨rfl,rfl⟩
 go_wp2_with (fail)
 refine (gather_r (lo:=W.heap.size) (fun k h=>h.2) r N W s n fr _ _ [] HN.out H.out OK.out (PRow.nil _ _ _) (by have:=HL.out;simp;omega) (Nat.le_refl _) ys s1 HG.out).mono ?_
 rintro e W1 ⟨v,rfl,PR,G,hlen⟩
 obtain ⟨a,cap,rfl,pr,hc,hcm,ha0,hab⟩:=PR.reads
 have T1:Hid (Td (fun k=>k=r) W W1):=gh (G.turned.mono fun k h1 h2=>h2.elim id (fun h3=>absurd h1 (Nat.not_lt.2 h3)))
 have ON1:=gh G.on
 have OK1:=gh G.ok
 have R1:Hid (RunAt X W1 r s1):=gh (G.lies.to fun k h _=>h.1)
 have HLEN:Hid (ys.length≤16384):=gh (by have:=HL.out;simp at hlen;omega)
 obtain ⟨ta,tc,wa,wc,RI⟩:=G.lies
 obtain ⟨_,_,c2,_,_,ff⟩:=RI.cells
 have PRD:=gh pr
 have HC:=gh hc
 have HCM:=gh hcm
 have HAB:Hid (∀ ad,a=some ad→ad.block≠r):=gh (fun ad e=>by have:=hab ad e;have:=HRL.out;omega)
 obtain ⟨M,hM⟩:∃ M,ys.length=M:=⟨_,rfl⟩
 have hM':=hM
 have HXN:Hid (∀ k,W1.heap.size≤k→X k):=gh (fun k h=>HX.out k (Nat.le_trans T1.out.size h))
 rw [hM] at HLEN HC
 have HMM:=gh hM
 have HE1:=gh HE.out
 have m0:=HLEN.out
 rw [hM] at HE1
 rw [hM']
 clear RI ff PR G hlen pr hc hcm ha0 hab hM hM' HE
 cases hof:s1.off with
 | true=>
  rw [hof] at c2
  have hz:=HE1.out
  rw [if_pos hof] at hz
  obtain ⟨rfl,rfl⟩:=Prod.mk.inj hz
  clear hz HE1 hof
  go_wp2
  go_ret
  exact ⟨rfl,⟨R1.out,T1.out⟩,ON1.out,OK1.out⟩
 | false=>
  rw [hof] at c2
  obtain ⟨x,ok,s2,hgr⟩:∃ x ok s2,Rn.growF (M+1) s1 ys=((x,ok),s2):=⟨_,_,_,rfl⟩
  have HE2:Hid ((if ok=false then (false,s2) else (true,((if 0 < i∧0 < M then s2.write (keyZ root i) (ys.headD (0,0)).1 else s2).cas (childZ root d i) 0 x).2))=(b,sE)):=gh (by
   have:=HE1.out
   rw [if_neg (by rw [hof];decide),hgr] at this
   exact this)
  have HGR:=gh hgr
  clear hof hgr HE1
  go_wp2_with (fail)
  refine (grow_r (M+1) X W1 r s1 a ys M cap R1.out HXN.out PRD.out HMM.out HC.out HCM.out HLEN.out (by omega) (fun _=>HAB.out) x ok s2 HGR.out).mono ?_
  rintro e W2 ⟨rfl,R2⟩
  have D2:Hid (Ran X W r s2 W2):=gh ⟨R2.1,T1.out.trans R2.2 (fun _ e=>e) (fun _ _ e=>e)⟩
  have ON2:Hid (Rn.On s s2):=gh (ON1.out.trans (by have:=Rn.growF_on (M+1) s1 ys;rw [HGR.out] at this;exact this))
  have P2:Hid (PReads W2 a ys):=gh (PRD.out.turned R2.2 (fun k _ ⟨ad,e,e'⟩ hk=>HAB.out ad e (by rw [e',hk])))
  clear R2
  cases ok with
  | false=>
   have hz:=HE2.out
   rw [if_pos rfl] at hz
   obtain ⟨rfl,rfl⟩:=Prod.mk.inj hz
   clear hz HE2
   go_wp2
   go_ret
   exact ⟨rfl,D2.out,ON2.out,ON2.out.ok OK.out⟩
  | true=>
   obtain ⟨kz,hkz⟩:∃ kz,keyZ root i=kz:=⟨_,rfl⟩
   obtain ⟨cz,hcz⟩:∃ cz,childZ root d i=cz:=⟨_,rfl⟩
   have HKZ:=gh hkz
   have HCZ:=gh hcz
   by_cases i0:0 < i
   ·by_cases l0:0 < M
    ·obtain ⟨bl,off,rfl⟩:∃ bl off,a=some ⟨bl,off,none⟩:=by
      rcases P2.out with e | ⟨bl,off,e,_⟩
      ·have:=HMM.out;rw [e] at this;simp at this;omega
      ·exact ⟨bl,off,e⟩
     obtain ⟨q,hq⟩:∃ q,(ys.headD (0,0)).1=q:=⟨_,rfl⟩
     have c1:=(preads_head P2.out (by have:=HMM.out;omega)).1
     rw [hq] at c1
     obtain ⟨s3,h3⟩:∃ s3,s2.write kz q=s3:=⟨_,rfl⟩
     obtain ⟨b4,s4,h4⟩:∃ b4 s4,s3.cas cz 0 x=(b4,s4):=⟨_,_,rfl⟩
     have hz:=HE2.out
     rw [if_neg (by decide),if_pos ⟨i0,l0⟩,hkz,hcz,hq,h3,h4] at hz
     obtain ⟨rfl,rfl⟩:=Prod.mk.inj hz
     have H3:=gh h3
     have H4:=gh h4
     have l1:(0:Int) < (M:Int):=by omega
     have l2:0 < cap:=by have:=HC.out;omega
     obtain ⟨V,hV⟩:∃ V,W2.drew=V:=⟨_,rfl⟩
     have kV:Kept W2 V:=by rw [← hV];exact Kept.drew _
     have hna:=HAB.out _ rfl
     have x1:∀ u:Wd (fun U=>Td (fun k=>k=r) V U),u.w.cell? ⟨bl,off,none⟩=some (.int .i64 q):=fun u=>u.ok.cell (kV.cell c1 id) hna
     have HV:=gh hV
     have KV:=gh kV
     clear hz HE2 h3 h4 hkz hcz hq c1 hV kV hna
     go_wp2_with (fail)
     refine region_wide [0,1,2,4,5,6,7,3,8] (fun U=>Td (fun k=>k=r) V U) (by kernel_rfl) (by kernel_rfl) (by rw [HV.out];exact Td.refl _ _) (fun _=>?_)
     rw [HV.out]
     repeat (refine pq rfl rfl ?_;go_big_quiet_step (fail);refine wpQuiet_nil ?_)
     refine pl rfl rfl ?_
     gi_wp2_with (fail)
     refine ⟨trivial,?_⟩
     refine (callsIn_wide.2 (key_r V root i kz HKZ.out)).mono ?_
     rintro e U ⟨rfl,rfl⟩
     gi_wp2_with (fail)
     refine ⟨Wd.mem (Td.refl _ _),?_⟩
     refine pl rfl rfl ?_
     gi_wp2_with (fail)
     refine ⟨trivial,?_⟩
     refine (callsIn_wide.2 (write_r V r s2 kz q (D2.out.1.kept KV.out) s3 H3.out)).mono ?_
     rintro e W3 ⟨rfl,R3⟩
     have D3:=gh (D2.out.trans (Ran.behind KV.out R3))
     have TU:=gh R3.2
     clear R3
     gi_wp2_with (fail)
     refine ⟨Wd.mem TU.out,?_⟩
     repeat (refine pq rfl rfl ?_;go_big_quiet_step (fail);refine wpQuiet_nil ?_)
     refine perm_done ?_
     go_wp2_with (fail)
     refine (child_r _ root d i cz HCZ.out).mono ?_
     rintro e w' ⟨rfl,rfl⟩
     go_wp2_with (fail)
     refine (cas_r _ r s3 cz 0 x D3.out.1 b4 _ H4.out).mono ?_
     rintro e W4 ⟨rfl,R4⟩
     go_wp2
     go_ret
     have ON4:=(ON2.out.trans (s'':=s3) (by rw [← H3.out];exact Rn.ask_on _ _)).trans (cas_on H4.out)
     exact ⟨rfl,D3.out.trans R4,ON4,ON4.ok OK.out⟩
    ·obtain ⟨b4,s4,h4⟩:∃ b4 s4,s2.cas cz 0 x=(b4,s4):=⟨_,_,rfl⟩
     have hz:=HE2.out
     rw [if_neg (by decide),if_neg (fun h=>l0 h.2),hcz,h4] at hz
     obtain ⟨rfl,rfl⟩:=Prod.mk.inj hz
     have H4:=gh h4
     have l1:¬ (0:Int) < (M:Int):=by omega
     clear hz HE2 h4 hkz hcz
     go_wp2_with (fail)
     refine (child_r _ root d i cz HCZ.out).mono ?_
     rintro e w' ⟨rfl,rfl⟩
     go_wp2_with (fail)
     refine (cas_r _ r s2 cz 0 x D2.out.1 b4 _ H4.out).mono ?_
     rintro e W4 ⟨rfl,R4⟩
     go_wp2
     go_ret
     have ON4:=ON2.out.trans (cas_on H4.out)
     exact ⟨rfl,D2.out.trans R4,ON4,ON4.ok OK.out⟩
   ·obtain ⟨b4,s4,h4⟩:∃ b4 s4,s2.cas cz 0 x=(b4,s4):=⟨_,_,rfl⟩
    have hz:=HE2.out
    rw [if_neg (by decide),if_neg (fun h=>i0 h.1),hcz,h4] at hz
    obtain ⟨rfl,rfl⟩:=Prod.mk.inj hz
    have H4:=gh h4
    clear hz HE2 h4 hkz hcz
    go_wp2_with (fail)
    refine (child_r _ root d i cz HCZ.out).mono ?_
    rintro e w' ⟨rfl,rfl⟩
    go_wp2_with (fail)
    refine (cas_r _ r s2 cz 0 x D2.out.1 b4 _ H4.out).mono ?_
    rintro e W4 ⟨rfl,R4⟩
    go_wp2
    go_ret
    have ON4:=ON2.out.trans (cas_on H4.out)
    exact ⟨rfl,D2.out.trans R4,ON4,ON4.ok OK.out⟩
end
section
theorem region_tree {P:Program} {ops:Array Oper} {Q:Exit→Act→World→Prop} {id:Nat} {a:Act} {w:World} (S:World→Prop) (hm:P.follows .mixedOrders=true)
  (hS:S w.drew) (h:Nonempty (Wd S)→anyC P .any ops (calm Q) (fun w'=>∃ x:Wd S,w'=x.w) 10 ops.size (Array.replicate ops.size false) a w.drew):(Code.region id ops true).wp P Q a w:=
 (wpIn_wide (n:=10)).1 (Go.wpIn_mono (wpIn_region_any hm (wpAnyIn_of_anyC _ _ _ _ (h ⟨⟨_,hS⟩⟩))) (fun _ _ _ h=>calm_imp h))
section
variable {P:Program} {l:List Oper} {Q:Exit→Act→World→Prop} {C:World→Prop} {n:Nat} {fuel:Nat} {o:Oper} {a:Act} {w:World} {listed:Array Bool}
theorem aq (i:Nat) (listed':Array Bool) (ho:nth l i=some o) (hp:plainOp o.op=true) (hB:(Region.noSelect l.toArray && (Region.ready .any l.toArray listed).contains i && Region.free .any l.toArray listed i)=true) (hl:listed.setIfInBounds i true=listed') (hC:C w)
  (h:wpQuiet P l.toArray C (fun a'=>anyC P .any l.toArray (calm Q) C n fuel listed' a' w) [o] a):anyC P .any l.toArray (calm Q) C n (fuel+1) listed a w:=by
 simp only [Bool.and_eq_true] at hB
 obtain ⟨⟨h1,h2⟩,h3⟩:=hB
 have ho':=(nth_eq l i).trans ho
 subst hl
 obtain ⟨v,hy,hk⟩:∃ v,YieldsIf P l.toArray C o v a∧anyC P .any l.toArray (calm Q) C n fuel (listed.setIfInBounds i true) (a.put o.dst v) w:=by
  unfold wpQuiet at h
  by_cases hw:Region.wanted o (yielded l.toArray a.tmps)=true
  ·rw [if_pos hw] at h
   obtain ⟨v,hv,hk⟩:=h
   refine ⟨v,.inl ⟨hw,fun w1 hC=>?_⟩,hk⟩
   have h1:=hv w1 hC
   unfold Oper.quietAt at h1
   cases hr:(execOp a.eval o).run P w1 with
   | ok x w'=>
    rw [hr] at h1
    obtain ⟨u,rfl⟩:=plain_value hp hr
    simp only [Oper.quietUpon] at h1
    rw [h1.1,h1.2]
   | halt x w'=>rw [hr] at h1;exact h1.elim
  ·rw [if_neg hw] at h
   exact ⟨undef,.inr ⟨by simpa using hw,rfl⟩,h⟩
 exact anyC_first ho' (Region.noSelect_spec h1) (fun c a w h=>h) fuel listed a w (Region.free_spec ho' h3) (by simpa using h2) hy hC hk
theorem al (is:List Nat) (hr:(Region.ready .any l.toArray listed == is && !is.isEmpty)=true)
  (h:∀ i ∈ is,∃ o listed',nth l i=some o∧listed.setIfInBounds i true=listed'∧wpListIn Fence.wide n P l.toArray (Exit.then (fun a' w'=>C w'∧anyC P .any l.toArray (calm Q) C n fuel listed' a' w') (calm Q)) [o] a w):anyC P .any l.toArray (calm Q) C n (fuel+1) listed a w:=by
 simp only [Bool.and_eq_true,beq_iff_eq] at hr
 obtain ⟨hr,he⟩:=hr
 refine ⟨fun h0=>?_,fun j hj=>?_⟩
 ·rw [hr] at h0
  rw [h0] at he
  cases he
 ·rw [hr] at hj
  obtain ⟨o,_,ho,rfl,hh⟩:=h j hj
  exact loud_list ho hh
theorem adone (hr:(Region.ready .any l.toArray listed).isEmpty=true) (h:Q .normal a w):anyC P .any l.toArray (calm Q) C n 0 listed a w:=⟨by simpa using hr,h⟩
end
end
section
open Go.Shelf
variable {X:Nat→Prop}
attribute [local go_sem] Oper.semAt_some
def Rn.topR (N:Nat) (s:Rn) (t n:Int):(Int × Bool) × Rn:=
 if 2≤n then s.recM 3 (innerL n (List.replicate ((max (Pt.degZ n) 1).toNat - 1) 0) (List.replicate (max (Pt.degZ n) 1).toNat 0))
 else if n=1 then
  (if (Rn.gatherF N s t 0 1 []).2.off=true then ((0,false),(Rn.gatherF N s t 0 1 []).2) else Rn.growF ((Rn.gatherF N s t 0 1 []).1.length+1) (Rn.gatherF N s t 0 1 []).2 (Rn.gatherF N s t 0 1 []).1)
 else if s.off=true then ((0,false),s) else Rn.growF 1 s []
theorem made_reads (W:World) (N:Nat):Reads (W.alloc (.cells (madeCells #[.int .i64 0] N) 2)) (some ⟨W.heap.size,0,none⟩) (List.replicate N 0):=by
 refine .inr ⟨W.heap.size,0,rfl,fun j z hz=>?_⟩
 have hj:j < N:=by have:=(List.getElem?_eq_some_iff.1 hz).1;simpa using this
 have e:(List.replicate N (0:Int))[j]? = some 0:=by simp [hj]
 rw [e] at hz
 cases hz
 rw [Nat.zero_add,(World.rowIs_made W (.int .i64 0) N 2).cell hj]
theorem deg_small (n:Int):0≤Pt.degZ n∧Pt.degZ n≤128:=by
 by_cases h:2≤n∧n≤16384
 ·have:=Pt.deg_bound h.1 h.2
  omega
 ·unfold Pt.degZ
  rw [if_neg h]
  omega
theorem recM_on' {s s':Rn} {k:Int} {ws:List Int} {z:Int × Bool} (e:s.recM k ws=(z,s')):Rn.On s s':=by
 have:s'=(s.recM k ws).2:=by rw [e]
 rw [this]
 exact Rn.recM_on s k ws
theorem growF_on' {f:Nat} {s s':Rn} {ps:List (Int × Int)} {z:Int × Bool} (e:Rn.growF f s ps=(z,s')):Rn.On s s':=by
 have:s'=(Rn.growF f s ps).2:=by rw [e]
 rw [this]
 exact Rn.growF_on f s ps
set_option maxRecDepth 100000 in
set_option maxHeartbeats 2000000 in
theorem top_r (N:Nat) (W:World) (r:Nat) (s:Rn) (t n:Int) (h:RunAt X W r s) (ho:s.ok) (hX:∀ k,W.heap.size≤k→X k) (hn:I64 n) (hN:s.left < N) (hl:s.left≤16384) (z:Int) (ok:Bool) (s':Rn) (he:s.topR N t n=((z,ok),s')) :
  Calls Tryz.prog 193 #[.pointer (some ⟨r,0,none⟩),.int .i64 t,.int .i64 n] W fun e W'=>e=.returned (.tuple #[.int .i64 z,.bool ok])∧Went X W r s s' W':=by
 have OK:=gh ho
 have HLN:=gh hn
 have HN:=gh hN
 have HL:=gh hl
 unfold Rn.topR at he
 obtain ⟨n0,n9⟩:=hn
 by_cases h2:2≤n
 ·rw [if_pos h2] at he
  obtain ⟨D,hD⟩:∃ D:Nat,max (Pt.degZ n) 1=(D:Int):=⟨(max (Pt.degZ n) 1).toNat,by have:=deg_small n;omega⟩
  have dS:=deg_small n
  have d0:1≤D:=by omega
  have d1:D≤128:=by omega
  rw [hD,Int.toNat_natCast] at he
  obtain ⟨dg,hdg⟩:∃ dg,Pt.degZ n=dg:=⟨_,rfl⟩
  rw [hdg] at hD dS
  have M1:=run_make39 (D - 1) (by omega)
  have M2:=run_make39 D (by omega)
  rw [show ((D - 1:Nat):Int)=(D:Int) - 1 from by omega] at M1
  obtain ⟨ws,hws⟩:∃ ws,innerL n (List.replicate (D - 1) 0) (List.replicate D 0)=ws:=⟨_,rfl⟩
  rw [hws] at he
  have E2:=gh he
  obtain ⟨V,hV⟩:∃ V,W.drew=V:=⟨_,rfl⟩
  have kV:Kept W V:=by rw [← hV];exact Kept.drew _
  have KV:=gh kV
  have HV:=gh hV
  have H:=gh (h.kept kV)
  have HX:Hid (∀ k,V.heap.size≤k→X k):=gh (fun k hk=>hX k (Nat.le_trans kV.size hk))
  have HRL:=gh (h.kept kV).lt
  have KA1:Hid (Kept V ((V.alloc (.cells (madeCells #[.int .i64 0] (D - 1)) 2)).alloc (.cells (madeCells #[.int .i64 0] D) 2))):=gh (((Kept.refl V).alloc _).alloc _)
  have KA2:Hid (Kept V ((V.alloc (.cells (madeCells #[.int .i64 0] D) 2)).alloc (.cells (madeCells #[.int .i64 0] (D - 1)) 2))):=gh (((Kept.refl V).alloc _).alloc _)
  have A1:Hid (Calls Tryz.prog 179 #[.int .i64 n,.slice (some ⟨V.heap.size,0,none⟩) (D - 1) (D - 1),.slice (some ⟨V.heap.size+1,0,none⟩) D D] ((V.alloc (.cells (madeCells #[.int .i64 0] (D - 1)) 2)).alloc (.cells (madeCells #[.int .i64 0] D) 2)) (Fresh ws ((V.alloc (.cells (madeCells #[.int .i64 0] (D - 1)) 2)).alloc (.cells (madeCells #[.int .i64 0] D) 2)))):=gh (by
   have c2:=made_reads (V.alloc (.cells (madeCells #[.int .i64 0] (D - 1)) 2)) D
   rw [World.size_alloc] at c2
   have:=inner_r ((V.alloc (.cells (madeCells #[.int .i64 0] (D - 1)) 2)).alloc (.cells (madeCells #[.int .i64 0] D) 2)) n (some ⟨V.heap.size,0,none⟩) (List.replicate (D - 1) 0) (D - 1) (some ⟨V.heap.size+1,0,none⟩) (List.replicate D 0) D ((made_reads V (D - 1)).kept (Td.alloc _ _ _)) c2 (fun e=>by cases e) (fun e=>by cases e) (by simp;omega) (by simp;omega)
   rw [hws] at this
   simpa using this)
  have A2:Hid (Calls Tryz.prog 179 #[.int .i64 n,.slice (some ⟨V.heap.size+1,0,none⟩) (D - 1) (D - 1),.slice (some ⟨V.heap.size,0,none⟩) D D] ((V.alloc (.cells (madeCells #[.int .i64 0] D) 2)).alloc (.cells (madeCells #[.int .i64 0] (D - 1)) 2)) (Fresh ws ((V.alloc (.cells (madeCells #[.int .i64 0] D) 2)).alloc (.cells (madeCells #[.int .i64 0] (D - 1)) 2)))):=gh (by
   have c2:=made_reads (V.alloc (.cells (madeCells #[.int .i64 0] D) 2)) (D - 1)
   rw [World.size_alloc] at c2
   have:=inner_r ((V.alloc (.cells (madeCells #[.int .i64 0] D) 2)).alloc (.cells (madeCells #[.int .i64 0] (D - 1)) 2)) n (some ⟨V.heap.size+1,0,none⟩) (List.replicate (D - 1) 0) (D - 1) (some ⟨V.heap.size,0,none⟩) (List.replicate D 0) D c2 ((made_reads V D).kept (Td.alloc _ _ _)) (fun e=>by cases e) (fun e=>by cases e) (by simp;omega) (by simp;omega)
   rw [hws] at this
   simpa using this)
  have HDG:=gh hdg
  clear h ho hX hN hl he hws hV kV hdg
  go_enter Tryz.func193,Tryz.ntmps193
  go_wp2_with (fail)
  refine (Pt.deg_r n (I64.wf HLN.out) _).mono ?_
  rw [HDG.out]
  rintro e w' ⟨rfl,rfl⟩
  go_wp2_with (fail)
  refine region_tree (fun U=>Td (fun k=>k=r) V U) (by kernel_rfl) (by rw [HV.out];exact Td.refl _ _) (fun _=>?_)
  rw [HV.out]
  refine aq 0 #[true,false,false,false,false,false,false,false,false,false,false,false,false,false] rfl rfl (by kernel_rfl) (by kernel_rfl) (Wd.mem (Td.refl _ _)) ?_
  go_big_quiet_step (fail)
  refine wpQuiet_nil ?_
  refine aq 1 #[true,true,false,false,false,false,false,false,false,false,false,false,false,false] rfl rfl (by kernel_rfl) (by kernel_rfl) (Wd.mem (Td.refl _ _)) ?_
  go_big_quiet_step (fail)
  refine wpQuiet_nil ?_
  refine aq 2 #[true,true,true,false,false,false,false,false,false,false,false,false,false,false] rfl rfl (by kernel_rfl) (by kernel_rfl) (Wd.mem (Td.refl _ _)) ?_
  go_big_quiet_step (fail)
  refine wpQuiet_nil ?_
  refine aq 3 #[true,true,true,true,false,false,false,false,false,false,false,false,false,false] rfl rfl (by kernel_rfl) (by kernel_rfl) (Wd.mem (Td.refl _ _)) ?_
  go_big_quiet_step (fail)
  refine wpQuiet_nil ?_
  refine aq 5 #[true,true,true,true,false,true,false,false,false,false,false,false,false,false] rfl rfl (by kernel_rfl) (by kernel_rfl) (Wd.mem (Td.refl _ _)) ?_
  go_big_quiet_step (fail)
  refine wpQuiet_nil ?_
  refine al [4,6] (by kernel_rfl) (fun i hi=>?_)
  simp only [List.mem_cons,List.not_mem_nil,or_false] at hi
  rcases hi with rfl | rfl
  ·refine ⟨_,#[true,true,true,true,true,true,false,false,false,false,false,false,false,false],rfl,by kernel_rfl,?_⟩
   gi_wp2
   refine ⟨Wd.mem ((Td.alloc _ _ _:Kept V _).mono (fun _ _ e=>e.elim)),?_⟩
   refine al [6] (by kernel_rfl) (fun i hi=>?_)
   obtain rfl:i=6:=by simpa using hi
   refine ⟨_,#[true,true,true,true,true,true,true,false,false,false,false,false,false,false],rfl,by kernel_rfl,?_⟩
   gi_wp2
   refine ⟨Wd.mem (KA1.out.mono (fun _ _ e=>e.elim)),?_⟩
   refine al [7] (by kernel_rfl) (fun i hi=>?_)
   obtain rfl:i=7:=by simpa using hi
   refine ⟨_,#[true,true,true,true,true,true,true,true,false,false,false,false,false,false],rfl,by kernel_rfl,?_⟩
   gi_wp2_with (fail)
   refine ⟨trivial,?_⟩
   refine (callsIn_wide.2 A1.out).mono ?_
   intro e w1 hff
   obtain ⟨a1,cap1,rfl,k1,far⟩:=hff.far
   have K1:=gh ((KA1).out.trans k1)
   have FAR:=gh (far X r (fun k hk=>HX.out k (Nat.le_trans (KA1).out.size hk)) (Nat.lt_of_lt_of_le HRL.out (KA1).out.size))
   clear hff k1 far
   gi_wp2_with (fail)
   refine ⟨Wd.mem (K1.out.mono (fun _ _ e=>e.elim)),?_⟩
   refine al [8] (by kernel_rfl) (fun i hi=>?_)
   obtain rfl:i=8:=by simpa using hi
   refine ⟨_,#[true,true,true,true,true,true,true,true,true,false,false,false,false,false],rfl,by kernel_rfl,?_⟩
   gi_wp2_with (fail)
   refine ⟨trivial,?_⟩
   obtain ⟨x2,ex,eo,hx2⟩:=recM_r X w1 r s 3 a1 ws _ cap1 rfl (H.out.kept K1.out) FAR.out z ok s' E2.out
   refine (callsIn_wide.2 hx2).mono ?_
   rintro e w3 ⟨rfl,d3⟩
   have D3:=gh (Ran.behind (KV.out.trans K1.out) d3)
   have T3:Hid (Td (fun k=>k=r) V w3):=gh (Ran.behind K1.out d3).2
   have EX:=gh ex
   clear d3 hx2 ex eo
   gi_wp2_with (fail)
   refine ⟨Wd.mem T3.out,?_⟩
   refine aq 9 #[true,true,true,true,true,true,true,true,true,true,false,false,false,false] rfl rfl (by kernel_rfl) (by kernel_rfl) (Wd.mem T3.out) ?_
   go_big_quiet_step (fail)
   refine wpQuiet_nil ?_
   refine aq 10 #[true,true,true,true,true,true,true,true,true,true,true,false,false,false] rfl rfl (by kernel_rfl) (by kernel_rfl) (Wd.mem T3.out) ?_
   go_big_quiet_step (fail)
   refine wpQuiet_nil ?_
   refine aq 11 #[true,true,true,true,true,true,true,true,true,true,true,true,false,false] rfl rfl (by kernel_rfl) (by kernel_rfl) (Wd.mem T3.out) ?_
   go_big_quiet_step (fail)
   refine wpQuiet_nil ?_
   refine aq 12 #[true,true,true,true,true,true,true,true,true,true,true,true,true,false] rfl rfl (by kernel_rfl) (by kernel_rfl) (Wd.mem T3.out) ?_
   go_big_quiet_step (fail)
   refine wpQuiet_nil ?_
   refine aq 13 #[true,true,true,true,true,true,true,true,true,true,true,true,true,true] rfl rfl (by kernel_rfl) (by kernel_rfl) (Wd.mem T3.out) ?_
   go_big_quiet_step (fail)
   refine wpQuiet_nil ?_
   refine adone (by kernel_rfl) ?_
   go_wp2_with (fail)
   refine (ofr_c 3 x2 z EX.out _).mono ?_
   rintro e w4 ⟨rfl,rfl⟩
   go_wp2
   go_ret2
   exact ⟨rfl,D3.out,recM_on' E2.out,(recM_on' E2.out).ok OK.out⟩
  ·refine ⟨_,#[true,true,true,true,false,true,true,false,false,false,false,false,false,false],rfl,by kernel_rfl,?_⟩
   gi_wp2
   refine ⟨Wd.mem ((Td.alloc _ _ _:Kept V _).mono (fun _ _ e=>e.elim)),?_⟩
   refine al [4] (by kernel_rfl) (fun i hi=>?_)
   obtain rfl:i=4:=by simpa using hi
   refine ⟨_,#[true,true,true,true,true,true,true,false,false,false,false,false,false,false],rfl,by kernel_rfl,?_⟩
   gi_wp2
   refine ⟨Wd.mem (KA2.out.mono (fun _ _ e=>e.elim)),?_⟩
   refine al [7] (by kernel_rfl) (fun i hi=>?_)
   obtain rfl:i=7:=by simpa using hi
   refine ⟨_,#[true,true,true,true,true,true,true,true,false,false,false,false,false,false],rfl,by kernel_rfl,?_⟩
   gi_wp2_with (fail)
   refine ⟨trivial,?_⟩
   refine (callsIn_wide.2 A2.out).mono ?_
   intro e w1 hff
   obtain ⟨a1,cap1,rfl,k1,far⟩:=hff.far
   have K1:=gh ((KA2).out.trans k1)
   have FAR:=gh (far X r (fun k hk=>HX.out k (Nat.le_trans (KA2).out.size hk)) (Nat.lt_of_lt_of_le HRL.out (KA2).out.size))
   clear hff k1 far
   gi_wp2_with (fail)
   refine ⟨Wd.mem (K1.out.mono (fun _ _ e=>e.elim)),?_⟩
   refine al [8] (by kernel_rfl) (fun i hi=>?_)
   obtain rfl:i=8:=by simpa using hi
   refine ⟨_,#[true,true,true,true,true,true,true,true,true,false,false,false,false,false],rfl,by kernel_rfl,?_⟩
   gi_wp2_with (fail)
   refine ⟨trivial,?_⟩
   obtain ⟨x2,ex,eo,hx2⟩:=recM_r X w1 r s 3 a1 ws _ cap1 rfl (H.out.kept K1.out) FAR.out z ok s' E2.out
   refine (callsIn_wide.2 hx2).mono ?_
   rintro e w3 ⟨rfl,d3⟩
   have D3:=gh (Ran.behind (KV.out.trans K1.out) d3)
   have T3:Hid (Td (fun k=>k=r) V w3):=gh (Ran.behind K1.out d3).2
   have EX:=gh ex
   clear d3 hx2 ex eo
   gi_wp2_with (fail)
   refine ⟨Wd.mem T3.out,?_⟩
   refine aq 9 #[true,true,true,true,true,true,true,true,true,true,false,false,false,false] rfl rfl (by kernel_rfl) (by kernel_rfl) (Wd.mem T3.out) ?_
   go_big_quiet_step (fail)
   refine wpQuiet_nil ?_
   refine aq 10 #[true,true,true,true,true,true,true,true,true,true,true,false,false,false] rfl rfl (by kernel_rfl) (by kernel_rfl) (Wd.mem T3.out) ?_
   go_big_quiet_step (fail)
   refine wpQuiet_nil ?_
   refine aq 11 #[true,true,true,true,true,true,true,true,true,true,true,true,false,false] rfl rfl (by kernel_rfl) (by kernel_rfl) (Wd.mem T3.out) ?_
   go_big_quiet_step (fail)
   refine wpQuiet_nil ?_
   refine aq 12 #[true,true,true,true,true,true,true,true,true,true,true,true,true,false] rfl rfl (by kernel_rfl) (by kernel_rfl) (Wd.mem T3.out) ?_
   go_big_quiet_step (fail)
   refine wpQuiet_nil ?_
   refine aq 13 #[true,true,true,true,true,true,true,true,true,true,true,true,true,true] rfl rfl (by kernel_rfl) (by kernel_rfl) (Wd.mem T3.out) ?_
   go_big_quiet_step (fail)
   refine wpQuiet_nil ?_
   refine adone (by kernel_rfl) ?_
   go_wp2_with (fail)
   refine (ofr_c 3 x2 z EX.out _).mono ?_
   rintro e w4 ⟨rfl,rfl⟩
   go_wp2
   go_ret2
   exact ⟨rfl,D3.out,recM_on' E2.out,(recM_on' E2.out).ok OK.out⟩
 ·rw [if_neg h2] at he
  have g2:decide (2≤n)=false:=by simp;omega
  by_cases h1:n=1
  ·subst h1
   rw [if_pos rfl] at he
   have HRL:=gh h.lt
   have H:Hid (RunAt (fun k=>X k∧k < W.heap.size) W r s):=gh (h.to fun k a c=>⟨a,c⟩)
   have HX:=gh hX
   obtain ⟨ys,s1,hg⟩:∃ ys s1,Rn.gatherF N s t 0 1 []=(ys,s1):=⟨_,_,rfl⟩
   rw [hg] at he
   have HE:=gh he
   have HG:=gh hg
   clear h ho hX hN hl he hg
   go_enter Tryz.func193,Tryz.ntmps193
   go_wp2_with (fail)
   refine (gather_r (lo:=W.heap.size) (fun k h=>h.2) r N W s t 0 1 _ [] HN.out H.out OK.out (PRow.nil _ _ _) (by have:=HL.out;simp;omega) (Nat.le_refl _) ys s1 HG.out).mono ?_
   rintro e W1 ⟨v,rfl,PR,G,hlen⟩
   obtain ⟨a,cap,rfl,pr,hc,hcm,ha0,hab⟩:=PR.reads
   have T1:Hid (Td (fun k=>k=r) W W1):=gh (G.turned.mono fun k h1 h2=>h2.elim id (fun h3=>absurd h1 (Nat.not_lt.2 h3)))
   have ON1:=gh G.on
   have OK1:=gh G.ok
   have R1:Hid (RunAt X W1 r s1):=gh (G.lies.to fun k h _=>h.1)
   have HLEN:Hid (ys.length≤16384):=gh (by have:=HL.out;simp at hlen;omega)
   obtain ⟨ta,tc,wa,wc,RI⟩:=G.lies
   obtain ⟨_,_,c2,_,_,ff⟩:=RI.cells
   have PRD:=gh pr
   have HC:=gh hc
   have HCM:=gh hcm
   have HAB:Hid (∀ ad,a=some ad→ad.block≠r):=gh (fun ad e=>by have:=hab ad e;have:=HRL.out;omega)
   obtain ⟨M,hM⟩:∃ M,ys.length=M:=⟨_,rfl⟩
   have hM':=hM
   have HXN:Hid (∀ k,W1.heap.size≤k→X k):=gh (fun k h=>HX.out k (Nat.le_trans T1.out.size h))
   rw [hM] at HLEN HC
   have HMM:=gh hM
   have HE1:=gh HE.out
   rw [hM] at HE1
   rw [hM']
   clear RI ff PR G hlen pr hc hcm ha0 hab hM hM' HE
   cases hof:s1.off with
   | true=>
    rw [hof] at c2
    have hz:=HE1.out
    rw [if_pos hof] at hz
    obtain ⟨hz1,rfl⟩:=Prod.mk.inj hz
    obtain ⟨rfl,rfl⟩:=Prod.mk.inj hz1
    clear hz HE1 hof hz1
    go_wp2
    go_ret2
    exact ⟨rfl,⟨R1.out,T1.out⟩,ON1.out,OK1.out⟩
   | false=>
    rw [hof] at c2
    have HGR:Hid (Rn.growF (M+1) s1 ys=((z,ok),s')):=gh (by
     have:=HE1.out
     rw [if_neg (by rw [hof];decide)] at this
     exact this)
    clear hof HE1
    go_wp2_with (fail)
    refine (grow_r (M+1) X W1 r s1 a ys M cap R1.out HXN.out PRD.out HMM.out HC.out HCM.out HLEN.out (by omega) (fun _=>HAB.out) z ok s' HGR.out).mono ?_
    rintro e W2 ⟨rfl,R2⟩
    have D2:Hid (Ran X W r s' W2):=gh ⟨R2.1,T1.out.trans R2.2 (fun _ e=>e) (fun _ _ e=>e)⟩
    have ON2:Hid (Rn.On s s'):=gh (ON1.out.trans (growF_on' HGR.out))
    clear R2
    go_wp2
    go_ret2
    exact ⟨rfl,D2.out,ON2.out,ON2.out.ok OK.out⟩
  ·rw [if_neg h1] at he
   have g1:(n == 1)=false:=by simp [h1]
   have HE:=gh he
   have H:=gh h
   have HX:=gh hX
   obtain ⟨ta,tc,wa,wc,RI⟩:=h
   obtain ⟨_,_,c2,_,_,ff⟩:=RI.cells
   clear RI ff ho hX hN hl he
   cases hof:s.off with
   | true=>
    rw [hof] at c2
    have hz:=HE.out
    rw [if_pos hof] at hz
    obtain ⟨hz1,rfl⟩:=Prod.mk.inj hz
    obtain ⟨rfl,rfl⟩:=Prod.mk.inj hz1
    clear hz HE hof hz1
    go_enter Tryz.func193,Tryz.ntmps193
    go_wp2
    go_ret2
    exact ⟨rfl,Went.refl H.out OK.out⟩
   | false=>
    rw [hof] at c2
    have HGR:Hid (Rn.growF 1 s []=((z,ok),s')):=gh (by
     have:=HE.out
     rw [if_neg (by rw [hof];decide)] at this
     exact this)
    clear hof HE
    go_enter Tryz.func193,Tryz.ntmps193
    go_wp2_with (fail)
    refine (grow_r 1 X W r s none [] 0 0 H.out HX.out (.inl rfl) rfl (Nat.le_refl _) (Nat.zero_le _) (by omega) (by omega) (fun h=>absurd rfl h) z ok s' HGR.out).mono ?_
    rintro e W2 ⟨rfl,R2⟩
    have R:=gh R2
    clear R2
    go_wp2
    go_ret2
    exact ⟨rfl,R.out,growF_on' HGR.out,(growF_on' HGR.out).ok OK.out⟩
end
end Go.Proofs.YtnjkmmmfhponlaaGreat
