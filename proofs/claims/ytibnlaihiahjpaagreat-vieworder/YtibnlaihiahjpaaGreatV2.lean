/-
  What the proof of YtibnlaihiahjpaaGreatViewOrderProof goes by, part 2 of 11: contracts and plain facts; each part begins with its own sentence. No conditions beyond each theorem's own.
-/
import Derived.Test.YtibnlaihiahjpaaGreatV1
import Derived.Lib.BitFns
import Derived.Lib.ItoaNum
import Derived.Test.YtibnlaihiahjpaaGreatRows
import Derived.WalkKit
import Derived.WalkSmall
import Derived.BigQuiet
import Derived.Deep.QuietTactic
import Derived.WalkLawsBesides
import Derived.ProofKit
import Derived.OpenShut
import Derived.ShutString
import Derived.LoopTactic
import Derived.Shelf.Small.Bits
import Derived.Shelf.Strconv.Itoa0
import Derived.Shelf.Bits.Mul64
import Derived.Deep.OwnRows
import Derived.RangeFuncNested
import Derived.RangeFuncBound
import Derived.RangeFuncLeaves
namespace Go.Proofs.YtibnlaihiahjpaaGreat
open Go.RowKit
section
variable {X:Nat->Prop}
theorem Ran.behind {W W' W'':World} {r:Nat} {s:Rn} (k:Kept W W') (h:Ran X W' r s W''):Ran X W r s W'':=⟨h.1,Kept.then k h.2⟩
theorem a0K.lt {W:World} {r:Nat} {s:Rn} (h:a0K X W r s):r < W.heap.size:=by
 obtain ⟨ta,tc,wa,wc,h⟩:=h;exact (Array.getElem?_eq_some_iff.1 h.box).1
theorem Reads.far {W W':World} {r:Nat} {s:Rn} {a:Option Addr} {zs:List Int} (hX:∀ k,W.heap.size<=k->X k) (h:a0K X W r s) (hr:Reads W' a zs) (hz:zs≠[]) (hs:zs.length<=maxLen) (hn:∀ ad,a=some ad->W.heap.size<=ad.block):Far X W' r a zs:=by
 refine ⟨hr,fun ad e=>⟨⟨hX _ (hn ad e),?_⟩,?_⟩,hs⟩
 ·cases zs with
  | nil=>exact absurd rfl hz
  | cons z zs=>
   obtain ⟨bl,off,e',_,cy⟩:=hr.at (j:=0) (z:=z) rfl;rw [e] at e';cases e';unfold World.cell? at cy;cases hh:W'.heap[bl]? with
   | none=>rw [hh] at cy;simp at cy
   | some o=>exact (Array.getElem?_eq_some_iff.1 hh).1
 ·have:=hn ad e
  have:=h.lt
  omega
theorem i0P (w:World) (g p k v:Int):Calls Tryz.prog 77 #[.int .i64 g,.int .i64 p,.int .i64 k,.int .i64 v] w (e0H [g,p,k,v,0] w):=by
 go_enter Tryz.func77,Tryz.ntmps77;go_wp2;go_ret;exact ⟨_,rfl,f0S w 2 [g,p,k,v,0] _ (Nat.le_refl _) (by simp),Td.alloc _ _ _⟩
def Rn.dcss (s:Rn) (g p old x:Int):Int × Rn:=
 let m:=s.make [g,p,old,x,0]
 if 0 < m.1 then
  let c:=({ m.2 with rc:=m.1 }:Rn).cas p old (Rf.ofZ 5 m.1)
  if c.1=true then
   let q:=c.2.read g
   let d:=q.2.cas (wrap64 (m.1+4)) 0 (if q.1=0 then 1 else 2)
   let o:=d.2.read (wrap64 (m.1+4))
   if o.1=1 then (1,(o.2.cas p (Rf.ofZ 5 m.1) x).2) else (2,(o.2.cas p (Rf.ofZ 5 m.1) old).2)
  else (0,c.2)
 else (3,m.2)
theorem Ran.record {W W':World} {r:Nat} {s:Rn} (h:Ran X W r s W') (x:Int):Ran X W r { s with rc:=x } (W'.setCell ⟨r,8,none⟩ (.int .i64 x)):=by
 obtain ⟨⟨ta,tc,wa,wc,h1⟩,h2⟩:=h;have t:Td (fun k=>k=r) W' (W'.setCell ⟨r,8,none⟩ (.int .i64 x)):=Td.setCell (R:=fun k=>k=r) _ _ _ rfl;refine ⟨⟨ta,tc,wa,wc,h1.put t ?_ rfl h1.at_le (h1.next.turned t)⟩,h2.trans t (fun _ e=>e) (fun _ _ e=>e)⟩;have hb:=h1.box;simp [World.setCell,Array.getElem?_modify,hb,d0G]
theorem m0M (W:World) (r:Nat) (s:Rn) (g p old x:Int) (h:a0K X W r s) (hX:∀ k,W.heap.size<=k->X k) (z:Int) (s':Rn) (e1:s.dcss g p old x=(z,s')) :
  Calls Tryz.prog 157 #[.pointer (some ⟨r,0,none⟩),.int .i64 g,.int .i64 p,.int .i64 old,.int .i64 x] W fun e W'=>e=.returned (.int .i64 z)/\Ran X W r s' W':=by
 have H:=gh h;have HX:=gh hX;clear hX;obtain ⟨m,s1,hm⟩:∃ m s1,s.make [g,p,old,x,0]=(m,s1):=⟨_,_,rfl⟩;have HM:=gh hm;unfold Rn.dcss at e1;simp only [hm] at e1;obtain ⟨me,hme⟩:∃ me,Rf.ofZ 5 m=me:=⟨_,rfl⟩;have HE:=gh hme;rw [hme] at e1
 by_cases hm0:0 < m
 ·rw [if_pos hm0] at e1;obtain ⟨c,s2,hc⟩:∃ c s2,({ s1 with rc:=m }:Rn).cas p old me=(c,s2):=⟨_,_,rfl⟩;have HC:=gh hc;rw [hc] at e1;have d0:(decide (0 < m))=true:=by simp [hm0]
  cases c with
  | false=>
   simp only [Bool.false_eq_true,if_false] at e1;cases e1;clear h hm hme hc;go_enter Tryz.func157,Tryz.ntmps157;go_wp2_with (fail);refine (i0P _ g p old x).mono ?_;intro e W0 hF;obtain ⟨fa,fc,rfl,hr,hc1,hc2,hn,_,hk⟩:=hF.form;have HFar:=gh (Reads.far HX.o H.o hr (by simp) (by simp [maxLen]) hn);have HK:=gh hk;clear hF hr hn hk;go_wp2_with (fail);refine (i0W _ r s fa 5 fc [g,p,old,x,0] (H.o.kept HK.o) HFar.o rfl m s1 HM.o).mono ?_;rintro e W1 ⟨rfl,R1⟩
   replace R1:=Ran.behind HK.o R1
   obtain ⟨ta,tc,wa,wc,RI⟩:=R1.1;obtain ⟨_,_,_,c8,_,f⟩:=RI.cells;have f8:=f 8;clear RI f;go_wp2_with (fail);refine (c0Y 5 m me HE.o _).mono ?_;rintro e w' ⟨rfl,rfl⟩;go_wp2_with (fail);refine (d0E _ r _ p old me (R1.record m).1 false s' HC.o).mono ?_;rintro e W2 ⟨rfl,R2⟩;go_wp2;go_ret;exact ⟨rfl,(R1.record m).trans R2⟩
  | true=>
   simp only [if_true] at e1;obtain ⟨q,s3,hq⟩:∃ q s3,s2.read g=(q,s3):=⟨_,_,rfl⟩;have HQ:=gh hq;rw [hq] at e1;obtain ⟨d,s4,hd⟩:∃ d s4,s3.cas (wrap64 (m+4)) 0 (if q=0 then 1 else 2)=(d,s4):=⟨_,_,rfl⟩;rw [hd] at e1;obtain ⟨o,s5,ho⟩:∃ o s5,s4.read (wrap64 (m+4))=(o,s5):=⟨_,_,rfl⟩;rw [ho] at e1;have HO:=gh ho
   by_cases hq0:q=0
   ·rw [if_pos hq0] at hd;subst hq0;have HD:=gh hd
    by_cases ho1:o=1
    ·subst ho1;simp only [if_true] at e1;obtain ⟨y,hy⟩:∃ y,s5.cas p me x=(y,s'):=⟨(s5.cas p me x).1,by cases e1;rfl⟩;have ez:z=1:=by cases e1;rfl
     have HY:=gh hy;subst ez;clear h hm hme hc hq hd ho hy e1;go_enter Tryz.func157,Tryz.ntmps157;go_wp2_with (fail);refine (i0P _ g p old x).mono ?_;intro e W0 hF;obtain ⟨fa,fc,rfl,hr,hc1,hc2,hn,_,hk⟩:=hF.form;have HFar:=gh (Reads.far HX.o H.o hr (by simp) (by simp [maxLen]) hn);have HK:=gh hk;clear hF hr hn hk;go_wp2_with (fail);refine (i0W _ r s fa 5 fc [g,p,old,x,0] (H.o.kept HK.o) HFar.o rfl m s1 HM.o).mono ?_;rintro e W1 ⟨rfl,R1⟩
     replace R1:=Ran.behind HK.o R1
     obtain ⟨ta,tc,wa,wc,RI⟩:=R1.1;obtain ⟨_,_,_,c8,_,f⟩:=RI.cells;have f8:=f 8;clear RI f;go_wp2_with (fail);refine (c0Y 5 m me HE.o _).mono ?_;rintro e w' ⟨rfl,rfl⟩;go_wp2_with (fail);refine (d0E _ r _ p old me (R1.record m).1 true s2 HC.o).mono ?_;rintro e W2 ⟨rfl,R2⟩;go_wp2_with (fail);refine (a0D _ r s2 g R2.1 0 s3 HQ.o).mono ?_;rintro e W3 ⟨rfl,R3⟩;go_wp2_with (fail);refine (d0E _ r s3 (wrap64 (m+4)) 0 1 R3.1 d s4 HD.o).mono ?_;rintro e W4 ⟨rfl,R4⟩;go_wp2_with (fail);refine (a0D _ r s4 (wrap64 (m+4)) R4.1 1 s5 HO.o).mono ?_;rintro e W5 ⟨rfl,R5⟩;go_wp2_with (fail);refine (d0E _ r s5 p me x R5.1 y s' HY.o).mono ?_;rintro e W6 ⟨rfl,R6⟩;go_wp2;go_ret;exact ⟨rfl,(((((R1.record m).trans R2).trans R3).trans R4).trans R5).trans R6⟩
    ·have g1:(o == 1)=false:=by simp [ho1]
     have g2:(o != 1)=true:=by simp [ho1]
     rw [if_neg ho1] at e1;obtain ⟨y,hy⟩:∃ y,s5.cas p me old=(y,s'):=⟨(s5.cas p me old).1,by cases e1;rfl⟩;have ez:z=2:=by cases e1;rfl
     have HY:=gh hy;subst ez;clear h hm hme hc hq hd ho hy e1;go_enter Tryz.func157,Tryz.ntmps157;go_wp2_with (fail);refine (i0P _ g p old x).mono ?_;intro e W0 hF;obtain ⟨fa,fc,rfl,hr,hc1,hc2,hn,_,hk⟩:=hF.form;have HFar:=gh (Reads.far HX.o H.o hr (by simp) (by simp [maxLen]) hn);have HK:=gh hk;clear hF hr hn hk;go_wp2_with (fail);refine (i0W _ r s fa 5 fc [g,p,old,x,0] (H.o.kept HK.o) HFar.o rfl m s1 HM.o).mono ?_;rintro e W1 ⟨rfl,R1⟩
     replace R1:=Ran.behind HK.o R1
     obtain ⟨ta,tc,wa,wc,RI⟩:=R1.1;obtain ⟨_,_,_,c8,_,f⟩:=RI.cells;have f8:=f 8;clear RI f;go_wp2_with (fail);refine (c0Y 5 m me HE.o _).mono ?_;rintro e w' ⟨rfl,rfl⟩;go_wp2_with (fail);refine (d0E _ r _ p old me (R1.record m).1 true s2 HC.o).mono ?_;rintro e W2 ⟨rfl,R2⟩;go_wp2_with (fail);refine (a0D _ r s2 g R2.1 0 s3 HQ.o).mono ?_;rintro e W3 ⟨rfl,R3⟩;go_wp2_with (fail);refine (d0E _ r s3 (wrap64 (m+4)) 0 1 R3.1 d s4 HD.o).mono ?_;rintro e W4 ⟨rfl,R4⟩;go_wp2_with (fail);refine (a0D _ r s4 (wrap64 (m+4)) R4.1 o s5 HO.o).mono ?_;rintro e W5 ⟨rfl,R5⟩;go_wp2_with (fail);refine (d0E _ r s5 p me old R5.1 y s' HY.o).mono ?_;rintro e W6 ⟨rfl,R6⟩;go_wp2;go_ret;exact ⟨rfl,(((((R1.record m).trans R2).trans R3).trans R4).trans R5).trans R6⟩
   ·rw [if_neg hq0] at hd;have HD:=gh hd;have g3:(q == 0)=false:=by simp [hq0]
    have g4:(q != 0)=true:=by simp [hq0]
    by_cases ho1:o=1
    ·subst ho1;simp only [if_true] at e1;obtain ⟨y,hy⟩:∃ y,s5.cas p me x=(y,s'):=⟨(s5.cas p me x).1,by cases e1;rfl⟩;have ez:z=1:=by cases e1;rfl
     have HY:=gh hy;subst ez;clear h hm hme hc hq hd ho hy e1;go_enter Tryz.func157,Tryz.ntmps157;go_wp2_with (fail);refine (i0P _ g p old x).mono ?_;intro e W0 hF;obtain ⟨fa,fc,rfl,hr,hc1,hc2,hn,_,hk⟩:=hF.form;have HFar:=gh (Reads.far HX.o H.o hr (by simp) (by simp [maxLen]) hn);have HK:=gh hk;clear hF hr hn hk;go_wp2_with (fail);refine (i0W _ r s fa 5 fc [g,p,old,x,0] (H.o.kept HK.o) HFar.o rfl m s1 HM.o).mono ?_;rintro e W1 ⟨rfl,R1⟩
     replace R1:=Ran.behind HK.o R1
     obtain ⟨ta,tc,wa,wc,RI⟩:=R1.1;obtain ⟨_,_,_,c8,_,f⟩:=RI.cells;have f8:=f 8;clear RI f;go_wp2_with (fail);refine (c0Y 5 m me HE.o _).mono ?_;rintro e w' ⟨rfl,rfl⟩;go_wp2_with (fail);refine (d0E _ r _ p old me (R1.record m).1 true s2 HC.o).mono ?_;rintro e W2 ⟨rfl,R2⟩;go_wp2_with (fail);refine (a0D _ r s2 g R2.1 q s3 HQ.o).mono ?_;rintro e W3 ⟨rfl,R3⟩;go_wp2_with (fail);refine (d0E _ r s3 (wrap64 (m+4)) 0 2 R3.1 d s4 HD.o).mono ?_;rintro e W4 ⟨rfl,R4⟩;go_wp2_with (fail);refine (a0D _ r s4 (wrap64 (m+4)) R4.1 1 s5 HO.o).mono ?_;rintro e W5 ⟨rfl,R5⟩;go_wp2_with (fail);refine (d0E _ r s5 p me x R5.1 y s' HY.o).mono ?_;rintro e W6 ⟨rfl,R6⟩;go_wp2;go_ret;exact ⟨rfl,(((((R1.record m).trans R2).trans R3).trans R4).trans R5).trans R6⟩
    ·have g1:(o == 1)=false:=by simp [ho1]
     have g2:(o != 1)=true:=by simp [ho1]
     rw [if_neg ho1] at e1;obtain ⟨y,hy⟩:∃ y,s5.cas p me old=(y,s'):=⟨(s5.cas p me old).1,by cases e1;rfl⟩;have ez:z=2:=by cases e1;rfl
     have HY:=gh hy;subst ez;clear h hm hme hc hq hd ho hy e1;go_enter Tryz.func157,Tryz.ntmps157;go_wp2_with (fail);refine (i0P _ g p old x).mono ?_;intro e W0 hF;obtain ⟨fa,fc,rfl,hr,hc1,hc2,hn,_,hk⟩:=hF.form;have HFar:=gh (Reads.far HX.o H.o hr (by simp) (by simp [maxLen]) hn);have HK:=gh hk;clear hF hr hn hk;go_wp2_with (fail);refine (i0W _ r s fa 5 fc [g,p,old,x,0] (H.o.kept HK.o) HFar.o rfl m s1 HM.o).mono ?_;rintro e W1 ⟨rfl,R1⟩
     replace R1:=Ran.behind HK.o R1
     obtain ⟨ta,tc,wa,wc,RI⟩:=R1.1;obtain ⟨_,_,_,c8,_,f⟩:=RI.cells;have f8:=f 8;clear RI f;go_wp2_with (fail);refine (c0Y 5 m me HE.o _).mono ?_;rintro e w' ⟨rfl,rfl⟩;go_wp2_with (fail);refine (d0E _ r _ p old me (R1.record m).1 true s2 HC.o).mono ?_;rintro e W2 ⟨rfl,R2⟩;go_wp2_with (fail);refine (a0D _ r s2 g R2.1 q s3 HQ.o).mono ?_;rintro e W3 ⟨rfl,R3⟩;go_wp2_with (fail);refine (d0E _ r s3 (wrap64 (m+4)) 0 2 R3.1 d s4 HD.o).mono ?_;rintro e W4 ⟨rfl,R4⟩;go_wp2_with (fail);refine (a0D _ r s4 (wrap64 (m+4)) R4.1 o s5 HO.o).mono ?_;rintro e W5 ⟨rfl,R5⟩;go_wp2_with (fail);refine (d0E _ r s5 p me old R5.1 y s' HY.o).mono ?_;rintro e W6 ⟨rfl,R6⟩;go_wp2;go_ret;exact ⟨rfl,(((((R1.record m).trans R2).trans R3).trans R4).trans R5).trans R6⟩
 ·rw [if_neg hm0] at e1;cases e1;have d0:(decide (0 < m))=false:=by simp;omega
  clear h hm hme;go_enter Tryz.func157,Tryz.ntmps157;go_wp2_with (fail);refine (i0P _ g p old x).mono ?_;intro e W0 hF;obtain ⟨fa,fc,rfl,hr,hc1,hc2,hn,_,hk⟩:=hF.form;have HFar:=gh (Reads.far HX.o H.o hr (by simp) (by simp [maxLen]) hn);have HK:=gh hk;clear hF hr hn hk;go_wp2_with (fail);refine (i0W _ r s fa 5 fc [g,p,old,x,0] (H.o.kept HK.o) HFar.o rfl m s' HM.o).mono ?_;rintro e W1 ⟨rfl,R1⟩
  replace R1:=Ran.behind HK.o R1
  go_wp2;go_ret;exact ⟨rfl,R1⟩
end
namespace Pb
open Go
def gapZ (a b:Int):Int:=if b < a then 0 else b - a
def shareZ (p w n:Int):Int:=if 1<=w/\1<=n/\n<=65536 then min p w * n / w else 0
def sqN:Nat->Nat
 | 0=>0
 | n+1=>if (sqN n+1) * (sqN n+1)<=n+1 then sqN n+1 else sqN n
def b0H (n:Int):Int:=(sqN n.toNat:Int)
theorem m0X (n:Nat):sqN n * sqN n<=n/\n < (sqN n+1) * (sqN n+1):=by
 induction n with
 | zero=>simp [sqN]
 | succ n ih=>
  obtain ⟨h1,h2⟩:=ih;unfold sqN
  split
  ·rename_i h;refine ⟨h,?_⟩;generalize sqN n=r at h1 h2 h;have e:(r+1+1) * (r+1+1)=(r+1) * (r+1)+2 * r+3:=by
    simp only [Nat.mul_add,Nat.add_mul];omega
   omega
  ·rename_i h;exact ⟨by omega,by omega⟩
theorem g0W {a b:Int} (ha:0<=a) (h:a<=b):a * a<=b * b:=by
 have h1:a * a<=a * b:=Int.mul_le_mul_of_nonneg_left h ha;have h2:a * b<=b * b:=Int.mul_le_mul_of_nonneg_right h (by omega);omega
theorem c0Z {a b:Int} (hb:0<=b) (h:a * a < b * b):a < b:=by
 rcases Int.lt_or_le a b with g | g
 ·exact g
 ·have:=g0W hb g
  omega
theorem f0T {n:Int} (h:0<=n):0<=b0H n/\b0H n * b0H n<=n/\n < (b0H n+1) * (b0H n+1):=by
 obtain ⟨h1,h2⟩:=m0X n.toNat;unfold b0H;refine ⟨by omega,?_,?_⟩
 ·rw [<- Int.natCast_mul];omega
 ·have e:((sqN n.toNat:Int)+1) * ((sqN n.toNat:Int)+1)=(((sqN n.toNat+1) * (sqN n.toNat+1):Nat):Int):=by
   rw [Int.natCast_mul,Int.natCast_add];rfl
  rw [e];omega
theorem k0B {n r:Int} (hr:0<=r) (h1:r * r<=n) (h2:n < (r+1) * (r+1)):b0H n=r:=by
 have hn:0<=n:=Int.le_trans (Int.mul_nonneg hr hr) h1;obtain ⟨g0,g1,g2⟩:=f0T hn;have a1:=c0Z (a:=r) (b:=b0H n+1) (by omega) (by omega);have a2:=c0Z (a:=b0H n) (b:=r+1) (by omega) (by omega);omega
theorem o0C {n:Int} (h:n < 1):b0H n=0:=by
 have e:n.toNat=0:=by omega
 unfold b0H;rw [e];rfl
theorem le_quo {n t:Int} (ht:0 < t):t<=n / t↔t * t<=n:=Int.le_ediv_iff_mul_le ht
end Pb
namespace Pb
def Up (q:List Int):Prop:=q.length<=65536/\q.Pairwise (· < ·)
instance (q:List Int):Decidable (Up q):=inferInstanceAs (Decidable (_/\_))
def upB (q:List Int):Bool:=decide (Up q)
def cnt (q:List Int) (k:Int):Nat:=q.countP (fun z=>decide (z<=k))
def guessZ (a b k n:Int):Int:=if 2<=n/\n<=65536/\a<=k/\k < b then 1+shareZ (gapZ a k) (gapZ a b) (n - 1) else 0
theorem l0S {q:List Int} {k:Nat} {z:Int} (h:q[k]? = some z):q.take (k+1)=q.take k++[z]:=by
 obtain ⟨h1,rfl⟩:=List.getElem?_eq_some_iff.1 h;exact List.take_succ_eq_append_getElem h1
theorem pw_snoc {q:List Int} {k:Nat} {y z:Int} (h:(q.take (k+1)).Pairwise (· < ·)) (hy:q[k]? = some y) (hz:q[k+1]? = some z) (hyz:y < z):(q.take (k+2)).Pairwise (· < ·):=by
 rw [l0S hz,List.pairwise_append];refine ⟨h,by simp,fun a ha b hb=>?_⟩;obtain rfl:b=z:=by simpa using hb
 rw [l0S hy] at h ha;rw [List.pairwise_append] at h;rcases List.mem_append.1 ha with ha | ha
 ·have:=h.2.2 a ha y (by simp)
  omega
 ·obtain rfl:a=y:=by simpa using ha
  exact hyz
theorem pw_not {q:List Int} {k:Nat} {y z:Int} (hy:q[k]? = some y) (hz:q[k+1]? = some z) (hyz:z<=y):¬ q.Pairwise (· < ·):=by
 intro h;obtain ⟨h1,e1⟩:=List.getElem?_eq_some_iff.1 hy;obtain ⟨h2,e2⟩:=List.getElem?_eq_some_iff.1 hz
 have:=List.pairwise_iff_getElem.1 h k (k+1) h1 h2 (by omega)
 omega
theorem up_lt {q:List Int} (h:q.Pairwise (· < ·)) {i j:Nat} {y z:Int} (hy:q[i]? = some y) (hz:q[j]? = some z) (hij:i < j):y < z:=by
 obtain ⟨h1,e1⟩:=List.getElem?_eq_some_iff.1 hy;obtain ⟨h2,e2⟩:=List.getElem?_eq_some_iff.1 hz
 have:=List.pairwise_iff_getElem.1 h i j h1 h2 hij
 omega
theorem s0S {a b k n:Int} (h:¬ (2<=n/\n<=65536/\a<=k/\k < b)):guessZ a b k n=0:=if_neg h
end Pb
namespace Pb
theorem _root_.Go.Proofs.YtibnlaihiahjpaaGreat.Reads.two {w:World} {a:Option Addr} {zs:List Int} (h:Reads w a zs) {i j:Nat} {y z:Int} (hy:zs[i]? = some y) (hz:zs[j]? = some z) :
  ∃ bl off,a=some ⟨bl,off,none⟩/\bl < w.heap.size/\w.cell? ⟨bl,off+i,none⟩=some (.int .i64 y)/\w.cell? ⟨bl,off+j,none⟩=some (.int .i64 z):=by
 obtain ⟨bl,off,rfl,h1,h2⟩:=h.at hy;obtain ⟨bl',off',e,_,h4⟩:=h.at hz;cases e;exact ⟨bl,off,rfl,h1,h2,h4⟩
theorem up_false {q:List Int} (h:¬ q.Pairwise (· < ·)):upB q=false:=by
 simp only [upB,decide_eq_false_iff_not];exact fun g=>h g.2
theorem up_long {q:List Int} (h:65536 < q.length):upB q=false:=by
 simp only [upB,decide_eq_false_iff_not];exact fun g=>by have:=g.1;omega
theorem up_true {q:List Int} (h0:q.length<=65536) (h:q.Pairwise (· < ·)):upB q=true:=by
 simp only [upB,decide_eq_true_eq];exact ⟨h0,h⟩
def PwTo (q:List Int) (n:Nat):Prop:=(q.take n).Pairwise (· < ·)
theorem PwTo.start (q:List Int):PwTo q 1:=by
 unfold PwTo;cases q with
 | nil=>simp
 | cons x q=>simp
set_option maxRecDepth 100000 in
theorem right_c (w:World) (a:Option Addr) (q:List Int) (cap:Nat) (hr:Reads w a q) (hc:q.length<=cap) (hm:cap<=maxLen) :
  Calls Tryz.prog 184 #[.slice a q.length cap] w fun e w'=>e=.returned (.bool (upB q))/\∃ m,w'=w.drewN m:=by
 have HR:=gh hr;clear hr;have hm':(q.length:Int)<=9223372036854775807:=by unfold maxLen at hm;omega
 clear hm
 by_cases hl:65536 < q.length
 ·rw [up_long hl];have hl':(65536:Int) < (q.length:Int):=by omega
  go_enter Tryz.func184,Tryz.ntmps184;go_wp2;go_ret;exact ⟨rfl,0,rfl⟩
 ·have hl':¬ ((65536:Int) < (q.length:Int)):=by omega
  have HL:Hid (q.length<=65536):=gh (by omega);clear hl;go_enter Tryz.func184,Tryz.ntmps184;go_wp2
  go_loopw [3] (fun i wr=>∃ k d:Nat,(k < q.length∨k=0)/\i=.int .i64 ((k:Int)+1)/\PwTo q (k+1)/\wr=w.drewN d) (fun i _=>q.length+1 - (intOf i).toNat)
  case atStart=>
   exact ⟨0,0,.inr rfl,rfl,.start q,rfl⟩
  case round=>
   obtain ⟨k,d,hk1,rfl,HP,rfl⟩:=hrel
   by_cases hlt:k+1 < q.length
   ·obtain ⟨z,hz⟩:∃ p,q[k+1]? = some p:=⟨_,List.getElem?_eq_getElem hlt⟩;obtain ⟨y,hy⟩:∃ p,q[k]? = some p:=⟨_,List.getElem?_eq_getElem (by omega)⟩;obtain ⟨bl,off,rfl,hbl,g1,g3⟩:=HR.o.two hy hz;have i1:(k:Int)+1 < (q.length:Int):=by omega
    have i3:k+1 < cap:=by omega
    by_cases hyz:y < z
    ·have HP2:Hid (PwTo q (k+1+1)):=pw_snoc HP hy hz hyz;have hzy:¬ (z<=y):=by omega
     clear hz hy hk1 HP hyz;go_wp2;go_quiet (fail);go_wp2;exact ⟨⟨k+1,_,.inl (by omega),by simp,HP2.o,rfl⟩,by simp [intOf];omega⟩
    ·have HF:=gh (up_false (pw_not hy hz (by omega)));have hyz':z<=y:=by omega
     clear hz hy hk1 HP hyz;go_wp2;go_quiet (fail);go_wp2;go_ret;exact ⟨by rw [HF.o];rfl,_,World.drewN_drewN ..⟩
   ·have i1:¬ ((k:Int)+1 < (q.length:Int)):=by omega
    have HF:Hid (upB q=true):=gh (up_true HL.o (by
     have:(q.take (k+1)).Pairwise (· < ·):=HP
     rwa [List.take_of_length_le (by omega)] at this))
    clear HP;go_wp2;go_ret;exact ⟨by rw [HF.o];rfl,_,rfl⟩
end Pb
namespace Pb
open Go.ChangeShapes Go.WideShapes Go.ChangeAt Go.RowKit
theorem wrap_same {a:Int} (h:-9223372036854775808<=a) (h':a<=9223372036854775807):wrap64 a=a:=by
 unfold wrap64;omega
theorem v0M {a b:Int} (ha:-9223372036854775808<=a/\a<=9223372036854775807) (hb:-9223372036854775808<=b/\b<=9223372036854775807) (c:¬ b < a) :
  gapZ a b=IntKind.u64.wrap (IntKind.u64.wrap b - IntKind.u64.wrap a):=by
 simp only [gapZ,if_neg c,IntKind.wrap_u64];omega
theorem gap_r (a b:Int) (ha:(Lit.int .i64 a).wf=true) (hb:(Lit.int .i64 b).wf=true) (w:World) :
  Calls Tryz.prog 209 #[.int .i64 a,.int .i64 b] w fun e w'=>e=.returned (.int .u64 (gapZ a b))/\w=w':=by
 have ha':=bounds_i64 ha;have hb':=bounds_i64 hb;clear ha hb
 by_cases c:b < a
 ·have e:gapZ a b=0:=by simp [gapZ,c]
  rw [e];clear e;go_enter Tryz.func209,Tryz.ntmps209;go_wp2;go_ret;exact ⟨rfl,rfl⟩
 ·rw [v0M ha' hb' c];clear ha' hb';go_enter Tryz.func209,Tryz.ntmps209;go_wp2;go_ret;exact ⟨rfl,rfl⟩
theorem d0Z (k:Nat):(2:Int) ^ k=((2 ^ k:Nat):Int):=by rw [Int.natCast_pow];rfl
theorem r0G {k:Nat} (h:k<=62):wrap64 ((2:Int) ^ k)=((2 ^ k:Nat):Int):=by
 have h1:2 ^ k<=2 ^ 62:=Nat.pow_le_pow_right (by omega) h;have h0:1<=2 ^ k:=Nat.one_le_two_pow;rw [d0Z,wrap_same (by omega) (by omega)]
theorem u0E {k:IntKind} {a b:Int} (h:a=b):Ending.returned (.int k a)=.returned (.int k b):=by rw [h]
theorem bit_i64 (a:Int) (h0:0<=a) (h:a < 9223372036854775808):bits .and .i64 a 1=a % 2:=by
 obtain ⟨n,rfl⟩:=Int.eq_ofNat_of_zero_le h0;have h1:(BitVec.ofInt 64 (n:Int)).toNat=n:=by
  rw [BitVec.ofInt_natCast,BitVec.toNat_ofNat];exact Nat.mod_eq_of_lt (by omega)
 have e:n &&& 1=n % 2:=Nat.and_two_pow_sub_one_eq_mod n 1;show IntKind.i64.wrap ((BitVec.ofInt 64 (n:Int) &&& BitVec.ofInt 64 1).toNat:Int)=_;rw [BitVec.toNat_and,h1];show IntKind.i64.wrap ((n &&& 1:Nat):Int)=_;rw [e];simp only [IntKind.wrap,IntKind.bits,IntKind.signed];simp;omega
theorem s0I {P m x y v:Int} (b c:Int) (h:P * m=x * v+y):P * (2 * m+b)=(2 * x+c) * v+(2 * y+P * b - c * v):=by
 have e1:P * (2 * m+b)=2 * (P * m)+P * b:=by rw [Int.mul_add,Int.mul_left_comm]
 have e2:(2 * x+c) * v=2 * (x * v)+c * v:=by rw [Int.add_mul,Int.mul_assoc]
 omega
theorem share_le {P M x y v:Int} (h:P * M=x * v+y) (hy:0<=y) (hP:P<=v) (hM:0<=M) (hv:0 < v):x<=M:=by
 have h1:P * M<=v * M:=Int.mul_le_mul_of_nonneg_right hP hM;have h2:v * M=M * v:=Int.mul_comm _ _;rcases Int.lt_or_le M x with g | g
 ·have h3:M * v < x * v:=Int.mul_lt_mul_of_pos_right g hv;omega
 ·exact g
theorem u0B {P n x y v:Int} (h:P * n=x * v+y) (hy:0<=y) (hy':y < v):P * n / v=x:=by
 rw [h,Int.add_comm,Int.add_mul_ediv_right _ _ (by omega),Int.ediv_eq_zero_of_lt hy hy'];omega
theorem halves (n:Int) (k:Nat):n / ((2 ^ k:Nat):Int)=2 * (n / ((2 ^ (k+1):Nat):Int))+(n / ((2 ^ k:Nat):Int)) % 2:=by
 have e:((2 ^ (k+1):Nat):Int)=((2 ^ k:Nat):Int) * 2:=by rw [Nat.pow_succ];omega
 rw [e,<- Int.ediv_ediv_of_nonneg (Int.natCast_nonneg _)];omega
theorem n0O {n:Int} (k:Nat) (h0:0<=n):0<=n / ((2 ^ k:Nat):Int)/\n / ((2 ^ k:Nat):Int)<=n:=
 ⟨Int.ediv_nonneg h0 (Int.natCast_nonneg _),Int.ediv_le_self _ h0⟩
theorem i0G {p w n:Int} (h:¬ (1<=w/\1<=n/\n<=65536)):shareZ p w n=0:=by
 simp only [shareZ,if_neg h]
theorem share_r (p v n:Int) (hp:(Lit.int .u64 p).wf=true) (hv:(Lit.int .u64 v).wf=true) (w:World) :
  Calls Tryz.prog 208 #[.int .u64 p,.int .u64 v,.int .i64 n] w fun e w'=>e=.returned (.int .i64 (shareZ p v n))/\w=w':=by
 have hp':=bounds_u64 hp;have hv':=bounds_u64 hv;clear hp hv
 by_cases c1:v=0
 ·rw [i0G (by omega)];subst c1;go_enter Tryz.func208,Tryz.ntmps208;go_wp2;go_ret;exact ⟨rfl,rfl⟩
 ·by_cases c2:n < 1
  ·rw [i0G (by omega)];go_enter Tryz.func208,Tryz.ntmps208;go_wp2;go_ret;exact ⟨rfl,rfl⟩
  ·by_cases c3:65536 < n
   ·rw [i0G (by omega)];go_enter Tryz.func208,Tryz.ntmps208;go_wp2;go_ret;exact ⟨rfl,rfl⟩
   ·obtain ⟨P,hP⟩:∃ P,min p v=P:=⟨_,rfl⟩;have P1:0<=P:=by omega
    have P2:P<=v:=by omega
    obtain ⟨z,ez⟩:∃ z,shareZ p v n=z:=⟨_,rfl⟩;have HE:=gh (show shareZ p v n=z/\min p v=P from ⟨ez,hP⟩);rw [ez];clear ez;go_enter Tryz.func208,Tryz.ntmps208;go_wp2;clear hP
    go_loop [7,8,9] (fun q r b=>∃ (x y:Int) (k:Nat),k<=17/\0<=x/\x<=65536/\0<=y/\y < v/\Hid (P * (n / ((2 ^ k:Nat):Int))=x * v+y)/\q=.int .i64 x/\r=.int .u64 y/\b=.int .i64 ((k:Int) - 1)) (fun _ _ b=>(intOf b+1).toNat)
    case atStart=>
     refine ⟨0,0,17,by omega,by omega,by omega,by omega,by omega,gh ?_,rfl,rfl,rfl⟩;have e:n / ((2 ^ 17:Nat):Int)=0:=Int.ediv_eq_zero_of_lt (by omega) (by omega);rw [e];omega
    case round=>
     obtain ⟨x,y,k,k1,x0,x1,y0,y1,H,rfl,rfl,rfl⟩:=hrel;cases k with
     | zero=>
      have e:x=z:=by
       have h:=H.o;rw [show n / ((2 ^ 0:Nat):Int)=n by simp] at h;have h2:=u0B h y0 y1;have h3:=HE.o;simp only [shareZ,if_pos (show 1<=v/\1<=n/\n<=65536 by omega),h3.2] at h3;omega
      subst e;clear H HE;go_wp2;go_ret;exact ⟨rfl,rfl⟩
     | succ k=>
      clear HE;have hh:=halves n k;obtain ⟨b1,b2⟩:=n0O (n:=n) k (by omega);have hb:=bit_i64 (n / ((2 ^ k:Nat):Int)) (by omega) (by omega);have ep:=d0Z k;have h:=H.o;obtain ⟨m,hm⟩:∃ m,n / ((2 ^ (k+1):Nat):Int)=m:=⟨_,rfl⟩;rw [hm] at h hh;have FIN:∀ (c b x' y':Int),n / ((2 ^ k:Nat):Int) % 2=b->x'=2 * x+c->y'=2 * y+P * b - c * v->0<=y'->y' < v->0<=x'->
        (∃ (x_1 y_1:Int) (k_1:Nat),k_1<=17/\0<=x_1/\x_1<=65536/\0<=y_1/\y_1 < v/\Hid (P * (n / ((2 ^ k_1:Nat):Int))=x_1 * v+y_1)/\Value.int IntKind.i64 x'=Value.int IntKind.i64 x_1/\Value.int IntKind.u64 y'=Value.int IntKind.u64 y_1/\Value.int IntKind.i64 ((k:Int) - 1)=Value.int IntKind.i64 ((k_1:Int) - 1)):=by
       intro c b x' y' hb' hx' hy' hy0 hy1 hx0;rw [hb'] at hh;have h2:=s0I b c h;rw [<- hh,<- hx',<- hy'] at h2;have h3:=share_le h2 hy0 P2 b1 (by omega);exact ⟨x',y',k,by omega,hx0,by omega,hy0,hy1,gh h2,rfl,rfl,rfl⟩
      rw [<- ep] at hb;have FIN2:=gh FIN;clear hh b1 b2 ep h hm H FIN;rcases Int.emod_two_eq (n / ((2 ^ k:Nat):Int)) with hz | ho
      ·rw [d0Z,hz,<- d0Z] at hb;have HZ:=gh hz;clear hz;go_wp2
       ·go_round
        case rel=>exact FIN2.o 1 0 _ _ HZ.o rfl (by omega) (by omega) (by omega) (by omega)
        case measure=>simp [intOf]
       ·go_round
        case rel=>exact FIN2.o 0 0 _ _ HZ.o (by omega) (by omega) (by omega) (by omega) (by omega)
        case measure=>simp [intOf]
      ·rw [d0Z,ho,<- d0Z] at hb;have HZ:=gh ho;clear ho;go_wp2
       ·go_round
        case rel=>exact FIN2.o 2 1 _ _ HZ.o (by omega) (by omega) (by omega) (by omega) (by omega)
        case measure=>simp [intOf]
       ·go_round
        case rel=>exact FIN2.o 1 1 _ _ HZ.o (by omega) (by omega) (by omega) (by omega) (by omega)
        case measure=>simp [intOf]
       ·go_round
        case rel=>exact FIN2.o 1 1 _ _ HZ.o (by omega) (by omega) (by omega) (by omega) (by omega)
        case measure=>simp [intOf]
       ·go_round
        case rel=>exact FIN2.o 0 1 _ _ HZ.o (by omega) (by omega) (by omega) (by omega) (by omega)
        case measure=>simp [intOf]
end Pb
namespace Pb
open Go.ChangeShapes Go.WideShapes Go.ChangeAt Go.RowKit
theorem wf_u64 {a:Int} (h:0<=a) (h':a<=18446744073709551615):(Lit.int .u64 a).wf=true:=by
 have h1:IntKind.min .u64=0:=by decide
 have h2:IntKind.max .u64=18446744073709551615:=by decide
 simp only [Lit.wf,h1,h2,Bool.and_eq_true,decide_eq_true_eq];exact ⟨h,h'⟩
theorem gap_wf {a b:Int} (ha:(Lit.int .i64 a).wf=true) (hb:(Lit.int .i64 b).wf=true):(Lit.int .u64 (gapZ a b)).wf=true:=by
 have ha':=bounds_i64 ha;have hb':=bounds_i64 hb;unfold gapZ
 split
 ·exact wf_u64 (by omega) (by omega)
 ·exact wf_u64 (by omega) (by omega)
theorem share_bound (p v n:Int) (hp:0<=p):0<=shareZ p v n/\shareZ p v n<=65536:=by
 unfold shareZ
 split
 ·rename_i h;have h1:min p v * n<=v * n:=Int.mul_le_mul_of_nonneg_right (by omega) (by omega);have h2:min p v * n / v<=n:=by
   have:=Int.ediv_le_ediv (show 0 < v by omega) h1
   rw [Int.mul_ediv_cancel_left _ (by omega)] at this;exact this
  have h3:0<=min p v * n / v:=Int.ediv_nonneg (Int.mul_nonneg (by omega) (by omega)) (by omega);omega
 ·omega
theorem gap_nonneg (a b:Int):0<=gapZ a b:=by
 unfold gapZ
 split <;> omega
set_option maxRecDepth 100000 in
theorem guess_r (a b k n:Int) (ha:(Lit.int .i64 a).wf=true) (hb:(Lit.int .i64 b).wf=true) (hk:(Lit.int .i64 k).wf=true) (w:World) :
  Calls Tryz.prog 189 #[.int .i64 a,.int .i64 b,.int .i64 k,.int .i64 n] w fun e w'=>e=.returned (.int .i64 (guessZ a b k n))/\∃ m,w'=w.drewN m:=by
 by_cases h:2<=n/\n<=65536/\a<=k/\k < b
 ·have H1:=gh (gap_r a k ha hk);have H2:=gh (gap_r a b ha hb);have H3:=gh (share_r (gapZ a k) (gapZ a b) (n - 1) (gap_wf ha hk) (gap_wf ha hb));have HG:Hid (guessZ a b k n=1+shareZ (gapZ a k) (gapZ a b) (n - 1)):=gh (if_pos h);have hs:=share_bound (gapZ a k) (gapZ a b) (n - 1) (gap_nonneg _ _);generalize shareZ (gapZ a k) (gapZ a b) (n - 1)=s at H3 HG hs;obtain ⟨h1,h2,h3,h4⟩:=h;obtain ⟨hs1,hs2⟩:=hs;clear ha hb hk;go_enter Tryz.func189,Tryz.ntmps189;go_wp2_with (fail);refine (H1.o _).mono ?_;rintro e w' ⟨rfl,rfl⟩;go_wp2_with (fail);refine (H2.o _).mono ?_;rintro e w' ⟨rfl,rfl⟩;go_wp2_with (fail);refine (H3.o _).mono ?_;rintro e w' ⟨rfl,rfl⟩;go_wp2;go_ret;exact ⟨by rw [HG.o];rfl,0,rfl⟩
 ·rw [s0S h]
  by_cases h1:n < 2
  ·clear h;go_enter Tryz.func189,Tryz.ntmps189;go_wp2;go_ret;exact ⟨rfl,0,rfl⟩
  ·by_cases h2:65536 < n
   ·clear h;go_enter Tryz.func189,Tryz.ntmps189;go_wp2;go_ret;exact ⟨rfl,0,rfl⟩
   ·by_cases h3:k < a
    ·clear h;go_enter Tryz.func189,Tryz.ntmps189;go_wp2;go_ret;exact ⟨rfl,0,rfl⟩
    ·have h4:b<=k:=by omega
     clear h;go_enter Tryz.func189,Tryz.ntmps189;go_wp2;go_ret;exact ⟨rfl,0,rfl⟩
end Pb
section
variable {X:Nat->Prop}
namespace Rn
def downF (n k:Int):Nat->Rn->Int × Rn
 | 0,s=>(1,s)
 | i+1,s=>if 1<=i/\s.off=false then (if (s.read (keyZ n ((i:Int)+1))).1<=k then ((i:Int)+1,(s.read (keyZ n ((i:Int)+1))).2) else downF n k i (s.read (keyZ n ((i:Int)+1))).2) else (1,s)
def upF (n k m:Int):Nat->Int->Rn->Int × Rn
 | 0,_,s=>(m - 1,s)
 | c+1,i,s=>if s.off=false then (if k < (s.read (keyZ n i)).1 then (i - 1,(s.read (keyZ n i)).2) else upF n k m c (i+1) (s.read (keyZ n i)).2) else (m - 1,s)
def route (s:Rn) (n k:Int):(Int × Int) × Rn:=
 let x:=s.read n
 let m:=wrap64 (x.1 - 1)
 if m < 1 then ((x.1,0),x.2) else
 let f:=x.2.read (keyZ n 1)
 if k < f.1 then ((x.1,0),f.2) else
 if m=1 then ((x.1,1),f.2) else
 let l:=f.2.read (keyZ n m)
 if l.1<=k then ((x.1,m),l.2) else
 let j:=Pb.guessZ f.1 l.1 k m
 if l.2.off=true∨j < 1 then ((x.1,0),l.2) else
 if 1 < j then
  let y:=l.2.read (keyZ n j)
  if k < y.1 then ((x.1,(downF n k (j - 1).toNat y.2).1),(downF n k (j - 1).toNat y.2).2)
  else ((x.1,(upF n k m (m - (j+1)).toNat (j+1) y.2).1),(upF n k m (m - (j+1)).toNat (j+1) y.2).2)
 else ((x.1,(upF n k m (m - (j+1)).toNat (j+1) l.2).1),(upF n k m (m - (j+1)).toNat (j+1) l.2).2)
theorem r0Z (n k:Int):∀ (i:Nat) (s:Rn),On s (downF n k i s).2
 | 0,s=>On.refl s
 | i+1,s=>by
  unfold downF
  split
  ·split
   ·exact ask_on s _
   ·exact On.trans (ask_on s _) (r0Z n k i _)
  ·exact On.refl s
theorem t0I (n k m:Int):∀ (c:Nat) (i:Int) (s:Rn),On s (upF n k m c i s).2
 | 0,_,s=>On.refl s
 | c+1,i,s=>by
  unfold upF
  split
  ·split
   ·exact ask_on s _
   ·exact On.trans (ask_on s _) (t0I n k m c _ _)
  ·exact On.refl s
theorem route_on (s:Rn) (n k:Int):On (s.read n).2 (s.route n k).2:=by
 unfold route;dsimp only;generalize s.read n=x
 split
 ·exact On.refl _
 ·generalize hf:x.2.read (keyZ n 1)=f;have h1:=read_on hf
  split
  ·exact h1
  ·split
   ·exact h1
   ·generalize hl:f.2.read (keyZ n (wrap64 (x.1 - 1)))=l;have h2:=h1.trans (read_on hl)
    split
    ·exact h2
    ·split
     ·exact h2
     ·split
      ·generalize hy:l.2.read (keyZ n (Pb.guessZ f.1 l.1 k (wrap64 (x.1 - 1))))=y;have h3:=h2.trans (read_on hy)
       split
       ·exact h3.trans (r0Z _ _ _ _)
       ·exact h3.trans (t0I _ _ _ _ _ _)
      ·exact h2.trans (t0I _ _ _ _ _ _)
end Rn
theorem Ran.drawn {W W' W'':World} {r:Nat} {s:Rn} (h:Ran X W r s W') (k:Kept W' W''):Ran X W r s W'':=⟨h.1.kept k,Kept.behind h.2 k⟩
theorem k0V (w:World) (a b k n j:Int) (ha:I64 a) (hb:I64 b) (hk:I64 k) (e1:Pb.guessZ a b k n=j) :
  Calls Tryz.prog 189 #[.int .i64 a,.int .i64 b,.int .i64 k,.int .i64 n] w fun e w'=>e=.returned (.int .i64 j)/\Kept w w':=by
 subst e1;refine (Pb.guess_r a b k n ha.wf hb.wf hk.wf w).mono ?_;rintro e w' ⟨rfl,m,rfl⟩;exact ⟨rfl,Kept.drewN w m⟩
theorem guess_le (a b k n:Int):Pb.guessZ a b k n<=65537:=by
 unfold Pb.guessZ
 split
 ·have:=(Pb.share_bound (Pb.gapZ a k) (Pb.gapZ a b) (n - 1) (Pb.gap_nonneg _ _)).2
  omega
 ·omega
theorem guess_n {a b k n:Int} (h:1<=Pb.guessZ a b k n):n<=65536:=by
 unfold Pb.guessZ at h
 split at h
 ·rename_i h';exact h'.2.1
 ·omega
set_option maxHeartbeats 2000000 in
theorem p0Z (W:World) (r:Nat) (s:Rn) (n k:Int) (h:a0K X W r s) (ho:s.ok) (hk:I64 k) (dd cc:Int) (s':Rn) (e1:s.route n k=((dd,cc),s')) :
  Calls Tryz.prog 158 #[.pointer (some ⟨r,0,none⟩),.int .i64 n,.int .i64 k] W fun e W'=>e=.returned (.tuple #[.int .i64 dd,.int .i64 cc])/\Ran X W r s' W':=by
 have H:=gh h;have IK:=gh hk;unfold Rn.route at e1;obtain ⟨d,s1,hx⟩:∃ d s1,s.read n=(d,s1):=⟨_,_,rfl⟩;obtain ⟨id,ok1⟩:=ho.read hx;obtain ⟨m,hm⟩:∃ m,wrap64 (d - 1)=m:=⟨_,rfl⟩;simp only [hx,hm] at e1;have HX:=gh hx;clear h ho hk hx id
 by_cases hm1:m < 1
 ·rw [if_pos hm1] at e1;have HE:Hid (dd=d/\cc=0/\s'=s1):=gh (by simp only [Prod.mk.injEq] at e1;exact ⟨e1.1.1.symm,e1.1.2.symm,e1.2.symm⟩);clear e1 ok1;go_enter Tryz.func158,Tryz.ntmps158;go_wp2_with (fail);refine (a0D _ r s n H.o d s1 HX.o).mono ?_;rintro e W1 ⟨rfl,R1⟩;go_wp2
  go_ret2
  exact ⟨by rw [HE.o.1,HE.o.2.1];rfl,by rw [HE.o.2.2];exact R1⟩
 ·rw [if_neg hm1] at e1;obtain ⟨k1,hk1⟩:∃ k1,keyZ n 1=k1:=⟨_,rfl⟩;obtain ⟨f,s2,hf⟩:∃ f s2,s1.read k1=(f,s2):=⟨_,_,rfl⟩;obtain ⟨if1,ok2⟩:=ok1.read hf;simp only [hk1,hf] at e1;have HK1:=gh hk1;have HF:=gh hf;have IF:=gh if1;clear hk1 hf if1 ok1
  by_cases hkf:k < f
  ·rw [if_pos hkf] at e1;have HE:Hid (dd=d/\cc=0/\s'=s2):=gh (by simp only [Prod.mk.injEq] at e1;exact ⟨e1.1.1.symm,e1.1.2.symm,e1.2.symm⟩);clear e1 ok2;go_enter Tryz.func158,Tryz.ntmps158;go_wp2_with (fail);refine (a0D _ r s n H.o d s1 HX.o).mono ?_;rintro e W1 ⟨rfl,R1⟩;go_wp2_with (fail);refine (c0T _ n 1 k1 HK1.o).mono ?_;rintro e w' ⟨rfl,rfl⟩;go_wp2_with (fail);refine (a0D _ r s1 k1 R1.1 f s2 HF.o).mono ?_;rintro e W2 ⟨rfl,R2⟩
   replace R2:=R1.trans R2
   go_wp2
   go_ret2
   exact ⟨by rw [HE.o.1,HE.o.2.1];rfl,by rw [HE.o.2.2];exact R2⟩
  ·rw [if_neg hkf] at e1
   by_cases hme:m=1
   ·rw [if_pos hme] at e1;have HE:Hid (dd=d/\cc=1/\s'=s2):=gh (by simp only [Prod.mk.injEq] at e1;exact ⟨e1.1.1.symm,e1.1.2.symm,e1.2.symm⟩);clear e1 ok2;have g1:(m == 1)=true:=by simp [hme]
    go_enter Tryz.func158,Tryz.ntmps158;go_wp2_with (fail);refine (a0D _ r s n H.o d s1 HX.o).mono ?_;rintro e W1 ⟨rfl,R1⟩;go_wp2_with (fail);refine (c0T _ n 1 k1 HK1.o).mono ?_;rintro e w' ⟨rfl,rfl⟩;go_wp2_with (fail);refine (a0D _ r s1 k1 R1.1 f s2 HF.o).mono ?_;rintro e W2 ⟨rfl,R2⟩
    replace R2:=R1.trans R2
    go_wp2
    go_ret2
    exact ⟨by rw [HE.o.1,HE.o.2.1];rfl,by rw [HE.o.2.2];exact R2⟩
   ·rw [if_neg hme] at e1;have g1:(m == 1)=false:=by simp [hme]
    clear hme;obtain ⟨km,hkm⟩:∃ km,keyZ n m=km:=⟨_,rfl⟩;obtain ⟨l,s3,hl⟩:∃ l s3,s2.read km=(l,s3):=⟨_,_,rfl⟩;obtain ⟨il,ok3⟩:=ok2.read hl;simp only [hkm,hl] at e1;have HKM:=gh hkm;have HL:=gh hl;have IL:=gh il;clear hkm hl il ok2
    by_cases hlk:l<=k
    ·rw [if_pos hlk] at e1;have HE:Hid (dd=d/\cc=m/\s'=s3):=gh (by simp only [Prod.mk.injEq] at e1;exact ⟨e1.1.1.symm,e1.1.2.symm,e1.2.symm⟩);clear e1 ok3;go_enter Tryz.func158,Tryz.ntmps158;go_wp2_with (fail);refine (a0D _ r s n H.o d s1 HX.o).mono ?_;rintro e W1 ⟨rfl,R1⟩;go_wp2_with (fail);refine (c0T _ n 1 k1 HK1.o).mono ?_;rintro e w' ⟨rfl,rfl⟩;go_wp2_with (fail);refine (a0D _ r s1 k1 R1.1 f s2 HF.o).mono ?_;rintro e W2 ⟨rfl,R2⟩
     replace R2:=R1.trans R2
     go_wp2_with (fail);refine (c0T _ n m km HKM.o).mono ?_;rintro e w' ⟨rfl,rfl⟩;go_wp2_with (fail);refine (a0D _ r s2 km R2.1 l s3 HL.o).mono ?_;rintro e W3 ⟨rfl,R3⟩
     replace R3:=R2.trans R3
     go_wp2
     go_ret2
     exact ⟨by rw [HE.o.1,HE.o.2.1];rfl,by rw [HE.o.2.2];exact R3⟩
    ·rw [if_neg hlk] at e1;obtain ⟨j,hj⟩:∃ j,Pb.guessZ f l k m=j:=⟨_,rfl⟩;have j1:=guess_le f l k m;have j2:=@guess_n f l k m;simp only [hj] at e1;rw [hj] at j1 j2;have HJ:=gh hj;clear hj;cases hof:s3.off with
     | true=>
      have HO:=gh hof;rw [hof] at e1;simp only [true_or,if_true] at e1;have HE:Hid (dd=d/\cc=0/\s'=s3):=gh (by simp only [Prod.mk.injEq] at e1;exact ⟨e1.1.1.symm,e1.1.2.symm,e1.2.symm⟩);clear e1 ok3 hof j2;go_enter Tryz.func158,Tryz.ntmps158;go_wp2_with (fail);refine (a0D _ r s n H.o d s1 HX.o).mono ?_;rintro e W1 ⟨rfl,R1⟩;go_wp2_with (fail);refine (c0T _ n 1 k1 HK1.o).mono ?_;rintro e w' ⟨rfl,rfl⟩;go_wp2_with (fail);refine (a0D _ r s1 k1 R1.1 f s2 HF.o).mono ?_;rintro e W2 ⟨rfl,R2⟩
      replace R2:=R1.trans R2
      go_wp2_with (fail);refine (c0T _ n m km HKM.o).mono ?_;rintro e w' ⟨rfl,rfl⟩;go_wp2_with (fail);refine (a0D _ r s2 km R2.1 l s3 HL.o).mono ?_;rintro e W3 ⟨rfl,R3⟩
      replace R3:=R2.trans R3
      go_wp2_with (fail);refine (k0V _ f l k m j IF.o IL.o IK.o HJ.o).mono ?_;rintro e W4 ⟨rfl,K4⟩;have R4:=R3.drawn K4;obtain ⟨ta,tc,wa,wc,RI⟩:=R4.1;obtain ⟨_,_,c2,_,_,ff⟩:=RI.cells;rw [HO.o] at c2;clear RI ff K4;go_wp2
      go_ret2
      exact ⟨by rw [HE.o.1,HE.o.2.1];rfl,by rw [HE.o.2.2];exact R4⟩
     | false=>
      have HO:=gh hof;rw [hof] at e1;simp only [Bool.false_eq_true,false_or] at e1;clear hof
      by_cases hj1:j < 1
      ·rw [if_pos hj1] at e1;have HE:Hid (dd=d/\cc=0/\s'=s3):=gh (by simp only [Prod.mk.injEq] at e1;exact ⟨e1.1.1.symm,e1.1.2.symm,e1.2.symm⟩);clear e1 ok3 j2;go_enter Tryz.func158,Tryz.ntmps158;go_wp2_with (fail);refine (a0D _ r s n H.o d s1 HX.o).mono ?_;rintro e W1 ⟨rfl,R1⟩;go_wp2_with (fail);refine (c0T _ n 1 k1 HK1.o).mono ?_;rintro e w' ⟨rfl,rfl⟩;go_wp2_with (fail);refine (a0D _ r s1 k1 R1.1 f s2 HF.o).mono ?_;rintro e W2 ⟨rfl,R2⟩
       replace R2:=R1.trans R2
       go_wp2_with (fail);refine (c0T _ n m km HKM.o).mono ?_;rintro e w' ⟨rfl,rfl⟩;go_wp2_with (fail);refine (a0D _ r s2 km R2.1 l s3 HL.o).mono ?_;rintro e W3 ⟨rfl,R3⟩
       replace R3:=R2.trans R3
       go_wp2_with (fail);refine (k0V _ f l k m j IF.o IL.o IK.o HJ.o).mono ?_;rintro e W4 ⟨rfl,K4⟩;have R4:=R3.drawn K4;obtain ⟨ta,tc,wa,wc,RI⟩:=R4.1;obtain ⟨_,_,c2,_,_,ff⟩:=RI.cells;rw [HO.o] at c2;clear RI ff K4;go_wp2
       go_ret2
       exact ⟨by rw [HE.o.1,HE.o.2.1];rfl,by rw [HE.o.2.2];exact R4⟩
      ·rw [if_neg hj1] at e1;have m6:=j2 (by omega);clear j2
       by_cases hj2:1 < j
       ·rw [if_pos hj2] at e1;obtain ⟨kj,hkj⟩:∃ kj,keyZ n j=kj:=⟨_,rfl⟩;obtain ⟨y,s4,hy⟩:∃ y s4,s3.read kj=(y,s4):=⟨_,_,rfl⟩;simp only [hkj,hy] at e1;have HKJ:=gh hkj;have HY:=gh hy;clear hkj hy ok3
        by_cases hky:k < y
        ·rw [if_pos hky] at e1;have HD:Hid (dd=d):=gh (by simp only [Prod.mk.injEq] at e1;exact e1.1.1.symm);have HU:Hid (Rn.downF n k (j - 1).toNat s4=(cc,s')):=gh (by simp only [Prod.mk.injEq] at e1;rw [<- e1.1.2,<- e1.2]);clear e1;go_enter Tryz.func158,Tryz.ntmps158;go_wp2_with (fail);refine (a0D _ r s n H.o d s1 HX.o).mono ?_;rintro e W1 ⟨rfl,R1⟩;go_wp2_with (fail);refine (c0T _ n 1 k1 HK1.o).mono ?_;rintro e w' ⟨rfl,rfl⟩;go_wp2_with (fail);refine (a0D _ r s1 k1 R1.1 f s2 HF.o).mono ?_;rintro e W2 ⟨rfl,R2⟩
         replace R2:=R1.trans R2
         go_wp2_with (fail);refine (c0T _ n m km HKM.o).mono ?_;rintro e w' ⟨rfl,rfl⟩;go_wp2_with (fail);refine (a0D _ r s2 km R2.1 l s3 HL.o).mono ?_;rintro e W3 ⟨rfl,R3⟩
         replace R3:=R2.trans R3
         go_wp2_with (fail);refine (k0V _ f l k m j IF.o IL.o IK.o HJ.o).mono ?_;rintro e W4 ⟨rfl,K4⟩;have R4:=R3.drawn K4;obtain ⟨ta,tc,wa,wc,RI⟩:=R4.1;obtain ⟨_,_,c2,_,_,ff⟩:=RI.cells;rw [HO.o] at c2;clear RI ff K4;go_wp2_with (fail);refine (c0T _ n j kj HKJ.o).mono ?_;rintro e w' ⟨rfl,rfl⟩;go_wp2_with (fail);refine (a0D _ r s3 kj R4.1 y s4 HY.o).mono ?_;rintro e W5 ⟨rfl,R5⟩
         replace R5:=R4.trans R5
         go_wp2_with (fail)
         go_loopw [13] (fun v wr=>∃ (i:Nat) (t:Rn),v=.int .i64 (i:Int)/\i<=70000/\Rn.downF n k i t=(cc,s')/\Ran X W r t wr) (fun v _=>(intOf v).toNat)
         case atStart=>exact ⟨(j - 1).toNat,s4,by rw [Int.toNat_of_nonneg (by omega)],by omega,HU.o,R5⟩
         case round=>
          obtain ⟨i,t,rfl,i1,E,R⟩:=hrel;obtain ⟨ta,tc,wa,wc,RI⟩:=R.1;obtain ⟨_,_,c2,_,_,ff⟩:=RI.cells;clear RI ff
          by_cases hi1:1 < i
          ·obtain ⟨i,rfl⟩:∃ i',i=i' + 1:=⟨i - 1,by omega⟩;have q1:(1:Int) < ((i+1:Nat):Int):=by omega
           have q2:((i+1:Nat):Int)=(i:Int)+1:=by omega
           rw [q2] at q1 ⊢;cases ho:t.off with
           | true=>
            rw [ho] at c2;unfold Rn.downF at E;rw [ho] at E;simp only [Bool.true_eq_false,and_false,if_false] at E;have HV:=gh E;clear E ho hi1;go_wp2
            go_ret2
            have e2:=HV.o;cases e2;exact ⟨by rw [HD.o];rfl,R⟩
           | false=>
            rw [ho] at c2;obtain ⟨ki,hki⟩:∃ ki,keyZ n ((i:Int)+1)=ki:=⟨_,rfl⟩;obtain ⟨y,t2,hy⟩:∃ y t2,t.read ki=(y,t2):=⟨_,_,rfl⟩;have HKI:=gh hki;have HY2:=gh hy;unfold Rn.downF at E;rw [ho,hki,hy] at E;rw [if_pos ⟨by omega,rfl⟩] at E
            by_cases hky:y<=k
            ·rw [if_pos hky] at E;have HV:=gh E;clear E ho hki hy hi1 q2;go_wp2_with (fail);refine (c0T _ n ((i:Int)+1) ki HKI.o).mono ?_;rintro e w' ⟨rfl,rfl⟩;go_wp2_with (fail);refine (a0D _ r t ki R.1 y t2 HY2.o).mono ?_;rintro e W9 ⟨rfl,R9⟩;go_wp2
             go_ret2
             have e2:=HV.o;cases e2;exact ⟨by rw [HD.o];rfl,R.trans R9⟩
            ·rw [if_neg hky] at E;have HV:=gh E;clear E ho hki hy hi1 q2;go_wp2_with (fail);refine (c0T _ n ((i:Int)+1) ki HKI.o).mono ?_;rintro e w' ⟨rfl,rfl⟩;go_wp2_with (fail);refine (a0D _ r t ki R.1 y t2 HY2.o).mono ?_;rintro e W9 ⟨rfl,R9⟩;go_wp2;exact ⟨⟨i,t2,by simp,by omega,HV.o,R.trans R9⟩,by simp [intOf]⟩
          ·have q1:¬ ((1:Int) < (i:Int)):=by omega
           have e2:cc=1/\s'=t:=by
            cases i with
            | zero=>unfold Rn.downF at E;cases E;exact ⟨rfl,rfl⟩
            | succ i=>unfold Rn.downF at E;rw [if_neg (by omega)] at E;cases E;exact ⟨rfl,rfl⟩
           have HV:=gh e2;clear E hi1 e2;go_wp2
           go_ret2
           exact ⟨by rw [HD.o,HV.o.1];rfl,by rw [HV.o.2];exact R⟩
        ·rw [if_neg hky] at e1;have HD:Hid (dd=d):=gh (by simp only [Prod.mk.injEq] at e1;exact e1.1.1.symm);have HU:Hid (Rn.upF n k m (m - (j+1)).toNat (j+1) s4=(cc,s')):=gh (by simp only [Prod.mk.injEq] at e1;rw [<- e1.1.2,<- e1.2]);clear e1;go_enter Tryz.func158,Tryz.ntmps158;go_wp2_with (fail);refine (a0D _ r s n H.o d s1 HX.o).mono ?_;rintro e W1 ⟨rfl,R1⟩;go_wp2_with (fail);refine (c0T _ n 1 k1 HK1.o).mono ?_;rintro e w' ⟨rfl,rfl⟩;go_wp2_with (fail);refine (a0D _ r s1 k1 R1.1 f s2 HF.o).mono ?_;rintro e W2 ⟨rfl,R2⟩
         replace R2:=R1.trans R2
         go_wp2_with (fail);refine (c0T _ n m km HKM.o).mono ?_;rintro e w' ⟨rfl,rfl⟩;go_wp2_with (fail);refine (a0D _ r s2 km R2.1 l s3 HL.o).mono ?_;rintro e W3 ⟨rfl,R3⟩
         replace R3:=R2.trans R3
         go_wp2_with (fail);refine (k0V _ f l k m j IF.o IL.o IK.o HJ.o).mono ?_;rintro e W4 ⟨rfl,K4⟩;have R4:=R3.drawn K4;obtain ⟨ta,tc,wa,wc,RI⟩:=R4.1;obtain ⟨_,_,c2,_,_,ff⟩:=RI.cells;rw [HO.o] at c2;clear RI ff K4;go_wp2_with (fail);refine (c0T _ n j kj HKJ.o).mono ?_;rintro e w' ⟨rfl,rfl⟩;go_wp2_with (fail);refine (a0D _ r s3 kj R4.1 y s4 HY.o).mono ?_;rintro e W5 ⟨rfl,R5⟩
         replace R5:=R4.trans R5
         go_wp2_with (fail)
         go_loopw [14] (fun v wr=>∃ (i:Int) (c:Nat) (t:Rn),v=.int .i64 i/\0<=i/\i<=70000/\(m - i).toNat=c/\Rn.upF n k m c i t=(cc,s')/\Ran X W r t wr) (fun v _=>(m - intOf v).toNat)
         case atStart=>exact ⟨j+1,_,s4,rfl,by omega,by omega,rfl,HU.o,R5⟩
         case round=>
          obtain ⟨i,c,t,rfl,i0,i1,hc,E,R⟩:=hrel;obtain ⟨ta,tc,wa,wc,RI⟩:=R.1;obtain ⟨_,_,c2,_,_,ff⟩:=RI.cells;clear RI ff
          by_cases him:i < m
          ·obtain ⟨c,rfl⟩:∃ c',c=c' + 1:=⟨c - 1,by omega⟩;cases ho:t.off with
           | true=>
            rw [ho] at c2;unfold Rn.upF at E;rw [ho] at E;simp only [Bool.true_eq_false,if_false] at E;have HV:=gh E;clear E ho;go_wp2
            go_ret2
            have e2:=HV.o;cases e2;exact ⟨by rw [HD.o];rfl,R⟩
           | false=>
            rw [ho] at c2;obtain ⟨ki,hki⟩:∃ ki,keyZ n i=ki:=⟨_,rfl⟩;obtain ⟨y,t2,hy⟩:∃ y t2,t.read ki=(y,t2):=⟨_,_,rfl⟩;have HKI:=gh hki;have HY2:=gh hy;unfold Rn.upF at E;rw [ho,hki,hy] at E;simp only [if_true] at E;have HCC:=gh hc
            by_cases hky:k < y
            ·rw [if_pos hky] at E;have HV:=gh E;clear E ho hki hy hc;go_wp2_with (fail);refine (c0T _ n i ki HKI.o).mono ?_;rintro e w' ⟨rfl,rfl⟩;go_wp2_with (fail);refine (a0D _ r t ki R.1 y t2 HY2.o).mono ?_;rintro e W9 ⟨rfl,R9⟩;go_wp2
             go_ret2
             have e2:=HV.o;cases e2;exact ⟨by rw [HD.o];rfl,R.trans R9⟩
            ·rw [if_neg hky] at E;have HV:=gh E;clear E ho hki hy hc;go_wp2_with (fail);refine (c0T _ n i ki HKI.o).mono ?_;rintro e w' ⟨rfl,rfl⟩;go_wp2_with (fail);refine (a0D _ r t ki R.1 y t2 HY2.o).mono ?_;rintro e W9 ⟨rfl,R9⟩;go_wp2;exact ⟨⟨i+1,c,t2,rfl,by omega,by omega,by have:=HCC.o;omega,HV.o,R.trans R9⟩,by simp [intOf];omega⟩
          ·obtain rfl:c=0:=by omega
           unfold Rn.upF at E;have HV:=gh E;clear E hc;go_wp2
           go_ret2
           have e2:=HV.o;cases e2;exact ⟨by rw [HD.o];rfl,R⟩
       ·rw [if_neg hj2] at e1;clear ok3;have HD:Hid (dd=d):=gh (by simp only [Prod.mk.injEq] at e1;exact e1.1.1.symm);have HU:Hid (Rn.upF n k m (m - (j+1)).toNat (j+1) s3=(cc,s')):=gh (by simp only [Prod.mk.injEq] at e1;rw [<- e1.1.2,<- e1.2]);clear e1;go_enter Tryz.func158,Tryz.ntmps158;go_wp2_with (fail);refine (a0D _ r s n H.o d s1 HX.o).mono ?_;rintro e W1 ⟨rfl,R1⟩;go_wp2_with (fail);refine (c0T _ n 1 k1 HK1.o).mono ?_;rintro e w' ⟨rfl,rfl⟩;go_wp2_with (fail);refine (a0D _ r s1 k1 R1.1 f s2 HF.o).mono ?_;rintro e W2 ⟨rfl,R2⟩
        replace R2:=R1.trans R2
        go_wp2_with (fail);refine (c0T _ n m km HKM.o).mono ?_;rintro e w' ⟨rfl,rfl⟩;go_wp2_with (fail);refine (a0D _ r s2 km R2.1 l s3 HL.o).mono ?_;rintro e W3 ⟨rfl,R3⟩
        replace R3:=R2.trans R3
        go_wp2_with (fail);refine (k0V _ f l k m j IF.o IL.o IK.o HJ.o).mono ?_;rintro e W4 ⟨rfl,K4⟩;have R4:=R3.drawn K4;obtain ⟨ta,tc,wa,wc,RI⟩:=R4.1;obtain ⟨_,_,c2,_,_,ff⟩:=RI.cells;rw [HO.o] at c2;clear RI ff K4;go_wp2_with (fail)
        go_loopw [14] (fun v wr=>∃ (i:Int) (c:Nat) (t:Rn),v=.int .i64 i/\0<=i/\i<=70000/\(m - i).toNat=c/\Rn.upF n k m c i t=(cc,s')/\Ran X W r t wr) (fun v _=>(m - intOf v).toNat)
        case atStart=>exact ⟨j+1,_,s3,rfl,by omega,by omega,rfl,HU.o,R4⟩
        case round=>
         obtain ⟨i,c,t,rfl,i0,i1,hc,E,R⟩:=hrel;obtain ⟨ta,tc,wa,wc,RI⟩:=R.1;obtain ⟨_,_,c2,_,_,ff⟩:=RI.cells;clear RI ff
         by_cases him:i < m
         ·obtain ⟨c,rfl⟩:∃ c',c=c' + 1:=⟨c - 1,by omega⟩;cases ho:t.off with
          | true=>
           rw [ho] at c2;unfold Rn.upF at E;rw [ho] at E;simp only [Bool.true_eq_false,if_false] at E;have HV:=gh E;clear E ho;go_wp2
           go_ret2
           have e2:=HV.o;cases e2;exact ⟨by rw [HD.o];rfl,R⟩
          | false=>
           rw [ho] at c2;obtain ⟨ki,hki⟩:∃ ki,keyZ n i=ki:=⟨_,rfl⟩;obtain ⟨y,t2,hy⟩:∃ y t2,t.read ki=(y,t2):=⟨_,_,rfl⟩;have HKI:=gh hki;have HY2:=gh hy;unfold Rn.upF at E;rw [ho,hki,hy] at E;simp only [if_true] at E;have HCC:=gh hc
           by_cases hky:k < y
           ·rw [if_pos hky] at E;have HV:=gh E;clear E ho hki hy hc;go_wp2_with (fail);refine (c0T _ n i ki HKI.o).mono ?_;rintro e w' ⟨rfl,rfl⟩;go_wp2_with (fail);refine (a0D _ r t ki R.1 y t2 HY2.o).mono ?_;rintro e W9 ⟨rfl,R9⟩;go_wp2
            go_ret2
            have e2:=HV.o;cases e2;exact ⟨by rw [HD.o];rfl,R.trans R9⟩
           ·rw [if_neg hky] at E;have HV:=gh E;clear E ho hki hy hc;go_wp2_with (fail);refine (c0T _ n i ki HKI.o).mono ?_;rintro e w' ⟨rfl,rfl⟩;go_wp2_with (fail);refine (a0D _ r t ki R.1 y t2 HY2.o).mono ?_;rintro e W9 ⟨rfl,R9⟩;go_wp2;exact ⟨⟨i+1,c,t2,rfl,by omega,by omega,by have:=HCC.o;omega,HV.o,R.trans R9⟩,by simp [intOf];omega⟩
         ·obtain rfl:c=0:=by omega
          unfold Rn.upF at E;have HV:=gh E;clear E hc;go_wp2
          go_ret2
          have e2:=HV.o;cases e2;exact ⟨by rw [HD.o];rfl,R⟩
def Rn.child (s:Rn) (n k:Int):Int × Rn:=(a0B n (s.route n k).1.1 (s.route n k).1.2,(s.route n k).2)
theorem g0J (W:World) (r:Nat) (s:Rn) (n k:Int) (h:a0K X W r s) (ho:s.ok) (hk:I64 k) (z:Int) (s':Rn) (e1:s.child n k=(z,s')) :
  Calls Tryz.prog 190 #[.pointer (some ⟨r,0,none⟩),.int .i64 n,.int .i64 k] W fun e W'=>e=.returned (.int .i64 z)/\Ran X W r s' W':=by
 obtain ⟨d,c,t,ht⟩:∃ d c t,s.route n k=((d,c),t):=⟨_,_,_,rfl⟩;unfold Rn.child at e1;rw [ht] at e1;have HZ:Hid (a0B n d c=z):=gh (congrArg Prod.fst e1);have e2:t=s':=congrArg Prod.snd e1;subst e2;have HC:=gh (p0Z W r s n k h ho hk d c t ht);clear h ho hk e1 ht;go_enter Tryz.func190,Tryz.ntmps190;go_wp2_with (fail);refine HC.o.mono ?_;rintro e W1 ⟨rfl,R1⟩;go_wp2_with (fail);refine (c0N _ n d c z HZ.o).mono ?_;rintro e w' ⟨rfl,rfl⟩;go_wp2;go_ret;exact ⟨rfl,R1⟩
end
section
variable {X:Nat->Prop}
namespace Rn
theorem child_on (s:Rn) (n k:Int):On (s.read n).2 (s.child n k).2:=route_on s n k
theorem child_lt {s:Rn} (n k:Int) (h:s.off=false):(s.child n k).2.left < s.left:=(child_on s n k).lt (read_lt n h)
theorem peek_on {s:Rn} {a:Int} {x:Int × Rn} (h:s.peek a=x):On s x.2:=by
 subst h;unfold peek;dsimp only;generalize hx:s.read a=x
 split
 ·generalize ho:x.2.read (ad x.1+4)=o
  split
  ·exact ((read_on hx).trans (read_on ho)).trans (ask_on _ _)
  ·exact ((read_on hx).trans (read_on ho)).trans (ask_on _ _)
 ·exact read_on hx
def seekL (s:Rn) (n k:Int):(Int × Bool) × Rn:=
 if _:s.off=false then
  if kd ((s.child n k).2.peek (s.child n k).1).1=2 then
   (if (((s.child n k).2.peek (s.child n k).1).2.read (ad ((s.child n k).2.peek (s.child n k).1).1)).1=k then
    (((((s.child n k).2.peek (s.child n k).1).2.read (ad ((s.child n k).2.peek (s.child n k).1).1)).2.read (ad ((s.child n k).2.peek (s.child n k).1).1+1)).1,true)
   else (0,false),
   if (((s.child n k).2.peek (s.child n k).1).2.read (ad ((s.child n k).2.peek (s.child n k).1).1)).1=k then
    ((((s.child n k).2.peek (s.child n k).1).2.read (ad ((s.child n k).2.peek (s.child n k).1).1)).2.read (ad ((s.child n k).2.peek (s.child n k).1).1+1)).2
   else (((s.child n k).2.peek (s.child n k).1).2.read (ad ((s.child n k).2.peek (s.child n k).1).1)).2)
  else if kd ((s.child n k).2.peek (s.child n k).1).1=3 then seekL ((s.child n k).2.peek (s.child n k).1).2 (ad ((s.child n k).2.peek (s.child n k).1).1) k
  else if kd ((s.child n k).2.peek (s.child n k).1).1=4 then
   seekL (((s.child n k).2.peek (s.child n k).1).2.read (ad ((s.child n k).2.peek (s.child n k).1).1)).2 (ad (((s.child n k).2.peek (s.child n k).1).2.read (ad ((s.child n k).2.peek (s.child n k).1).1)).1) k
  else ((0,false),((s.child n k).2.peek (s.child n k).1).2)
 else ((0,false),s)
 termination_by s.left
 decreasing_by
  ·rename_i h _ _;exact (peek_on rfl).lt (child_lt n k h)
  ·rename_i h _ _ _;exact ((peek_on rfl).trans (ask_on _ _)).lt (child_lt n k h)
def seek (s:Rn) (k:Int):(Int × Bool) × Rn:=s.seekL 1 k
theorem seekL_off {s:Rn} {n k:Int} (h:s.off=true):s.seekL n k=((0,false),s):=by
 rw [seekL,dif_neg (by rw [h];decide)]
theorem seekL_leaf {s:Rn} {n k c w q:Int} {t u v:Rn} (h:s.off=false) (hc:s.child n k=(c,t)) (hw:t.peek c=(w,u)) (h2:kd w=2) (hq:u.read (ad w)=(q,v)):s.seekL n k=if q=k then (((v.read (ad w+1)).1,true),(v.read (ad w+1)).2) else ((0,false),v):=by
 rw [seekL,dif_pos h];simp only [hc,hw,hq];rw [if_pos h2]
 by_cases e:q=k
 ·simp only [if_pos e]
 ·simp only [if_neg e]
theorem seekL_inner {s:Rn} {n k c w:Int} {t u:Rn} (h:s.off=false) (hc:s.child n k=(c,t)) (hw:t.peek c=(w,u)) (h3:kd w=3):s.seekL n k=u.seekL (ad w) k:=by
 rw [seekL,dif_pos h];simp only [hc,hw];rw [if_neg (by rw [h3];decide),if_pos h3]
theorem seekL_again {s:Rn} {n k c w q:Int} {t u v:Rn} (h:s.off=false) (hc:s.child n k=(c,t)) (hw:t.peek c=(w,u)) (h4:kd w=4) (hq:u.read (ad w)=(q,v)):s.seekL n k=v.seekL (ad q) k:=by
 rw [seekL,dif_pos h];simp only [hc,hw,hq];rw [if_neg (by rw [h4];decide),if_neg (by rw [h4];decide),if_pos h4]
theorem seekL_none {s:Rn} {n k c w:Int} {t u:Rn} (h:s.off=false) (hc:s.child n k=(c,t)) (hw:t.peek c=(w,u)) (h2:kd w≠2) (h3:kd w≠3) (h4:kd w≠4):s.seekL n k=((0,false),u):=by
 rw [seekL,dif_pos h];simp only [hc,hw];rw [if_neg h2,if_neg h3,if_neg h4]
end Rn
theorem seek_r (W:World) (r:Nat) (s:Rn) (k:Int) (h:a0K X W r s) (ho:s.ok) (hk:I64 k) (z:Int) (b:Bool) (s':Rn) (e1:s.seek k=((z,b),s')) :
  Calls Tryz.prog 159 #[.pointer (some ⟨r,0,none⟩),.int .i64 k] W fun e W'=>e=.returned (.tuple #[.int .i64 z,.bool b])/\Ran X W r s' W':=by
 have H:=gh h;have IK:=gh hk;have OK0:=gh ho;have E1:=gh e1;clear h ho hk e1;go_enter Tryz.func159,Tryz.ntmps159;go_wp2_with (fail)
 go_loopw [6,7,8] (fun v _ _ wr=>∃ (n:Int) (t:Rn),v=.int .i64 n/\Ran X W r t wr/\t.ok/\t.seekL n k=((z,b),s')) (fun _ _ _ wr=>leftAt wr r)
 case atStart=>exact ⟨1,s,rfl,Ran.refl H.o,OK0.o,E1.o⟩
 case round=>
  obtain ⟨n,t,rfl,R,okt,E⟩:=hrel;have OK:=gh okt;obtain ⟨ta,tc,wa,wc,RI⟩:=R.1;obtain ⟨_,_,c2,_,_,ff⟩:=RI.cells;clear RI ff;cases hof:t.off with
  | true=>
   rw [hof] at c2;rw [Rn.seekL_off hof] at E;have HV:=gh E;clear E hof okt;go_wp2
   go_ret2
   have e2:=HV.o;cases e2;exact ⟨rfl,R⟩
  | false=>
   rw [hof] at c2;obtain ⟨c,t1,hc⟩:∃ c t1,t.child n k=(c,t1):=⟨_,_,rfl⟩;obtain ⟨x,t2,hx⟩:∃ x t2,t1.peek c=(x,t2):=⟨_,_,rfl⟩;have l1:t1.left < t.left:=by have:=Rn.child_lt n k hof;rw [hc] at this;exact this
   have ok1:t1.ok:=by have:=((Rn.read_on rfl).trans (Rn.child_on t n k)).ok okt;rw [hc] at this;exact this
   obtain ⟨ix,ok2⟩:=ok1.peek hx;have l2:t2.left < t.left:=(Rn.peek_on hx).lt l1;have HC:=gh hc;have HX:=gh hx;have OK1:=gh ok1;have IX:=gh ix;obtain ⟨kk,hkk⟩:∃ kk,kd x=kk:=⟨_,rfl⟩;obtain ⟨p,hp⟩:∃ p,ad x=p:=⟨_,rfl⟩;have kr:=a0U x;rw [hp] at kr;obtain ⟨p0,p1⟩:=kr;have HK:=gh hkk;have HP:=gh hp;have L2:=gh l2;have OK2:=gh ok2
   by_cases k2:kk=2
   ·obtain ⟨q,t3,hq⟩:∃ q t3,t2.read p=(q,t3):=⟨_,_,rfl⟩;have HQ:=gh hq;rw [Rn.seekL_leaf (q:=q) (v:=t3) hof hc hx (hkk.trans k2) (by rw [hp];exact hq),hp] at E;subst k2
    by_cases hqk:q=k
    ·rw [if_pos hqk] at E;subst hqk;obtain ⟨v,t4,hv⟩:∃ v t4,t3.read (p+1)=(v,t4):=⟨_,_,rfl⟩;rw [hv] at E;have HV:=gh hv;have HE:=gh E;clear E hof okt hc hx l1 ok1 ix ok2 l2 hkk hp hq hv;go_wp2_with (fail);refine (g0J _ r t n q R.1 OK.o IK.o c t1 HC.o).mono ?_;rintro e W2 ⟨rfl,R2⟩
     replace R2:=R.trans R2
     go_wp2_with (fail);refine (h0M _ r t1 c R2.1 OK1.o x t2 HX.o).mono ?_;rintro e W3 ⟨rfl,R3⟩
     replace R3:=R2.trans R3
     go_wp2_with (fail);refine (ak_d _ x p IX.o HP.o).mono ?_;rintro e w' ⟨rfl,rfl⟩;go_wp2_with (fail);refine (kk_d _ x 2 IX.o HK.o).mono ?_;rintro e w' ⟨rfl,rfl⟩;go_wp2_with (fail);refine (a0D _ r t2 p R3.1 q t3 HQ.o).mono ?_;rintro e W4 ⟨rfl,R4⟩
     replace R4:=R3.trans R4
     go_wp2_with (fail);refine (a0D _ r t3 (p+1) R4.1 v t4 HV.o).mono ?_;rintro e W5 ⟨rfl,R5⟩;go_wp2
     go_ret2
     have e2:=HE.o;cases e2;exact ⟨rfl,R4.trans R5⟩
    ·rw [if_neg hqk] at E;have g1:(q == k)=false:=by simp [hqk]
     have g2:(q != k)=true:=by simp [hqk]
     have HE:=gh E;clear E hof okt hc hx l1 ok1 ix ok2 l2 hkk hp hq;go_wp2_with (fail);refine (g0J _ r t n k R.1 OK.o IK.o c t1 HC.o).mono ?_;rintro e W2 ⟨rfl,R2⟩
     replace R2:=R.trans R2
     go_wp2_with (fail);refine (h0M _ r t1 c R2.1 OK1.o x t2 HX.o).mono ?_;rintro e W3 ⟨rfl,R3⟩
     replace R3:=R2.trans R3
     go_wp2_with (fail);refine (ak_d _ x p IX.o HP.o).mono ?_;rintro e w' ⟨rfl,rfl⟩;go_wp2_with (fail);refine (kk_d _ x 2 IX.o HK.o).mono ?_;rintro e w' ⟨rfl,rfl⟩;go_wp2_with (fail);refine (a0D _ r t2 p R3.1 q t3 HQ.o).mono ?_;rintro e W4 ⟨rfl,R4⟩
     replace R4:=R3.trans R4
     go_wp2
     go_ret2
     have e2:=HE.o;cases e2;exact ⟨rfl,R4⟩
   ·by_cases k3:kk=3
    ·rw [Rn.seekL_inner hof hc hx (hkk.trans k3),hp] at E;subst k3;have HE:=gh E;clear E hof okt hc hx l1 ok1 ix ok2 l2 hkk hp;go_wp2_with (fail);refine (g0J _ r t n k R.1 OK.o IK.o c t1 HC.o).mono ?_;rintro e W2 ⟨rfl,R2⟩
     replace R2:=R.trans R2
     go_wp2_with (fail);refine (h0M _ r t1 c R2.1 OK1.o x t2 HX.o).mono ?_;rintro e W3 ⟨rfl,R3⟩
     replace R3:=R2.trans R3
     go_wp2_with (fail);refine (ak_d _ x p IX.o HP.o).mono ?_;rintro e w' ⟨rfl,rfl⟩;go_wp2_with (fail);refine (kk_d _ x 3 IX.o HK.o).mono ?_;rintro e w' ⟨rfl,rfl⟩;go_wp2;exact ⟨⟨p,t2,rfl,R3,OK2.o,HE.o⟩,by rw [R3.leftAt,R.leftAt];exact L2.o⟩
    ·by_cases k4:kk=4
     ·obtain ⟨q,t3,hq⟩:∃ q t3,t2.read p=(q,t3):=⟨_,_,rfl⟩;have HQ:=gh hq;rw [Rn.seekL_again (q:=q) (v:=t3) hof hc hx (hkk.trans k4) (by rw [hp];exact hq)] at E;obtain ⟨iq,ok3⟩:=ok2.read hq;obtain ⟨a,ha⟩:∃ a,ad q=a:=⟨_,rfl⟩;rw [ha] at E;subst k4;have IQ:=gh iq;have OK3:=gh ok3;have HA:=gh ha;have L3:=gh ((Rn.read_on hq).lt l2);have HE:=gh E;clear E hof okt hc hx l1 ok1 ix ok2 l2 hkk hp hq iq ok3 ha;go_wp2_with (fail);refine (g0J _ r t n k R.1 OK.o IK.o c t1 HC.o).mono ?_;rintro e W2 ⟨rfl,R2⟩
      replace R2:=R.trans R2
      go_wp2_with (fail);refine (h0M _ r t1 c R2.1 OK1.o x t2 HX.o).mono ?_;rintro e W3 ⟨rfl,R3⟩
      replace R3:=R2.trans R3
      go_wp2_with (fail);refine (ak_d _ x p IX.o HP.o).mono ?_;rintro e w' ⟨rfl,rfl⟩;go_wp2_with (fail);refine (kk_d _ x 4 IX.o HK.o).mono ?_;rintro e w' ⟨rfl,rfl⟩;go_wp2_with (fail);refine (a0D _ r t2 p R3.1 q t3 HQ.o).mono ?_;rintro e W4 ⟨rfl,R4⟩
      replace R4:=R3.trans R4
      go_wp2_with (fail);refine (ak_d _ q a IQ.o HA.o).mono ?_;rintro e w' ⟨rfl,rfl⟩;go_wp2;exact ⟨⟨a,t3,rfl,R4,OK3.o,HE.o⟩,by rw [R4.leftAt,R.leftAt];exact L3.o⟩
     ·rw [Rn.seekL_none hof hc hx (by rw [hkk];exact k2) (by rw [hkk];exact k3) (by rw [hkk];exact k4)] at E;have g2:(kk == 2)=false:=by simp [k2]
      have g3:(kk == 3)=false:=by simp [k3]
      have g4:(kk == 4)=false:=by simp [k4]
      have HE:=gh E;clear E hof okt hc hx l1 ok1 ix ok2 l2 hkk hp;go_wp2_with (fail);refine (g0J _ r t n k R.1 OK.o IK.o c t1 HC.o).mono ?_;rintro e W2 ⟨rfl,R2⟩
      replace R2:=R.trans R2
      go_wp2_with (fail);refine (h0M _ r t1 c R2.1 OK1.o x t2 HX.o).mono ?_;rintro e W3 ⟨rfl,R3⟩
      replace R3:=R2.trans R3
      go_wp2_with (fail);refine (ak_d _ x p IX.o HP.o).mono ?_;rintro e w' ⟨rfl,rfl⟩;go_wp2_with (fail);refine (kk_d _ x kk IX.o HK.o).mono ?_;rintro e w' ⟨rfl,rfl⟩;go_wp2
      go_ret2
      have e2:=HE.o;cases e2;exact ⟨rfl,R3⟩
end
section
variable {X:Nat->Prop}
theorem Rn.slotL_tape (n:Nat):∀ (s:Rn) (a z:Int),s.left<=n->(s.slotL a z).2.tape=s.tape:=by
 induction n with
 | zero=>
  intro s a z h
  have:¬ (s.off=false/\kd z=5):=by rintro ⟨h1,_⟩;unfold Rn.left at h;rw [h1] at h;simp at h
  rw [Rn.slotL_stop this]
 | succ n ih=>
  intro s a z h
  by_cases hc:s.off=false/\kd z=5
  ·have hl:((s.help (ad z)).read a).2.left < s.left:=Nat.lt_of_le_of_lt (Rn.read_le _ _) (Rn.help_lt _ hc.1);rw [Rn.slotL_go hc.1 hc.2 (y:=((s.help (ad z)).read a).1) (t:=((s.help (ad z)).read a).2) rfl];have e:((s.help (ad z)).read a).2.tape=s.tape:=(Rn.ask_tape _ _).trans (((Rn.ask_on s _).trans (Rn.help_on s (ad z))).tape);exact (ih _ _ _ (by omega)).trans e
  ·rw [Rn.slotL_stop hc]
theorem Rn.slot_tape (s:Rn) (a:Int):(s.slot a).2.tape=s.tape:=(Rn.slotL_tape _ _ _ _ (Nat.le_refl _)).trans (Rn.ask_tape _ _)
structure Went (X:Nat->Prop) (W:World) (r:Nat) (s s':Rn) (W':World):Prop where
 ran:Ran X W r s' W'
 on:Rn.On s s'
 ok:s'.ok
theorem Went.at {W W':World} {r:Nat} {s s':Rn} (h:Went X W r s s' W'):a0K X W' r s':=h.ran.1
theorem Went.trans {W W' W'':World} {r:Nat} {s s' s'':Rn} (h:Went X W r s s' W') (h':Went X W' r s' s'' W''):Went X W r s s'' W'':=⟨h.ran.trans h'.ran,h.on.trans h'.on,h'.ok⟩
theorem Went.refl {W:World} {r:Nat} {s:Rn} (h:a0K X W r s) (ho:s.ok):Went X W r s s W:=⟨Ran.refl h,Rn.On.refl s,ho⟩
end
section
theorem n0V (w:World) (b:Nat) (s:Mst) (N:Int) (h:PM w b s) (e1:(s.xs.length:Int)=N):Calls Tryz.prog 20 #[.pointer (some ⟨b,0,none⟩)] w fun e w'=>e=.returned (.int .i64 N)/\w=w':=by
 obtain ⟨n₀,v,h⟩:=h;subst e1;exact used_c w n₀ b v s h
theorem h0S (w:World) (b:Nat) (s:Mst) (a n:Int) (r:Bool) (h:PM w b s) (_hl:s.xs.length<=65536) (h1:0<=a) (h2:a<=100000) (h3:-100000<=n) (h4:n<=5000000000000) (e1:(decide (1<=n) && decide (a+n<=(s.xs.length:Int)+1))=r) :
  Calls Tryz.prog 118 #[.pointer (some ⟨b,0,none⟩),.int .i64 a,.int .i64 n] w fun e w'=>e=.returned (.bool r)/\w=w':=by
 have H:=gh h;obtain ⟨N,hN⟩:∃ N:Int,(s.xs.length:Int)=N:=⟨_,rfl⟩;have HN:=gh hN;rw [hN] at e1;subst e1;clear h hN
 by_cases c1:1<=n
 ·by_cases c2:a+n - 1<=N
  ·have E:Hid ((decide (1<=n) && decide (a+n<=N+1))=true):=gh (by simp;omega);go_enter Tryz.func118,Tryz.ntmps118;go_wp2_with (fail);refine (n0V _ b s N H.o HN.o).mono ?_;rintro e w' ⟨rfl,rfl⟩;go_wp2;go_ret;exact ⟨by rw [E.o];rfl,rfl⟩
  ·have E:Hid ((decide (1<=n) && decide (a+n<=N+1))=false):=gh (by simp;omega);have c3:decide (a+n - 1<=N)=false:=by simp;omega
   go_enter Tryz.func118,Tryz.ntmps118;go_wp2_with (fail);refine (n0V _ b s N H.o HN.o).mono ?_;rintro e w' ⟨rfl,rfl⟩;go_wp2;go_ret;exact ⟨by rw [E.o];rfl,rfl⟩
 ·have E:Hid ((decide (1<=n) && decide (a+n<=N+1))=false):=gh (by simp;omega);go_enter Tryz.func118,Tryz.ntmps118;go_wp2;go_ret;exact ⟨by rw [E.o];rfl,rfl⟩
structure Chk (w0 W:World) (b:Nat) (s:Mst) (c g:Nat) (t:Tk):Prop where
 mem0:PM w0 b s
 ok:s.ok
 kept:Kept w0 W
 hc:w0.heap.size<=c
 hg:w0.heap.size<=g
 ne:c≠g
 box:W.heap[c]? = some (.cells #[.pointer (some ⟨b,0,none⟩),.slice (some ⟨g,0,none⟩) (s.xs.length+1) (s.xs.length+1)] 126)
 row:W.rowIs g 4 (s.xs.length+1) (fun j=>.bool (t j))
namespace Chk
variable {w0 W W':World} {b c g:Nat} {s:Mst} {t t':Tk}
theorem mem (h:Chk w0 W b s c g t):PM W b s:=h.mem0.kept h.kept
theorem c0 (h:Chk w0 W b s c g t):W.cell? ⟨c,0,none⟩=some (.pointer (some ⟨b,0,none⟩)):=by simp [World.cell?,h.box]
theorem c1 (h:Chk w0 W b s c g t):W.cell? ⟨c,1,none⟩=some (.slice (some ⟨g,0,none⟩) (s.xs.length+1) (s.xs.length+1)):=by simp [World.cell?,h.box]
theorem on (h:Chk w0 W b s c g t) (k:Kept W W'):Chk w0 W' b s c g t:=
 ⟨h.mem0,h.ok,h.kept.trans k,h.hc,h.hg,h.ne,k.heap h.box (fun e=>e),h.row.of_block (k.block g h.row.lt (fun e=>e))⟩
theorem put (h:Chk w0 W b s c g t) (i:Nat) (e:(fun j=>if j=i then true else t j)=t'):Chk w0 (W.setCell ⟨g,i,none⟩ (.bool true)) b s c g t':=by
 have T:Td (fun k=>k=g) W (W.setCell ⟨g,i,none⟩ (.bool true)):=Td.setCell W ⟨g,i,none⟩ (.bool true) rfl;refine ⟨h.mem0,h.ok,h.kept.did h.hg T,h.hc,h.hg,h.ne,T.heap h.box h.ne,?_⟩;refine (h.row.set i (.bool true)).congr (fun j _=>?_);rw [<- e]
 by_cases e:j=i
 ·simp [e]
 ·simp [e]
end Chk
def l0L (w0 W:World) (b:Nat) (s:Mst) (c g:Nat) (r:Option Tk) (e:Ending) (W':World):Prop:=
 e=.returned (.bool r.isSome)/\Td (fun i=>i=g) W W'/\∃ t',Chk w0 W' b s c g t'/\∀ u,r=some u->t'=u
theorem t0N (w0 W:World) (b:Nat) (s:Mst) (c g:Nat) (t:Tk) (C:Chk w0 W b s c g t) (a n:Int) (h1:0<=a) (h2:a<=100000) (h3:-100000<=n) (h4:n<=5000000000000) (h5:¬ (1<=n/\a+n<=(s.xs.length:Int)+1)) :
  Calls Tryz.prog 65 #[.pointer (some ⟨c,0,none⟩),.int .i64 a,.int .i64 n] W (l0L w0 W b s c g none):=by
 have e1:=gh (show (decide (1<=n) && decide (a+n<=(s.xs.length:Int)+1))=false by
  cases e:(decide (1<=n) && decide (a+n<=(s.xs.length:Int)+1)) with
  | false=>rfl
  | true=>simp at e;exact absurd e h5)
 have c0:=C.c0;have HL:=gh C.ok.2;have H:=gh C;clear C h5;go_enter Tryz.func65,Tryz.ntmps65;go_wp2_with (fail);refine (h0S _ b s a n false H.o.mem HL.o h1 h2 h3 h4 e1.o).mono ?_;rintro e w' ⟨rfl,rfl⟩;go_wp2;go_ret;exact ⟨rfl,Td.refl _ _,t,H.o,fun u h=>by cases h⟩
theorem f0I (w0 W:World) (b:Nat) (s:Mst) (c g:Nat) (t:Tk) (C:Chk w0 W b s c g t) (a n:Nat) (h1:1<=a) (h2:a<=100000) (h4:n<=500000000) (r:Option Tk) (e1:a0Y (s.xs.length+1) t a n=r) :
  Calls Tryz.prog 65 #[.pointer (some ⟨c,0,none⟩),.int .i64 (a:Int),.int .i64 (n:Int)] W (l0L w0 W b s c g r):=by
 by_cases h5:1<=n/\a+n<=s.xs.length+1
 ·have E1:=gh (show (decide (1<=(n:Int)) && decide ((a:Int)+n<=(s.xs.length:Int)+1))=true by simp;omega);have e2:r=if f0E t a n=true then some (b0S t a n) else none:=by
   rw [<- e1];unfold a0Y;have d1:decide (1<=n)=true:=by simp;omega
   have d2:decide (a+n<=s.xs.length+1)=true:=by simp;omega
   rw [d1,d2];rfl
  have E2:=gh e2;have c0:=C.c0;have HL:=gh C.ok.2;have H:=gh C;have HS:Hid (Chk w0 W b s c g (b0S t a 0)):=gh (by rw [g0B];exact C);obtain ⟨N,hN⟩:∃ N,s.xs.length=N:=⟨_,rfl⟩;have hN2:N<=65536:=by rw [<- hN];exact HL.o
  have HN:=gh hN;rw [hN] at h5;obtain ⟨h6,h7⟩:=h5;clear C e1 e2 hN;go_enter Tryz.func65,Tryz.ntmps65;go_wp2_with (fail);refine (h0S _ b s a n true H.o.mem HL.o (by omega) (by omega) (by omega) (by omega) E1.o).mono ?_;rintro e w' ⟨rfl,rfl⟩;go_wp2
  go_loopw [7] (fun v wr=>∃ k:Nat,k<=n/\v=.int .i64 ((a:Int)+k)/\Hid (f0E t a k=true)/\Hid (Chk w0 wr b s c g (b0S t a k))/\Hid (Td (fun i=>i=g) W wr)) (fun v _=>n+a - (intOf v).toNat)
  case atStart=>exact ⟨0,by omega,by simp,gh (m0J t a),HS,gh (Td.refl _ _)⟩
  case round=>
   obtain ⟨k,hk,rfl,HF,HC,HT⟩:=hrel
   by_cases hkn:k < n
   ·have i1:(a:Int)+k < (a:Int)+n:=by omega
    have i2:a+k < N+1:=by omega
    have i3:(a:Int)+k < (N:Int)+1:=by omega
    have b0:=HC.o.c0;have b1:=HC.o.c1;have b2:=HC.o.row.cell (show a+k < s.xs.length+1 by rw [HN.o];exact i2);have b3:=HC.o.row.frozen (a+k);rw [HN.o] at b1;simp only [m0W] at b2;have i4:((a:Int)+k).toNat=a+k:=by omega
    by_cases ht:t (a+k)=true
    ·have HR:Hid (r=none):=gh (by
      rw [E2.o,if_neg];rw [k0Y (n:=k+1) (by rw [d0K,HF.o,ht];rfl) (by omega)];simp)
     rw [ht] at b2;clear ht b0;go_wp2;go_ret;exact ⟨by rw [HR.o];rfl,HT.o,_,HC.o,fun u h=>by rw [HR.o] at h;cases h⟩
    ·have ht':t (a+k)=false:=by simpa using ht
     rw [ht'] at b2;have G1:Hid (f0E t a (k+1)=true):=gh (by rw [d0K,HF.o,ht'];rfl);have G2:=gh (HC.o.put (a+k) (i0A t a k));have G3:Hid (Td (fun i=>i=g) W (wr.setCell ⟨g,a+k,none⟩ (.bool true))):=gh (HT.o.trans (Td.setCell (R:=fun i=>i=g) wr ⟨g,a+k,none⟩ (.bool true) rfl) (fun _ e=>e) (fun _ _ e=>e));clear ht ht' b0;go_wp2;exact ⟨⟨k+1,by omega,by simp;omega,G1,G2,G3⟩,by simp [intOf];omega⟩
   ·have hkn':k=n:=by omega
    subst hkn';have i1:¬ ((a:Int)+k < (a:Int)+k):=by omega
    have HR:Hid (r=some (b0S t a k)):=gh (by rw [E2.o,if_pos HF.o]);go_wp2;go_ret;exact ⟨by rw [HR.o];rfl,HT.o,_,HC.o,fun u h=>by rw [HR.o] at h;cases h;rfl⟩
 ·have hr:r=none:=by
   rw [<- e1];unfold a0Y;rw [if_neg];intro hh;simp only [Bool.and_eq_true,decide_eq_true_eq] at hh;exact h5 hh.1
  subst hr;exact t0N w0 W b s c g t C a n (by omega) (by omega) (by omega) (by omega) (by omega)
theorem dcss_p (w0 W:World) (b:Nat) (s:Mst) (c g:Nat) (t:Tk) (C:Chk w0 W b s c g t) (a slot:Int) (r:Bool) (h1:0<=a) (h2:a<=100000) (e1:(decide (a+4<=(s.xs.length:Int)) && (s.look (a+1) == slot))=r) :
  Calls Tryz.prog 119 #[.pointer (some ⟨c,0,none⟩),.int .i64 a,.int .i64 slot] W fun e w'=>e=.returned (.bool r)/\W=w':=by
 have c0:=C.c0;have HL:=gh C.ok.2;have H:=gh C
 by_cases h5:a+4<=(s.xs.length:Int)
 ·have E1:=gh (show (decide (1<=(5:Int)) && decide (a+5<=(s.xs.length:Int)+1))=true by simp;omega);obtain ⟨z,hz⟩:∃ z,s.look (a+1)=z:=⟨_,rfl⟩;have HZ:=gh hz;have E2:Hid (r=(z == slot)):=gh (by rw [<- e1,hz];simp [h5]);clear C e1 hz h5;cases hzs:(z == slot) with
  | true=>
   have E3:=gh hzs;go_enter Tryz.func119,Tryz.ntmps119;go_wp2_with (fail);refine (h0S _ b s a 5 true H.o.mem HL.o h1 h2 (by omega) (by omega) E1.o).mono ?_;rintro e w' ⟨rfl,rfl⟩;go_wp2_with (fail);refine (lk_p _ b s (a+1) z H.o.mem HZ.o).mono ?_;rintro e w' ⟨rfl,rfl⟩;go_wp2;go_ret;exact ⟨by rw [E2.o,E3.o];rfl,rfl⟩
  | false=>
   have E3:=gh hzs;go_enter Tryz.func119,Tryz.ntmps119;go_wp2_with (fail);refine (h0S _ b s a 5 true H.o.mem HL.o h1 h2 (by omega) (by omega) E1.o).mono ?_;rintro e w' ⟨rfl,rfl⟩;go_wp2_with (fail);refine (lk_p _ b s (a+1) z H.o.mem HZ.o).mono ?_;rintro e w' ⟨rfl,rfl⟩;go_wp2;go_ret;exact ⟨by rw [E2.o,E3.o];rfl,rfl⟩
 ·have E1:=gh (show (decide (1<=(5:Int)) && decide (a+5<=(s.xs.length:Int)+1))=false by simp;omega);have E2:Hid (r=false):=gh (by rw [<- e1];simp [h5]);clear C e1 h5;go_enter Tryz.func119,Tryz.ntmps119;go_wp2_with (fail);refine (h0S _ b s a 5 false H.o.mem HL.o h1 h2 (by omega) (by omega) E1.o).mono ?_;rintro e w' ⟨rfl,rfl⟩;go_wp2;go_ret;exact ⟨by rw [E2.o];rfl,rfl⟩
end
section
theorem info4_p:(Tryz.prog.info? 4).map (fun i=>(i.zero,i.size,i.bytes))=some (some (.bool false),1,1):=by kernel_rfl
theorem i0I (n:Nat) (h:n<=100000) (w:World):(Instr.makeSlice 73 (.int .i64 (n:Int)) (.int .i64 (n:Int))).run Tryz.prog w=.ok (.slice (some ⟨w.heap.size,0,none⟩) n n) (w.alloc (.cells (madeCells #[.int .i64 0] n) 2)):=
 run_make_row' 73 2 (.int .i64 0) 8 Tryz.underlying73 k0U rfl .i64 .i64 n (by omega) (by omega) w
theorem i0H (n:Nat) (h:n<=100000) (w:World):(Instr.makeSlice 46 (.int .i64 (n:Int)) (.int .i64 (n:Int))).run Tryz.prog w=.ok (.slice (some ⟨w.heap.size,0,none⟩) n n) (w.alloc (.cells (madeCells #[.bool false] n) 4)):=
 run_make_row' 46 4 (.bool false) 1 Tryz.underlying46 info4_p rfl .i64 .i64 n (by omega) (by omega) w
def b0R (s:Mst) (a k:Nat):Nat->Value:=fun j=>if j < k then .int .i64 (ky s a (j+1)) else .int .i64 0
theorem s0W (s:Mst) (a k:Nat) (j:Nat):(if j=k then Value.int .i64 (ky s a (k+1)) else b0R s a k j)=b0R s a (k+1) j:=by
 unfold b0R
 by_cases e:j=k
 ·subst e;simp
 ·simp only [e,if_false]
  have:j < k↔j < k+1:=by omega
  simp only [this]
def l0Q (s:Mst) (a d:Nat):List Int:=(List.range (d - 1)).map (fun j=>ky s a (j+1))
theorem h0R (s:Mst) (a d:Nat):(l0Q s a d).length=d - 1:=by simp [l0Q]
theorem k0Q {s:Mst} {a d j:Nat} (h:j < d - 1):(l0Q s a d)[j]? = some (ky s a (j+1)):=by
 unfold l0Q;rw [List.getElem?_map,List.getElem?_range h];rfl
theorem s0L {W:World} {q d a:Nat} {s:Mst} (h:W.rowIs q 2 (d - 1) (b0R s a (d - 1))):Reads W (some ⟨q,0,none⟩) (l0Q s a d):=by
 refine .inr ⟨q,0,rfl,fun j z hz=>?_⟩;have hj:j < d - 1:=by
  have:=(List.getElem?_eq_some_iff.1 hz).1
  rwa [h0R] at this
 rw [k0Q hj] at hz;cases hz;rw [Nat.zero_add,h.cell hj,b0R,if_pos hj]
def k0T (s:Mst) (t:Tk) (a:Nat):Option Tk:=if s.look a < 2 then none else a0Y (s.xs.length+1) t a (2 * (s.look a).toNat+4)
def KeysPost (w0 W:World) (b:Nat) (s:Mst) (c g a:Nat) (r:Option Tk) (e:Ending) (W':World):Prop:=
 ∃ t',Td (fun i=>i=g) W W'/\Chk w0 W' b s c g t'/\((r=none/\e=.returned (.tuple #[.slice none 0 0,.bool false]))∨
  (r=some t'/\∃ d q:Nat,s.look a=(d:Int)/\2<=d/\d<=40000/\a+2 * d+4<=s.xs.length+1/\w0.heap.size<=q/\q≠g/\q≠c/\W'.rowIs q 2 (d - 1) (b0R s a (d - 1))/\e=.returned (.tuple #[.slice (some ⟨q,0,none⟩) (d - 1) (d - 1),.bool true])))
set_option maxRecDepth 20000 in
theorem keys_p (w0 W:World) (b:Nat) (s:Mst) (c g:Nat) (t:Tk) (C:Chk w0 W b s c g t) (a:Nat) (h1:1<=a) (h2:a<=65536) (r:Option Tk) (e1:k0T s t a=r) :
  Calls Tryz.prog 183 #[.pointer (some ⟨c,0,none⟩),.int .i64 (a:Int)] W (KeysPost w0 W b s c g a r):=by
 have c0:=C.c0;have HL:=gh C.ok.2;have H:=gh C;obtain ⟨D,hD⟩:∃ D,s.look a=D:=⟨_,rfl⟩;have HD:=gh hD;have hI:=C.ok.look a;rw [hD] at hI;obtain ⟨hI1,hI2⟩:=hI
 by_cases hd2:D < 2
 ·have HR:Hid (r=none):=gh (by rw [<- e1,k0T,hD,if_pos hd2]);clear C e1 hD hI1 hI2;go_enter Tryz.func183,Tryz.ntmps183;go_wp2_with (fail);refine (lk_p _ b s a D H.o.mem HD.o).mono ?_;rintro e w' ⟨rfl,rfl⟩;go_wp2
  go_ret2
  exact ⟨t,Td.refl _ _,H.o,.inl ⟨HR.o,rfl⟩⟩
 ·have hr:r=a0Y (s.xs.length+1) t a (2 * D.toNat+4):=by rw [<- e1,k0T,hD,if_neg hd2]
  obtain ⟨d,rfl⟩:∃ d:Nat,D=(d:Int):=⟨D.toNat,by omega⟩;have hdn:((d:Int)).toNat=d:=by omega
  rw [hdn] at hr;have hd2':¬ ((d:Int) < 2):=hd2
  by_cases hfit:a+2 * d+4<=s.xs.length+1
  ·have hN:=HL.o;have dS:d<=40000:=by omega
   have hcz:=gh (c0A (n:=a) (d:=d) (i:=d) (by omega) (by omega) (by omega) (by omega) (by omega) (by omega));have HF:=gh hfit;have HR:=gh hr.symm;have i5:(a:Int)+4+d+d - a=((2 * d+4:Nat):Int):=by omega
   clear C e1 hD hI1 hI2 hd2 hfit hr hdn hN;cases hT:a0Y (s.xs.length+1) t a (2 * d+4) with
   | none=>
    have HT:=gh hT;clear hT;go_enter Tryz.func183,Tryz.ntmps183;go_wp2_with (fail);refine (lk_p _ b s a d H.o.mem HD.o).mono ?_;rintro e w' ⟨rfl,rfl⟩;go_wp2_with (fail);refine (e0F _ a d d _ hcz.o).mono ?_;rintro e w' ⟨rfl,rfl⟩;go_wp2_with (fail);refine (f0I w0 _ b s c g t H.o a (2 * d+4) h1 (by omega) (by omega) none HT.o).mono ?_;rintro e w' ⟨rfl,hT',t',C',_⟩;have H':=gh C';have TT:=gh hT';clear C' hT' H c0;go_wp2
    go_ret2
    exact ⟨t',TT.o,H'.o,.inl ⟨by rw [<- HR.o,HT.o],rfl⟩⟩
   | some t1=>
    have HT:=gh hT;clear hT;go_enter Tryz.func183,Tryz.ntmps183;go_wp2_with (fail);refine (lk_p _ b s a d H.o.mem HD.o).mono ?_;rintro e w' ⟨rfl,rfl⟩;go_wp2_with (fail);refine (e0F _ a d d _ hcz.o).mono ?_;rintro e w' ⟨rfl,rfl⟩;go_wp2_with (fail);refine (f0I w0 _ b s c g t H.o a (2 * d+4) h1 (by omega) (by omega) (some t1) HT.o).mono ?_;rintro e W1 ⟨rfl,hT',t',C',ht'⟩
    have:=ht' _ rfl
    subst this;have H':=gh C';have TT:=gh hT';have hq1:=Nat.le_trans H'.o.hg (Nat.le_of_lt H'.o.row.lt);have hq2:=H'.o.row.lt;have hq3:c < W1.heap.size:=by
     have:=H'.o.box
     by_cases hh:c < W1.heap.size
     ·exact hh
     ·rw [Array.getElem?_eq_none (by omega)] at this;cases this
    have Q1:=gh hq1;have Q2:=gh hq2;have Q3:=gh hq3;clear C' hT' H c0 ht' hq1 hq2 hq3;have hmk:=i0I (d - 1) (by omega);have M0:=gh (World.rowIs_made W1 (.int .i64 0) (d - 1) 2);have HA:=gh (H'.o.on (Kept.alloc (Kept.refl _) (.cells (madeCells #[.int .i64 0] (d - 1)) 2)));have TA:=gh (Kept.behind TT.o (Kept.alloc (Kept.refl _) (.cells (madeCells #[.int .i64 0] (d - 1)) 2)));have L1:=gh (TT.o.size);obtain ⟨q,hq⟩:∃ q,W1.heap.size=q:=⟨_,rfl⟩;have MM:Hid ((W1.alloc (.cells (madeCells #[.int .i64 0] (d - 1)) 2)).rowIs q 2 (d - 1) (b0R s a 0)):=gh (by
     rw [<- hq];exact M0.o.congr (fun j _=>by simp [b0R]))
    have QW:Hid (W1.heap.size=q):=gh hq;rw [hq] at Q1 Q2 Q3 L1;have hm0:(d - 1:Nat)<=40000:=by omega
    obtain ⟨m,hm⟩:∃ m,d - 1=m:=⟨_,rfl⟩;have HM:=gh hm;have i6:(d:Int) - 1=(m:Int):=by omega
    rw [hm] at hmk MM HA TA hm0;clear M0 hm H';go_wp2
    go_loopw [35] (fun v wr=>∃ k:Nat,k<=m/\v=.int .i64 (k:Int)/\Hid (wr.rowIs q 2 m (b0R s a k))/\Hid (Chk w0 wr b s c g t')/\Hid (Td (fun i=>i=g) W wr)) (fun v _=>m - (intOf v).toNat)
    case atStart=>exact ⟨0,by omega,by simp,MM,HA,TA⟩
    case round=>
     obtain ⟨k,hk,rfl,HK,HC,HTR⟩:=hrel
     by_cases hkn:k < m
     ·have j1:(k:Int) < (m:Int):=by omega
      obtain ⟨V,hV⟩:∃ V,wr.drew=V:=⟨_,rfl⟩;have HCV:Hid (Chk w0 V b s c g t'):=gh (by rw [<- hV];exact HC.o.on (Kept.drew wr));have HKV:Hid (V.rowIs q 2 m (b0R s a k)):=gh (by rw [<- hV];exact HK.o);have HV:=gh hV;have hkz:=gh (k0R (n:=a) (i:=(k:Int)+1) (by omega) (by omega) (by omega) (by omega));obtain ⟨z,hz⟩:∃ z,s.look ((a:Int)+4+((k:Int)+1))=z:=⟨_,rfl⟩;have HZ:=gh hz;have b3:=HKV.o.frozen k;have b4:=HKV.o.cell hkn;have G1:Hid ((V.setCell ⟨q,k,none⟩ (.int .i64 z)).rowIs q 2 m (b0R s a (k+1))):=gh ((HKV.o.set k (.int .i64 z)).congr (fun j _=>by
       rw [<- s0W,<- hz]
       have:ky s a (k+1)=s.look ((a:Int)+4+((k:Int)+1)):=by unfold ky;rfl
       rw [this]))
      have G2:Hid (Chk w0 (V.setCell ⟨q,k,none⟩ (.int .i64 z)) b s c g t'):=gh (by
       have T:Td (fun i=>i=q) V (V.setCell ⟨q,k,none⟩ (.int .i64 z)):=Td.setCell V ⟨q,k,none⟩ (.int .i64 z) rfl;have C:=HCV.o;exact ⟨C.mem0,C.ok,C.kept.did Q1.o T,C.hc,C.hg,C.ne,T.heap C.box (by have:=Q3.o;omega),C.row.of_block (T.block g C.row.lt (by have:=Q2.o;omega))⟩)
      have x0:∀ y:Wd (fun U=>U=V∨U=V.setCell ⟨q,k,none⟩ (.int .i64 z)),y.w.cell? ⟨c,0,none⟩=some (.pointer (some ⟨b,0,none⟩)):=fun y=>by
       rcases y.ok with e | e
       ·rw [e];exact HCV.o.c0
       ·rw [e];exact G2.o.c0
      have G3:Hid (Td (fun i=>i=g) W (V.setCell ⟨q,k,none⟩ (.int .i64 z))):=gh (by
       have T:Td (fun i=>i=q) V (V.setCell ⟨q,k,none⟩ (.int .i64 z)):=Td.setCell V ⟨q,k,none⟩ (.int .i64 z) rfl;rw [<- hV] at T ⊢;exact (Kept.behind HTR.o (Kept.drew wr)).trans T (fun _ e=>e) (fun i hi e=>absurd hi (by have:=L1.o;omega)))
      clear hz HK HC HTR;go_wp2_with (fail);refine a0N [0,1,2,3,4,5,6,7,8,9,10,11,12] (fun U=>U=V∨U=V.setCell ⟨q,k,none⟩ (.int .i64 z)) (by kernel_rfl) (by kernel_rfl) (.inl HV.o) (fun _=>?_);clear hV;rw [HV.o]
      repeat (refine pq rfl rfl ?_;go_big_quiet_step (fail);refine wpQuiet_nil ?_)
      refine pl rfl rfl ?_;gi_wp2_with (fail);refine ⟨trivial,?_⟩;refine (callsIn_wide.2 (key_c _ a ((k:Int)+1) _ hkz.o)).mono ?_;rintro e U ⟨rfl,rfl⟩;gi_wp2_with (fail);refine ⟨Wd.mem (.inl rfl),?_⟩;refine pl rfl rfl ?_;gi_wp2_with (fail);refine ⟨trivial,?_⟩;refine (callsIn_wide.2 (lk_p _ b s _ z HCV.o.mem HZ.o)).mono ?_;rintro e U ⟨rfl,rfl⟩;gi_wp2_with (fail);refine ⟨Wd.mem (.inl rfl),?_⟩;refine pq rfl rfl ?_;go_big_quiet_step (fail);refine wpQuiet_nil ?_;refine pl rfl rfl ?_;gi_wp2;refine ⟨Wd.mem (.inr rfl),?_⟩;refine a0J ?_;go_wp2;exact ⟨⟨k+1,by omega,by simp,G1,G2,G3⟩,by simp [intOf];omega⟩
     ·have hkn':k=m:=by omega
      subst hkn';have j1:¬ ((k:Int) < (k:Int)):=by omega
      go_wp2
      go_ret2
      have HR2:r=some t':=by rw [<- HR.o,HT.o]
      refine ⟨t',HTR.o,HC.o,.inr ⟨HR2,d,q,HD.o,by omega,by omega,HF.o,Q1.o,by have:=Q2.o;omega,by have:=Q3.o;omega,?_,?_⟩⟩
      ·rw [HM.o];exact HK.o
      ·rw [HM.o];rfl
  ·have hr':r=none:=by
    rw [hr];unfold a0Y;rw [if_neg];intro hh;simp only [Bool.and_eq_true,decide_eq_true_eq] at hh;omega
   obtain ⟨n',hn'⟩:∃ n',a0B a d d=n':=⟨_,rfl⟩;have hn2:n'=0∨(n'=a+4+d+d/\(d:Int)<=1099511627776):=by
    rw [<- hn'];unfold a0B;split
    ·rename_i hh;simp only [Bool.and_eq_true,b0B] at hh;exact .inr ⟨rfl,by omega⟩
    ·exact .inl rfl
   have HC:=gh hn';have HR:=gh hr';have i1:-100000<=n' - a:=by omega
   have i2:n' - a<=5000000000000:=by omega
   have i3:¬ (1<=n' - a/\a+(n' - a)<=(s.xs.length:Int)+1):=by omega
   have J1:=gh i1;have J2:=gh i2;have J3:=gh i3;clear C e1 hD hI1 hI2 hd2 hfit hr hdn hr' hn' hn2 i3;go_enter Tryz.func183,Tryz.ntmps183;go_wp2_with (fail);refine (lk_p _ b s a d H.o.mem HD.o).mono ?_;rintro e w' ⟨rfl,rfl⟩;go_wp2_with (fail);refine (e0F _ a d d _ HC.o).mono ?_;rintro e w' ⟨rfl,rfl⟩;go_wp2_with (fail);refine (t0N w0 _ b s c g t H.o a (n' - a) (by omega) (by omega) J1.o J2.o J3.o).mono ?_;rintro e w' ⟨rfl,hT',t',C',_⟩;have H':=gh C';have TT:=gh hT';clear C' hT' H c0;go_wp2
   go_ret2
   exact ⟨t',TT.o,H'.o,.inl ⟨HR.o,rfl⟩⟩
end
section
def WordC (f:Nat):Prop:=∀ (w0 W:World) (b:Nat) (s:Mst) (c g:Nat) (t:Tk) (_:Chk w0 W b s c g t) (x lo hi:Int) (_:I64 x) (_:I64 lo) (_:I64 hi) (_:b0J (s.xs.length+1) t < f) (r:Option Tk) (_:sndW s f x lo hi t=r),
  Calls Tryz.prog 120 #[.pointer (some ⟨c,0,none⟩),.int .i64 x,.int .i64 lo,.int .i64 hi] W (l0L w0 W b s c g r)
def SlotC (f:Nat):Prop:=∀ (w0 W:World) (b:Nat) (s:Mst) (c g:Nat) (t:Tk) (_:Chk w0 W b s c g t) (x lo hi:Int) (_:I64 lo) (_:I64 hi) (_:b0J (s.xs.length+1) t < f) (r:Option Tk) (_:a0G s (sndW s f) x lo hi t=r),
  Calls Tryz.prog 66 #[.pointer (some ⟨c,0,none⟩),.int .i64 x,.int .i64 lo,.int .i64 hi] W (l0L w0 W b s c g r)
theorem i0U (f:Nat) (hW:WordC f):SlotC f:=by
 intro w0 W b s c g t C x lo hi hlo hhi hf r e1;have c0:=C.c0;have H:=gh C;obtain ⟨z,hz⟩:∃ z,s.look x=z:=⟨_,rfl⟩;obtain ⟨k,hk⟩:∃ k,kd z=k:=⟨_,rfl⟩;obtain ⟨p,hp⟩:∃ p,ad z=p:=⟨_,rfl⟩;obtain ⟨l,hl⟩:∃ l,s.logicZ x=l:=⟨_,rfl⟩;have hzb:=C.ok.look x;rw [hz] at hzb;have hlb:=C.ok.logic x;rw [hl] at hlb;have kr:=a0U z;rw [hp] at kr;have HZ:=gh hz;have HK:=gh hk;have HP:=gh hp;have HL:=gh hl;have HZB:=gh hzb;have HLB:=gh hlb;have HLO:=gh hlo;have HHI:=gh hhi;have HFU:=gh hf;have KR:=gh kr;have HO:=gh C.ok
 by_cases hk5:k=5
 ·cases hd:(decide (p+4<=(s.xs.length:Int)) && (s.look (p+1) == x)) with
  | false=>
   have HR:Hid (r=none):=gh (by
    rw [<- e1,a0G,h0C,hz,hk,hp,hd,hk5];rfl)
   have HD:=gh hd;subst hk5;clear C hz hk hp hl hzb hlb hlo hhi hf kr e1 hd;go_enter Tryz.func66,Tryz.ntmps66;go_wp2_with (fail);refine (lk_p _ b s x z H.o.mem HZ.o).mono ?_;rintro e w' ⟨rfl,rfl⟩;go_wp2_with (fail);refine (kk_p _ z 5 HZB.o HK.o).mono ?_;rintro e w' ⟨rfl,rfl⟩;go_wp2_with (fail);refine (ak_p _ z p HZB.o HP.o).mono ?_;rintro e w' ⟨rfl,rfl⟩;go_wp2_with (fail);refine (dcss_p w0 _ b s c g t H.o p x false KR.o.1 (by have:=KR.o.2;omega) HD.o).mono ?_;rintro e w' ⟨rfl,rfl⟩;go_wp2;go_ret;exact ⟨by rw [HR.o];rfl,Td.refl _ _,t,H.o,fun u h=>by rw [HR.o] at h;cases h⟩
  | true=>
   have HR:Hid (sndW s f l lo hi t=r):=gh (by
    rw [<- e1,a0G,h0C,hz,hk,hp,hd,hk5,hl];rfl)
   have HD:=gh hd;subst hk5;clear C hz hk hp hl hzb hlb hlo hhi hf kr e1 hd;go_enter Tryz.func66,Tryz.ntmps66;go_wp2_with (fail);refine (lk_p _ b s x z H.o.mem HZ.o).mono ?_;rintro e w' ⟨rfl,rfl⟩;go_wp2_with (fail);refine (kk_p _ z 5 HZB.o HK.o).mono ?_;rintro e w' ⟨rfl,rfl⟩;go_wp2_with (fail);refine (ak_p _ z p HZB.o HP.o).mono ?_;rintro e w' ⟨rfl,rfl⟩;go_wp2_with (fail);refine (dcss_p w0 _ b s c g t H.o p x true KR.o.1 (by have:=KR.o.2;omega) HD.o).mono ?_;rintro e w' ⟨rfl,rfl⟩;go_wp2_with (fail);refine (f0W _ b s x l H.o.mem HO.o HL.o).mono ?_;rintro e w' ⟨rfl,rfl⟩;go_wp2_with (fail);refine (hW w0 _ b s c g t H.o l lo hi HLB.o HLO.o HHI.o HFU.o r HR.o).mono ?_;rintro e w' ⟨rfl,hT,hC⟩;have HC:=gh hC;have HT:=gh hT;clear hC hT H c0;go_wp2;go_ret;exact ⟨rfl,HT.o,HC.o⟩
 ·have HR:Hid (sndW s f l lo hi t=r):=gh (by
   have:(k == 5)=false:=by simp [hk5]
   rw [<- e1,a0G,h0C,hz,hk,this,hl];rfl)
  have g1:(k == 5)=false:=by simp [hk5]
  have g2:(k != 5)=true:=by simp [hk5]
  clear C hz hk hp hl hzb hlb hlo hhi hf kr e1 hk5;go_enter Tryz.func66,Tryz.ntmps66;go_wp2_with (fail);refine (lk_p _ b s x z H.o.mem HZ.o).mono ?_;rintro e w' ⟨rfl,rfl⟩;go_wp2_with (fail);refine (kk_p _ z k HZB.o HK.o).mono ?_;rintro e w' ⟨rfl,rfl⟩;go_wp2_with (fail);refine (f0W _ b s x l H.o.mem HO.o HL.o).mono ?_;rintro e w' ⟨rfl,rfl⟩;go_wp2_with (fail);refine (hW w0 _ b s c g t H.o l lo hi HLB.o HLO.o HHI.o HFU.o r HR.o).mono ?_;rintro e w' ⟨rfl,hT,hC⟩;have HC:=gh hC;have HT:=gh hT;clear hC hT H c0;go_wp2;go_ret;exact ⟨rfl,HT.o,HC.o⟩
theorem i0K (W:World) (q M:Nat) (L:List Int) (hM:L.length=M) (hm:M<=100000) (hr:Reads W (some ⟨q,0,none⟩) L) (r:Bool) (e1:Pb.upB L=r) :
  Calls Tryz.prog 184 #[.slice (some ⟨q,0,none⟩) M M] W fun e W'=>e=.returned (.bool r)/\Kept W W':=by
 subst hM e1;refine (Pb.right_c W (some ⟨q,0,none⟩) L L.length hr (Nat.le_refl _) (by unfold maxLen;omega)).mono ?_;rintro e W' ⟨rfl,m,rfl⟩;exact ⟨rfl,Kept.drewN _ _⟩
theorem d0B {s:Mst} {a d:Nat} {lo hi:Int}:e0O s a d lo hi=true↔∀ i,i < d - 1->lowZ s a lo i < ky s a (i+1)/\ky s a (i+1)<=hi:=by
 unfold e0O;rw [List.all_eq_true];constructor
 ·intro h i hi'
  have:=h i (by simpa using hi')
  simpa using this
 ·intro h i hi'
  have:=h i (by simpa using hi')
  simpa using this
theorem keysB_up {s:Mst} {a d:Nat} {lo hi:Int} (hd:d<=60000) (h:e0O s a d lo hi=true):Pb.upB (l0Q s a d)=true:=by
 refine Pb.up_true (by rw [h0R];omega) ?_;have hk:=d0B.1 h;have key:∀ i j,i < j->j < d - 1->ky s a (i+1) < ky s a (j+1):=by
  intro i j hij
  induction j with
  | zero=>omega
  | succ j ih=>
   intro hj;have h1:=(hk (j+1) hj).1;rw [lowZ,if_neg (by omega)] at h1
   by_cases e:i=j
   ·subst e;exact h1
   ·exact Int.lt_trans (ih (by omega) (by omega)) h1
 rw [List.pairwise_iff_getElem];intro i j hi hj hij;rw [h0R] at hi hj;simp only [l0Q,List.getElem_map,List.getElem_range];exact key i j hij hj
theorem keysB_of {s:Mst} {a d:Nat} {lo hi:Int} (hd:2<=d) (hu:Pb.upB (l0Q s a d)=true) (h0:lo < ky s a 1) (h1:ky s a (d - 1)<=hi):e0O s a d lo hi=true:=by
 have hp:(l0Q s a d).Pairwise (· < ·):=(of_decide_eq_true hu).2;apply d0B.2;intro i hi';have up:∀ i j,i < j->j < d - 1->ky s a (i+1) < ky s a (j+1):=fun i j hij hj=>
  Pb.up_lt hp (k0Q (by omega)) (k0Q hj) hij
 constructor
 ·unfold lowZ
  split
  ·rename_i e;subst e;exact h0
  ·rename_i e
   have:=up (i - 1) i (by omega) hi'
   rwa [Nat.sub_add_cancel (by omega)] at this
 ·by_cases e:i=d - 2
  ·subst e
   have:d - 2+1=d - 1:=by omega
   rwa [this]
  ·have:=up i (d - 2) (by omega) (by omega)
   rw [show d - 2+1=d - 1 by omega] at this;omega
set_option maxHeartbeats 2000000 in
set_option maxRecDepth 20000 in
theorem n0J (f:Nat) (hS:SlotC f) (w0 W:World) (b:Nat) (s:Mst) (c g:Nat) (t:Tk) (C:Chk w0 W b s c g t) (a:Nat) (lo hi:Int) (h1:1<=a) (h2:a<=65536) (hlo:I64 lo) (hhi:I64 hi) (hf:b0J (s.xs.length+1) t < f+1) (r:Option Tk) (e1:a0W s (sndW s f) a lo hi t=r) :
  Calls Tryz.prog 151 #[.pointer (some ⟨c,0,none⟩),.int .i64 (a:Int),.int .i64 lo,.int .i64 hi] W (l0L w0 W b s c g r):=by
 have H:=gh C;have HO:=gh C.ok;have HLO:=gh hlo;have HHI:=gh hhi;have HSL:=gh hS;have HTT:Hid (∀ W',Chk w0 W' b s c g t->True):=gh (fun _ _=>trivial);have e2:r=(k0T s t a).bind fun t1=>if (e0O s a (s.look a).toNat lo hi && d0U s a)=true then a0R (kidG s (sndW s f) a (s.look a).toNat lo hi) (s.look a).toNat t1 else none:=by
  rw [<- e1,a0W,k0T]
  by_cases h:s.look a < 2
  ·rw [if_pos h,if_pos h];rfl
  ·rw [if_neg h,if_neg h]
 cases hT:k0T s t a with
 | none=>
  have HT:=gh hT;have HR:Hid (r=none):=gh (by rw [e2,hT];rfl);have HKC:=gh (keys_p w0 W b s c g t C a h1 h2 none hT);clear C hS hlo hhi hf e1 e2 hT;go_enter Tryz.func151,Tryz.ntmps151;go_wp2_with (fail);refine HKC.o.mono ?_;rintro e W1 ⟨t',hT1,C1,h | h⟩
  ·obtain ⟨_,rfl⟩:=h;have H1:=gh C1;have HT1:=gh hT1;clear C1 H HKC hT1;go_wp2;go_ret;exact ⟨by rw [HR.o];rfl,HT1.o,t',H1.o,fun u h=>by rw [HR.o] at h;cases h⟩
  ·exact absurd h.1 (by simp)
 | some t1=>
  have HT:=gh hT;have hfr:b0J (s.xs.length+1) t1 < b0J (s.xs.length+1) t:=by
   unfold k0T at hT
   split at hT
   ·cases hT
   ·exact c0D hT
  have HFR:Hid (b0J (s.xs.length+1) t1 < f):=gh (by omega);have E2:=gh e2;have HKC:=gh (keys_p w0 W b s c g t C a h1 h2 (some t1) hT);clear C hS hlo hhi hf e1 e2 hT hfr;refine Exists.elim (show ∃ R,R=r from ⟨r,rfl⟩) (fun R hR=>?_);subst hR;go_enter Tryz.func151,Tryz.ntmps151;go_wp2_with (fail);refine HKC.o.mono ?_;rintro e W1 ⟨t',hT1,C1,h | h⟩
  ·exact absurd h.1 (by simp)
  obtain ⟨h0,d,q,hd,hd2,hd4,hfit,hq0,hqg,hqc,hq,rfl⟩:=h;cases h0;have HT1:=gh hT1;have H1:=gh C1;have hdn:(s.look a).toNat=d:=by omega
  have E3:=E2.o;rw [HT.o,hdn] at E3;have E4:Hid (R=if (e0O s a d lo hi && d0U s a)=true then a0R (kidG s (sndW s f) a d lo hi) d t1 else none):=gh E3;have HQ0:=gh hq0;have HQG:=gh hqg;have HQC:=gh hqc;have HQ:=gh hq;have HD:=gh hd;have hfa:(a:Int)<=65536:=by omega
  obtain ⟨M,hM⟩:∃ M,d - 1=M:=⟨_,rfl⟩;have dM:d=M+1:=by omega
  subst dM;have hM1:1<=M:=by omega
  have hM2:M<=40000:=by omega
  have hMM:M+1 - 1=M:=by omega
  rw [hMM] at HQ;rw [hMM];obtain ⟨L,hL⟩:∃ L,l0Q s a (M+1)=L:=⟨_,rfl⟩;have HLL:Hid (L.length=M):=gh (by rw [<- hL,h0R];omega);have HRD:Hid (Reads W1 (some ⟨q,0,none⟩) L):=gh (by rw [<- hL];exact s0L (by rw [hMM];exact HQ.o));have HL:=gh hL;obtain ⟨k1,hk1⟩:∃ k1,ky s a 1=k1:=⟨_,rfl⟩;obtain ⟨kM,hkM⟩:∃ kM,ky s a M=kM:=⟨_,rfl⟩;have HK1:=gh hk1;have HKM:=gh hkM;clear hT1 C1 hdn E3 hq0 hqg hqc hq hd hfit HKC H hM hMM hL hk1 hkM hd2 hd4 HT E2;cases hu:Pb.upB L with
  | false=>
   have HU:=gh hu;have HR:Hid (R=none):=gh (by
    rw [E4.o,if_neg];intro hh;simp only [Bool.and_eq_true] at hh
    have:=keysB_up (by omega) hh.1
    rw [HL.o,hu] at this;cases this)
   clear hu;go_wp2_with (fail);refine (i0K _ q M L HLL.o (by omega) HRD.o false HU.o).mono ?_;rintro e W2 ⟨rfl,hk⟩;have HK2:=gh hk;have H2:=gh (H1.o.on hk);have HQ2:Hid (W2.rowIs q 2 M (b0R s a M)):=gh (HQ.o.of_block (hk.block q HQ.o.lt (fun e=>e)));have T2:Hid (Td (fun i=>i=g) W W2):=gh (Kept.behind HT1.o hk);clear hk;go_wp2;go_ret;exact ⟨by rw [HR.o];rfl,T2.o,t1,H2.o,fun u h=>by rw [HR.o] at h;cases h⟩
  | true=>
   have HU:=gh hu;clear hu
   by_cases hk1:k1<=lo
   ·have HR:Hid (R=none):=gh (by
     rw [E4.o,if_neg];intro hh;simp only [Bool.and_eq_true] at hh
     have:=(d0B.1 hh.1 0 (by omega)).1
     rw [lowZ,if_pos rfl,HK1.o] at this;omega)
    go_wp2_with (fail);refine (i0K _ q M L HLL.o (by omega) HRD.o true HU.o).mono ?_;rintro e W2 ⟨rfl,hk⟩;have HK2:=gh hk;have H2:=gh (H1.o.on hk);have HQ2:Hid (W2.rowIs q 2 M (b0R s a M)):=gh (HQ.o.of_block (hk.block q HQ.o.lt (fun e=>e)));have T2:Hid (Td (fun i=>i=g) W W2):=gh (Kept.behind HT1.o hk);clear hk;have q1:W2.cell? ⟨q,0,none⟩=some (.int .i64 k1):=by
     rw [HQ2.o.cell (by omega),b0R,if_pos (by omega),<- HK1.o]
    have q2:W2.cell? ⟨q,M - 1,none⟩=some (.int .i64 kM):=by
     rw [HQ2.o.cell (by omega),b0R,if_pos (by omega),<- HKM.o,Nat.sub_add_cancel (by omega)]
    have q3:((M:Int) - 1).toNat=M - 1:=by omega
    have q4:(M:Int) - 1 < (M:Int):=by omega
    have q5:(0:Int) < (M:Int):=by omega
    have q6:=H2.o.c0;go_wp2;go_ret;exact ⟨by rw [HR.o];rfl,T2.o,t1,H2.o,fun u h=>by rw [HR.o] at h;cases h⟩
   ·by_cases hk2:hi < kM
    ·have HR:Hid (R=none):=gh (by
      rw [E4.o,if_neg];intro hh;simp only [Bool.and_eq_true] at hh
      have:=(d0B.1 hh.1 (M - 1) (by omega)).2
      rw [Nat.sub_add_cancel (by omega),HKM.o] at this;omega)
     go_wp2_with (fail);refine (i0K _ q M L HLL.o (by omega) HRD.o true HU.o).mono ?_;rintro e W2 ⟨rfl,hk⟩;have HK2:=gh hk;have H2:=gh (H1.o.on hk);have HQ2:Hid (W2.rowIs q 2 M (b0R s a M)):=gh (HQ.o.of_block (hk.block q HQ.o.lt (fun e=>e)));have T2:Hid (Td (fun i=>i=g) W W2):=gh (Kept.behind HT1.o hk);clear hk;have q1:W2.cell? ⟨q,0,none⟩=some (.int .i64 k1):=by
      rw [HQ2.o.cell (by omega),b0R,if_pos (by omega),<- HK1.o]
     have q2:W2.cell? ⟨q,M - 1,none⟩=some (.int .i64 kM):=by
      rw [HQ2.o.cell (by omega),b0R,if_pos (by omega),<- HKM.o,Nat.sub_add_cancel (by omega)]
     have q3:((M:Int) - 1).toNat=M - 1:=by omega
     have q4:(M:Int) - 1 < (M:Int):=by omega
     have q5:(0:Int) < (M:Int):=by omega
     have q6:=H2.o.c0;go_wp2;go_ret;exact ⟨by rw [HR.o];rfl,T2.o,t1,H2.o,fun u h=>by rw [HR.o] at h;cases h⟩
    ·have KB:Hid (e0O s a (M+1) lo hi=true):=gh (keysB_of (by omega) (by rw [HL.o];exact HU.o) (by rw [HK1.o];omega) (by rw [show M+1 - 1=M by omega,HKM.o];omega));obtain ⟨z,hz⟩:∃ z,s.look ((a:Int)+2)=z:=⟨_,rfl⟩;have HZ:=gh hz;clear hz;have hk1':lo < k1:=by omega
     have hk2':kM<=hi:=by omega
     clear hk1 hk2
     by_cases hz01:z=0∨z=1
     ·have SB:Hid (d0U s a=true):=gh (by unfold d0U;rw [HZ.o];rcases hz01 with e | e <;> subst e <;> rfl);have E5:Hid (R=a0R (kidG s (sndW s f) a (M+1) lo hi) (M+1) t1):=gh (by rw [E4.o,KB.o,SB.o];rfl);have START:Hid (a0R (kidG s (sndW s f) a (M+1) lo hi) 0 t1=some t1):=gh rfl;clear SB E4;rcases hz01 with hz0 | hz0
      ·subst hz0;go_wp2_with (fail);refine (i0K _ q M L HLL.o (by omega) HRD.o true HU.o).mono ?_;rintro e W2 ⟨rfl,hk⟩;have HK2:=gh hk;have H2:=gh (H1.o.on hk);have HQ2:Hid (W2.rowIs q 2 M (b0R s a M)):=gh (HQ.o.of_block (hk.block q HQ.o.lt (fun e=>e)));have T2:Hid (Td (fun i=>i=g) W W2):=gh (Kept.behind HT1.o hk);clear hk;have q1:W2.cell? ⟨q,0,none⟩=some (.int .i64 k1):=by
        rw [HQ2.o.cell (by omega),b0R,if_pos (by omega),<- HK1.o]
       have q2:W2.cell? ⟨q,M - 1,none⟩=some (.int .i64 kM):=by
        rw [HQ2.o.cell (by omega),b0R,if_pos (by omega),<- HKM.o,Nat.sub_add_cancel (by omega)]
       have q3:((M:Int) - 1).toNat=M - 1:=by omega
       have q4:(M:Int) - 1 < (M:Int):=by omega
       have q5:(0:Int) < (M:Int):=by omega
       have q6:=H2.o.c0;go_wp2_with (fail);refine (lk_p _ b s ((a:Int)+2) 0 H2.o.mem HZ.o).mono ?_;rintro e w' ⟨rfl,rfl⟩;clear q1 q2 q3 q4 q5 q6;go_wp2
       go_loopw [63] (fun v wr=>∃ (k:Nat) (tk:Tk),k<=M+1/\v=.int .i64 (k:Int)/\Hid (a0R (kidG s (sndW s f) a (M+1) lo hi) k t1=some tk)/\Hid (Chk w0 wr b s c g tk)/\Hid (wr.rowIs q 2 M (b0R s a M))/\Hid (Td (fun i=>i=g) W wr)) (fun v _=>M+1 - (intOf v).toNat)
       case atStart=>exact ⟨0,t1,by omega,by simp,START,H2,HQ2,T2⟩
       case round=>
        obtain ⟨k,tk,hk,rfl,HCH,HC,HW,HTW⟩:=hrel
        by_cases hkn:k < M+1
        ·have j1:(k:Int) < (M:Int)+1:=by omega
         have HFK:Hid (b0J (s.xs.length+1) tk < f):=gh (Nat.lt_of_le_of_lt (g0L (d0Q s f) HCH.o) HFR.o);have hcz:=gh (c0A (n:=a) (d:=(M:Int)+1) (i:=k) (by omega) (by omega) (by omega) (by omega) (by omega) (by omega));obtain ⟨u,hu⟩:∃ u,kidG s (sndW s f) a (M+1) lo hi k tk=u:=⟨_,rfl⟩;have HUU:=gh hu;have HNX:Hid (a0R (kidG s (sndW s f) a (M+1) lo hi) (k+1) t1=u):=gh (by rw [a0R,HCH.o];exact hu);clear hu HCH
         by_cases hk0:k=0
         ·by_cases hkM:k < M
          ·obtain ⟨kh,hkh⟩:∃ kh,ky s a (k+1)=kh:=⟨_,rfl⟩;have r1:wr.cell? ⟨q,k,none⟩=some (.int .i64 kh):=by
            rw [HW.o.cell (by omega),b0R,if_pos (by omega),<- hkh]
           have r2:(k:Int) < (M:Int):=by omega
           have bh1:I64 kh:=by rw [<- hkh];exact HO.o.look _
           have bh2:lo < kh:=by
            have h1:=d0B.1 KB.o
            have:∀ j,j < M->lo < ky s a (j+1):=by
             intro j
             induction j with
             | zero=>intro hj;have:=(h1 0 (by omega)).1;rwa [lowZ,if_pos rfl] at this
             | succ j ih=>
              intro hj;have h2:=(h1 (j+1) (by omega)).1;rw [lowZ,if_neg (by omega)] at h2
              have:=ih (by omega)
              omega
            have:=this k (by omega)
            rwa [hkh] at this
           have bl:=HLO.o;have bh3:-9223372036854775808<=kh - 1:=by have:=bl.1;omega
           have bh4:kh - 1<=9223372036854775807:=by have:=bh1.2;omega
           have BH:Hid (I64 (kh - 1)):=gh ⟨bh3,bh4⟩;have HU2:Hid (a0G s (sndW s f) ((a:Int)+4+((M:Int)+1)+k) lo (kh - 1) tk=u):=gh (by
            rw [<- HUU.o];unfold kidG b0C lowZ e0Q;rw [if_pos hk0,if_pos (by omega),hkh];rfl)
           subst hk0;clear HUU hkh bh1 bl bh2;go_wp2_with (fail);refine (e0F _ a ((M:Int)+1) 0 _ hcz.o).mono ?_;rintro e w' ⟨rfl,rfl⟩;go_wp2_with (fail);refine (HSL.o w0 _ b s c g tk HC.o _ lo (kh - 1) HLO.o BH.o HFK.o u HU2.o).mono ?_;rintro e W4 ⟨rfl,hT4,t4,C4,ht4⟩;have H4:=gh C4;have T4:Hid (Td (fun i=>i=g) W W4):=gh (HTW.o.trans hT4 (fun _ e=>e) (fun _ _ e=>e));have Q4:Hid (W4.rowIs q 2 M (b0R s a M)):=gh (HW.o.of_block (hT4.block q HW.o.lt HQG.o));cases u with
           | none=>
            have HR:Hid (R=none):=gh (by rw [E5.o];exact b0D HNX.o (by omega));clear hT4 C4 ht4 HC HW HTW r1;go_wp2;go_ret;exact ⟨by rw [HR.o];rfl,T4.o,t4,H4.o,fun u h=>by rw [HR.o] at h;cases h⟩
           | some u=>
            have:=ht4 u rfl
            subst this;clear hT4 C4 ht4 HC HW HTW r1;go_wp2;exact ⟨⟨1,_,by omega,by simp,HNX,H4,Q4,T4⟩,by simp [intOf]⟩
          ·omega
         ·by_cases hkM:k < M
          ·obtain ⟨kl,hkl⟩:∃ kl,ky s a k=kl:=⟨_,rfl⟩;have p1:wr.cell? ⟨q,k - 1,none⟩=some (.int .i64 kl):=by
            rw [HW.o.cell (by omega),b0R,if_pos (by omega),<- hkl,Nat.sub_add_cancel (by omega)]
           have p2:((k:Int) - 1).toNat=k - 1:=by omega
           have p3:(0:Int) < (k:Int):=by omega
           have p4:(k:Int) - 1 < (M:Int):=by omega
           have BL:Hid (I64 kl):=gh (by rw [<- hkl];exact HO.o.look _);obtain ⟨kh,hkh⟩:∃ kh,ky s a (k+1)=kh:=⟨_,rfl⟩;have r1:wr.cell? ⟨q,k,none⟩=some (.int .i64 kh):=by
            rw [HW.o.cell (by omega),b0R,if_pos (by omega),<- hkh]
           have r2:(k:Int) < (M:Int):=by omega
           have bh1:I64 kh:=by rw [<- hkh];exact HO.o.look _
           have bh2:lo < kh:=by
            have h1:=d0B.1 KB.o
            have:∀ j,j < M->lo < ky s a (j+1):=by
             intro j
             induction j with
             | zero=>intro hj;have:=(h1 0 (by omega)).1;rwa [lowZ,if_pos rfl] at this
             | succ j ih=>
              intro hj;have h2:=(h1 (j+1) (by omega)).1;rw [lowZ,if_neg (by omega)] at h2
              have:=ih (by omega)
              omega
            have:=this k (by omega)
            rwa [hkh] at this
           have bl:=HLO.o;have bh3:-9223372036854775808<=kh - 1:=by have:=bl.1;omega
           have bh4:kh - 1<=9223372036854775807:=by have:=bh1.2;omega
           have BH:Hid (I64 (kh - 1)):=gh ⟨bh3,bh4⟩;have HU2:Hid (a0G s (sndW s f) ((a:Int)+4+((M:Int)+1)+k) kl (kh - 1) tk=u):=gh (by
            rw [<- HUU.o];unfold kidG b0C lowZ e0Q;rw [if_neg hk0,hkl,if_pos (by omega),hkh];rfl)
           clear HUU hkl hkh bh1 bl bh2;go_wp2_with (fail);refine (e0F _ a ((M:Int)+1) k _ hcz.o).mono ?_;rintro e w' ⟨rfl,rfl⟩;go_wp2_with (fail);refine (HSL.o w0 _ b s c g tk HC.o _ kl (kh - 1) BL.o BH.o HFK.o u HU2.o).mono ?_;rintro e W4 ⟨rfl,hT4,t4,C4,ht4⟩;have H4:=gh C4;have T4:Hid (Td (fun i=>i=g) W W4):=gh (HTW.o.trans hT4 (fun _ e=>e) (fun _ _ e=>e));have Q4:Hid (W4.rowIs q 2 M (b0R s a M)):=gh (HW.o.of_block (hT4.block q HW.o.lt HQG.o));cases u with
           | none=>
            have HR:Hid (R=none):=gh (by rw [E5.o];exact b0D HNX.o (by omega));clear hT4 C4 ht4 HC HW HTW p1 r1;go_wp2;go_ret;exact ⟨by rw [HR.o];rfl,T4.o,t4,H4.o,fun u h=>by rw [HR.o] at h;cases h⟩
           | some u=>
            have:=ht4 u rfl
            subst this;clear hT4 C4 ht4 HC HW HTW p1 r1;go_wp2;exact ⟨⟨k+1,_,by omega,by simp,HNX,H4,Q4,T4⟩,by simp [intOf];omega⟩
          ·obtain ⟨kl,hkl⟩:∃ kl,ky s a k=kl:=⟨_,rfl⟩;have p1:wr.cell? ⟨q,k - 1,none⟩=some (.int .i64 kl):=by
            rw [HW.o.cell (by omega),b0R,if_pos (by omega),<- hkl,Nat.sub_add_cancel (by omega)]
           have p2:((k:Int) - 1).toNat=k - 1:=by omega
           have p3:(0:Int) < (k:Int):=by omega
           have p4:(k:Int) - 1 < (M:Int):=by omega
           have BL:Hid (I64 kl):=gh (by rw [<- hkl];exact HO.o.look _);have r2:¬ ((k:Int) < (M:Int)):=by omega
           have HU2:Hid (a0G s (sndW s f) ((a:Int)+4+((M:Int)+1)+k) kl hi tk=u):=gh (by
            rw [<- HUU.o];unfold kidG b0C lowZ e0Q;rw [if_neg hk0,hkl,if_neg (by omega)];rfl)
           clear HUU hkl;go_wp2_with (fail);refine (e0F _ a ((M:Int)+1) k _ hcz.o).mono ?_;rintro e w' ⟨rfl,rfl⟩;go_wp2_with (fail);refine (HSL.o w0 _ b s c g tk HC.o _ kl hi BL.o HHI.o HFK.o u HU2.o).mono ?_;rintro e W4 ⟨rfl,hT4,t4,C4,ht4⟩;have H4:=gh C4;have T4:Hid (Td (fun i=>i=g) W W4):=gh (HTW.o.trans hT4 (fun _ e=>e) (fun _ _ e=>e));have Q4:Hid (W4.rowIs q 2 M (b0R s a M)):=gh (HW.o.of_block (hT4.block q HW.o.lt HQG.o));cases u with
           | none=>
            have HR:Hid (R=none):=gh (by rw [E5.o];exact b0D HNX.o (by omega));clear hT4 C4 ht4 HC HW HTW p1;go_wp2;go_ret;exact ⟨by rw [HR.o];rfl,T4.o,t4,H4.o,fun u h=>by rw [HR.o] at h;cases h⟩
           | some u=>
            have:=ht4 u rfl
            subst this;clear hT4 C4 ht4 HC HW HTW p1;go_wp2;exact ⟨⟨k+1,_,by omega,by simp,HNX,H4,Q4,T4⟩,by simp [intOf];omega⟩
        ·have hkn':k=M+1:=by omega
         subst hkn';have j1:¬ (((M+1:Nat):Int) < (M:Int)+1):=by omega
         have HR:Hid (R=some tk):=gh (by rw [E5.o];exact HCH.o);clear HCH;go_wp2;go_ret;exact ⟨by rw [HR.o];rfl,HTW.o,tk,HC.o,fun u h=>by rw [HR.o] at h;cases h;rfl⟩
      ·subst hz0;go_wp2_with (fail);refine (i0K _ q M L HLL.o (by omega) HRD.o true HU.o).mono ?_;rintro e W2 ⟨rfl,hk⟩;have HK2:=gh hk;have H2:=gh (H1.o.on hk);have HQ2:Hid (W2.rowIs q 2 M (b0R s a M)):=gh (HQ.o.of_block (hk.block q HQ.o.lt (fun e=>e)));have T2:Hid (Td (fun i=>i=g) W W2):=gh (Kept.behind HT1.o hk);clear hk;have q1:W2.cell? ⟨q,0,none⟩=some (.int .i64 k1):=by
        rw [HQ2.o.cell (by omega),b0R,if_pos (by omega),<- HK1.o]
       have q2:W2.cell? ⟨q,M - 1,none⟩=some (.int .i64 kM):=by
        rw [HQ2.o.cell (by omega),b0R,if_pos (by omega),<- HKM.o,Nat.sub_add_cancel (by omega)]
       have q3:((M:Int) - 1).toNat=M - 1:=by omega
       have q4:(M:Int) - 1 < (M:Int):=by omega
       have q5:(0:Int) < (M:Int):=by omega
       have q6:=H2.o.c0;go_wp2_with (fail);refine (lk_p _ b s ((a:Int)+2) 1 H2.o.mem HZ.o).mono ?_;rintro e w' ⟨rfl,rfl⟩;clear q1 q2 q3 q4 q5 q6;go_wp2
       go_loopw [63] (fun v wr=>∃ (k:Nat) (tk:Tk),k<=M+1/\v=.int .i64 (k:Int)/\Hid (a0R (kidG s (sndW s f) a (M+1) lo hi) k t1=some tk)/\Hid (Chk w0 wr b s c g tk)/\Hid (wr.rowIs q 2 M (b0R s a M))/\Hid (Td (fun i=>i=g) W wr)) (fun v _=>M+1 - (intOf v).toNat)
       case atStart=>exact ⟨0,t1,by omega,by simp,START,H2,HQ2,T2⟩
       case round=>
        obtain ⟨k,tk,hk,rfl,HCH,HC,HW,HTW⟩:=hrel
        by_cases hkn:k < M+1
        ·have j1:(k:Int) < (M:Int)+1:=by omega
         have HFK:Hid (b0J (s.xs.length+1) tk < f):=gh (Nat.lt_of_le_of_lt (g0L (d0Q s f) HCH.o) HFR.o);have hcz:=gh (c0A (n:=a) (d:=(M:Int)+1) (i:=k) (by omega) (by omega) (by omega) (by omega) (by omega) (by omega));obtain ⟨u,hu⟩:∃ u,kidG s (sndW s f) a (M+1) lo hi k tk=u:=⟨_,rfl⟩;have HUU:=gh hu;have HNX:Hid (a0R (kidG s (sndW s f) a (M+1) lo hi) (k+1) t1=u):=gh (by rw [a0R,HCH.o];exact hu);clear hu HCH
         by_cases hk0:k=0
         ·by_cases hkM:k < M
          ·obtain ⟨kh,hkh⟩:∃ kh,ky s a (k+1)=kh:=⟨_,rfl⟩;have r1:wr.cell? ⟨q,k,none⟩=some (.int .i64 kh):=by
            rw [HW.o.cell (by omega),b0R,if_pos (by omega),<- hkh]
           have r2:(k:Int) < (M:Int):=by omega
           have bh1:I64 kh:=by rw [<- hkh];exact HO.o.look _
           have bh2:lo < kh:=by
            have h1:=d0B.1 KB.o
            have:∀ j,j < M->lo < ky s a (j+1):=by
             intro j
             induction j with
             | zero=>intro hj;have:=(h1 0 (by omega)).1;rwa [lowZ,if_pos rfl] at this
             | succ j ih=>
              intro hj;have h2:=(h1 (j+1) (by omega)).1;rw [lowZ,if_neg (by omega)] at h2
              have:=ih (by omega)
              omega
            have:=this k (by omega)
            rwa [hkh] at this
           have bl:=HLO.o;have bh3:-9223372036854775808<=kh - 1:=by have:=bl.1;omega
           have bh4:kh - 1<=9223372036854775807:=by have:=bh1.2;omega
           have BH:Hid (I64 (kh - 1)):=gh ⟨bh3,bh4⟩;have HU2:Hid (a0G s (sndW s f) ((a:Int)+4+((M:Int)+1)+k) lo (kh - 1) tk=u):=gh (by
            rw [<- HUU.o];unfold kidG b0C lowZ e0Q;rw [if_pos hk0,if_pos (by omega),hkh];rfl)
           subst hk0;clear HUU hkh bh1 bl bh2;go_wp2_with (fail);refine (e0F _ a ((M:Int)+1) 0 _ hcz.o).mono ?_;rintro e w' ⟨rfl,rfl⟩;go_wp2_with (fail);refine (HSL.o w0 _ b s c g tk HC.o _ lo (kh - 1) HLO.o BH.o HFK.o u HU2.o).mono ?_;rintro e W4 ⟨rfl,hT4,t4,C4,ht4⟩;have H4:=gh C4;have T4:Hid (Td (fun i=>i=g) W W4):=gh (HTW.o.trans hT4 (fun _ e=>e) (fun _ _ e=>e));have Q4:Hid (W4.rowIs q 2 M (b0R s a M)):=gh (HW.o.of_block (hT4.block q HW.o.lt HQG.o));cases u with
           | none=>
            have HR:Hid (R=none):=gh (by rw [E5.o];exact b0D HNX.o (by omega));clear hT4 C4 ht4 HC HW HTW r1;go_wp2;go_ret;exact ⟨by rw [HR.o];rfl,T4.o,t4,H4.o,fun u h=>by rw [HR.o] at h;cases h⟩
           | some u=>
            have:=ht4 u rfl
            subst this;clear hT4 C4 ht4 HC HW HTW r1;go_wp2;exact ⟨⟨1,_,by omega,by simp,HNX,H4,Q4,T4⟩,by simp [intOf]⟩
          ·omega
         ·by_cases hkM:k < M
          ·obtain ⟨kl,hkl⟩:∃ kl,ky s a k=kl:=⟨_,rfl⟩;have p1:wr.cell? ⟨q,k - 1,none⟩=some (.int .i64 kl):=by
            rw [HW.o.cell (by omega),b0R,if_pos (by omega),<- hkl,Nat.sub_add_cancel (by omega)]
           have p2:((k:Int) - 1).toNat=k - 1:=by omega
           have p3:(0:Int) < (k:Int):=by omega
           have p4:(k:Int) - 1 < (M:Int):=by omega
           have BL:Hid (I64 kl):=gh (by rw [<- hkl];exact HO.o.look _);obtain ⟨kh,hkh⟩:∃ kh,ky s a (k+1)=kh:=⟨_,rfl⟩;have r1:wr.cell? ⟨q,k,none⟩=some (.int .i64 kh):=by
            rw [HW.o.cell (by omega),b0R,if_pos (by omega),<- hkh]
           have r2:(k:Int) < (M:Int):=by omega
           have bh1:I64 kh:=by rw [<- hkh];exact HO.o.look _
           have bh2:lo < kh:=by
            have h1:=d0B.1 KB.o
            have:∀ j,j < M->lo < ky s a (j+1):=by
             intro j
             induction j with
             | zero=>intro hj;have:=(h1 0 (by omega)).1;rwa [lowZ,if_pos rfl] at this
             | succ j ih=>
              intro hj;have h2:=(h1 (j+1) (by omega)).1;rw [lowZ,if_neg (by omega)] at h2
              have:=ih (by omega)
              omega
            have:=this k (by omega)
            rwa [hkh] at this
           have bl:=HLO.o;have bh3:-9223372036854775808<=kh - 1:=by have:=bl.1;omega
           have bh4:kh - 1<=9223372036854775807:=by have:=bh1.2;omega
           have BH:Hid (I64 (kh - 1)):=gh ⟨bh3,bh4⟩;have HU2:Hid (a0G s (sndW s f) ((a:Int)+4+((M:Int)+1)+k) kl (kh - 1) tk=u):=gh (by
            rw [<- HUU.o];unfold kidG b0C lowZ e0Q;rw [if_neg hk0,hkl,if_pos (by omega),hkh];rfl)
           clear HUU hkl hkh bh1 bl bh2;go_wp2_with (fail);refine (e0F _ a ((M:Int)+1) k _ hcz.o).mono ?_;rintro e w' ⟨rfl,rfl⟩;go_wp2_with (fail);refine (HSL.o w0 _ b s c g tk HC.o _ kl (kh - 1) BL.o BH.o HFK.o u HU2.o).mono ?_;rintro e W4 ⟨rfl,hT4,t4,C4,ht4⟩;have H4:=gh C4;have T4:Hid (Td (fun i=>i=g) W W4):=gh (HTW.o.trans hT4 (fun _ e=>e) (fun _ _ e=>e));have Q4:Hid (W4.rowIs q 2 M (b0R s a M)):=gh (HW.o.of_block (hT4.block q HW.o.lt HQG.o));cases u with
           | none=>
            have HR:Hid (R=none):=gh (by rw [E5.o];exact b0D HNX.o (by omega));clear hT4 C4 ht4 HC HW HTW p1 r1;go_wp2;go_ret;exact ⟨by rw [HR.o];rfl,T4.o,t4,H4.o,fun u h=>by rw [HR.o] at h;cases h⟩
           | some u=>
            have:=ht4 u rfl
            subst this;clear hT4 C4 ht4 HC HW HTW p1 r1;go_wp2;exact ⟨⟨k+1,_,by omega,by simp,HNX,H4,Q4,T4⟩,by simp [intOf];omega⟩
          ·obtain ⟨kl,hkl⟩:∃ kl,ky s a k=kl:=⟨_,rfl⟩;have p1:wr.cell? ⟨q,k - 1,none⟩=some (.int .i64 kl):=by
            rw [HW.o.cell (by omega),b0R,if_pos (by omega),<- hkl,Nat.sub_add_cancel (by omega)]
           have p2:((k:Int) - 1).toNat=k - 1:=by omega
           have p3:(0:Int) < (k:Int):=by omega
           have p4:(k:Int) - 1 < (M:Int):=by omega
           have BL:Hid (I64 kl):=gh (by rw [<- hkl];exact HO.o.look _);have r2:¬ ((k:Int) < (M:Int)):=by omega
           have HU2:Hid (a0G s (sndW s f) ((a:Int)+4+((M:Int)+1)+k) kl hi tk=u):=gh (by
            rw [<- HUU.o];unfold kidG b0C lowZ e0Q;rw [if_neg hk0,hkl,if_neg (by omega)];rfl)
           clear HUU hkl;go_wp2_with (fail);refine (e0F _ a ((M:Int)+1) k _ hcz.o).mono ?_;rintro e w' ⟨rfl,rfl⟩;go_wp2_with (fail);refine (HSL.o w0 _ b s c g tk HC.o _ kl hi BL.o HHI.o HFK.o u HU2.o).mono ?_;rintro e W4 ⟨rfl,hT4,t4,C4,ht4⟩;have H4:=gh C4;have T4:Hid (Td (fun i=>i=g) W W4):=gh (HTW.o.trans hT4 (fun _ e=>e) (fun _ _ e=>e));have Q4:Hid (W4.rowIs q 2 M (b0R s a M)):=gh (HW.o.of_block (hT4.block q HW.o.lt HQG.o));cases u with
           | none=>
            have HR:Hid (R=none):=gh (by rw [E5.o];exact b0D HNX.o (by omega));clear hT4 C4 ht4 HC HW HTW p1;go_wp2;go_ret;exact ⟨by rw [HR.o];rfl,T4.o,t4,H4.o,fun u h=>by rw [HR.o] at h;cases h⟩
           | some u=>
            have:=ht4 u rfl
            subst this;clear hT4 C4 ht4 HC HW HTW p1;go_wp2;exact ⟨⟨k+1,_,by omega,by simp,HNX,H4,Q4,T4⟩,by simp [intOf];omega⟩
        ·have hkn':k=M+1:=by omega
         subst hkn';have j1:¬ (((M+1:Nat):Int) < (M:Int)+1):=by omega
         have HR:Hid (R=some tk):=gh (by rw [E5.o];exact HCH.o);clear HCH;go_wp2;go_ret;exact ⟨by rw [HR.o];rfl,HTW.o,tk,HC.o,fun u h=>by rw [HR.o] at h;cases h;rfl⟩
     ·have SB:Hid (d0U s a=false):=gh (by unfold d0U;rw [HZ.o];simp;omega);have HR:Hid (R=none):=gh (by rw [E4.o,KB.o,SB.o];rfl);have g1:(z == 0)=false:=by simp;omega
      have g2:(z != 0)=true:=by simp;omega
      have g3:(z == 1)=false:=by simp;omega
      have g4:(z != 1)=true:=by simp;omega
      clear hz01 SB E4;go_wp2_with (fail);refine (i0K _ q M L HLL.o (by omega) HRD.o true HU.o).mono ?_;rintro e W2 ⟨rfl,hk⟩;have HK2:=gh hk;have H2:=gh (H1.o.on hk);have HQ2:Hid (W2.rowIs q 2 M (b0R s a M)):=gh (HQ.o.of_block (hk.block q HQ.o.lt (fun e=>e)));have T2:Hid (Td (fun i=>i=g) W W2):=gh (Kept.behind HT1.o hk);clear hk;have q1:W2.cell? ⟨q,0,none⟩=some (.int .i64 k1):=by
       rw [HQ2.o.cell (by omega),b0R,if_pos (by omega),<- HK1.o]
      have q2:W2.cell? ⟨q,M - 1,none⟩=some (.int .i64 kM):=by
       rw [HQ2.o.cell (by omega),b0R,if_pos (by omega),<- HKM.o,Nat.sub_add_cancel (by omega)]
      have q3:((M:Int) - 1).toNat=M - 1:=by omega
      have q4:(M:Int) - 1 < (M:Int):=by omega
      have q5:(0:Int) < (M:Int):=by omega
      have q6:=H2.o.c0;go_wp2_with (fail);refine (lk_p _ b s ((a:Int)+2) z H2.o.mem HZ.o).mono ?_;rintro e w' ⟨rfl,rfl⟩;go_wp2;go_ret;exact ⟨by rw [HR.o];rfl,T2.o,t1,H2.o,fun u h=>by rw [HR.o] at h;cases h⟩
end
section
theorem b0Y (s:Mst) (f:Nat) (w lo hi:Int) (t:Tk):sndW s (f+1) w lo hi t =
  if kd w=1 then a0Y (s.xs.length+1) t (ad w).toNat 1
  else if kd w=2 then (if lo<=s.look (ad w)/\s.look (ad w)<=hi then a0Y (s.xs.length+1) t (ad w).toNat 2 else none)
  else if kd w=3 then a0W s (sndW s f) (ad w).toNat lo hi t
  else if kd w=4 then (if kd (s.look (ad w))=3 then (a0Y (s.xs.length+1) t (ad w).toNat 5).bind fun t1=>sndW s f (s.look (ad w)) lo hi t1 else none)
  else none:=rfl
set_option maxHeartbeats 1000000 in
set_option maxRecDepth 20000 in
theorem word_p:∀ f,WordC f
 | 0=>fun w0 W b s c g t C x lo hi hx hlo hhi hf r e1=>absurd hf (by omega)
 | f+1=>by
  have ih:=word_p f;have hS:=i0U f ih;intro w0 W b s c g t C x lo hi hx hlo hhi hf r e1;have c0:=C.c0;have H:=gh C;have HX:=gh hx;have HLO:=gh hlo;have HHI:=gh hhi;have HF:=gh hf;have IH:=gh ih;have HS:=gh hS;obtain ⟨k,hk⟩:∃ k,kd x=k:=⟨_,rfl⟩;obtain ⟨p,hp⟩:∃ p,ad x=p:=⟨_,rfl⟩;have kr:=a0U x;rw [hp] at kr;have HK:=gh hk;obtain ⟨a,rfl⟩:∃ a:Nat,p=(a:Int):=⟨p.toNat,by omega⟩;have HP:=gh hp;have hap:k≠0->1<=a:=fun h=>by
   have:=ad_pos (w:=x) (by rw [hk];exact h)
   rw [hp] at this;omega
  have HA:=gh hap;have a1:(a:Int)<=65536:=kr.2;have haN:(ad x).toNat=a:=by rw [hp];omega
  obtain ⟨z,hz⟩:∃ z,s.look (a:Int)=z:=⟨_,rfl⟩;have HZ:=gh hz;have HZB:Hid (I64 z):=gh (by rw [<- hz];exact C.ok.look _);have e2:r=if k=1 then a0Y (s.xs.length+1) t a 1
   else if k=2 then (if lo<=z/\z<=hi then a0Y (s.xs.length+1) t a 2 else none)
   else if k=3 then a0W s (sndW s f) a lo hi t
   else if k=4 then (if kd z=3 then (a0Y (s.xs.length+1) t a 5).bind fun t1=>sndW s f z lo hi t1 else none)
   else none:=by
   rw [<- e1,b0Y,hk,hp,hz,Int.toNat_natCast]
  have hkr:=r0M x;rw [hk] at hkr;have E2:=gh e2
  by_cases k1:k=1
  ·have HR:Hid (a0Y (s.xs.length+1) t a 1=r):=gh (by rw [E2.o,if_pos k1]);have ha:=hap (by omega);subst k1;clear C hx hlo hhi hf ih hS hk hp kr hap haN hz e1 e2 E2 hkr;go_enter Tryz.func120,Tryz.ntmps120;go_wp2_with (fail);refine (ak_p _ x a HX.o HP.o).mono ?_;rintro e w' ⟨rfl,rfl⟩;go_wp2_with (fail);refine (kk_p _ x 1 HX.o HK.o).mono ?_;rintro e w' ⟨rfl,rfl⟩;go_wp2_with (fail);refine (f0I w0 _ b s c g t H.o a 1 ha (by omega) (by omega) r HR.o).mono ?_;rintro e w' ⟨rfl,hT,hC⟩;have HC:=gh hC;have HT:=gh hT;clear hC hT H c0;go_wp2;go_ret;exact ⟨rfl,HT.o,HC.o⟩
  by_cases k2:k=2
  ·have ha:=hap (by omega);have e3:r=if lo<=z/\z<=hi then a0Y (s.xs.length+1) t a 2 else none:=by rw [E2.o,if_neg k1,if_pos k2]
   obtain ⟨u,hu⟩:∃ u,a0Y (s.xs.length+1) t a 2=u:=⟨_,rfl⟩;have HU:=gh hu;rw [hu] at e3;have E3:=gh e3;subst k2;clear C hx hlo hhi hf ih hS hk hp kr hap haN hz e1 e2 E2 hkr k1 hu e3;cases u with
   | none=>
    have HR:Hid (r=none):=gh (by rw [E3.o];split <;> rfl);go_enter Tryz.func120,Tryz.ntmps120;go_wp2_with (fail);refine (ak_p _ x a HX.o HP.o).mono ?_;rintro e w' ⟨rfl,rfl⟩;go_wp2_with (fail);refine (kk_p _ x 2 HX.o HK.o).mono ?_;rintro e w' ⟨rfl,rfl⟩;go_wp2_with (fail);refine (lk_p _ b s a z H.o.mem HZ.o).mono ?_;rintro e w' ⟨rfl,rfl⟩;go_wp2_with (fail);refine (f0I w0 _ b s c g t H.o a 2 ha (by omega) (by omega) none HU.o).mono ?_;rintro e w' ⟨rfl,hT,t',hC,_⟩;have HC:=gh hC;have HT:=gh hT;clear hC hT H c0;go_wp2;go_ret;exact ⟨by rw [HR.o];rfl,HT.o,t',HC.o,fun u h=>by rw [HR.o] at h;cases h⟩
   | some u=>
    by_cases hl1:lo<=z
    ·by_cases hl2:z<=hi
     ·have HR:Hid (r=some u):=gh (by rw [E3.o,if_pos ⟨hl1,hl2⟩]);go_enter Tryz.func120,Tryz.ntmps120;go_wp2_with (fail);refine (ak_p _ x a HX.o HP.o).mono ?_;rintro e w' ⟨rfl,rfl⟩;go_wp2_with (fail);refine (kk_p _ x 2 HX.o HK.o).mono ?_;rintro e w' ⟨rfl,rfl⟩;go_wp2_with (fail);refine (lk_p _ b s a z H.o.mem HZ.o).mono ?_;rintro e w' ⟨rfl,rfl⟩;go_wp2_with (fail);refine (f0I w0 _ b s c g t H.o a 2 ha (by omega) (by omega) (some u) HU.o).mono ?_;rintro e w' ⟨rfl,hT,t',hC,ht'⟩
      have:=ht' u rfl
      subst this;have HC:=gh hC;have HT:=gh hT;clear hC hT H c0 ht';go_wp2;go_ret;exact ⟨by rw [HR.o];rfl,HT.o,t',HC.o,fun u h=>by rw [HR.o] at h;cases h;rfl⟩
     ·have HR:Hid (r=none):=gh (by rw [E3.o,if_neg (fun h=>hl2 h.2)]);have g1:decide (z<=hi)=false:=by simp;omega
      have hl2':hi < z:=by omega
      clear hl2;go_enter Tryz.func120,Tryz.ntmps120;go_wp2_with (fail);refine (ak_p _ x a HX.o HP.o).mono ?_;rintro e w' ⟨rfl,rfl⟩;go_wp2_with (fail);refine (kk_p _ x 2 HX.o HK.o).mono ?_;rintro e w' ⟨rfl,rfl⟩;go_wp2_with (fail);refine (lk_p _ b s a z H.o.mem HZ.o).mono ?_;rintro e w' ⟨rfl,rfl⟩;go_wp2_with (fail);refine (f0I w0 _ b s c g t H.o a 2 ha (by omega) (by omega) (some u) HU.o).mono ?_;rintro e w' ⟨rfl,hT,t',hC,_⟩;have HC:=gh hC;have HT:=gh hT;clear hC hT H c0;go_wp2;go_ret;exact ⟨by rw [HR.o];rfl,HT.o,t',HC.o,fun u h=>by rw [HR.o] at h;cases h⟩
    ·have HR:Hid (r=none):=gh (by rw [E3.o,if_neg (fun h=>hl1 h.1)]);have g1:decide (lo<=z)=false:=by simp;omega
     have hl1':z < lo:=by omega
     clear hl1;go_enter Tryz.func120,Tryz.ntmps120;go_wp2_with (fail);refine (ak_p _ x a HX.o HP.o).mono ?_;rintro e w' ⟨rfl,rfl⟩;go_wp2_with (fail);refine (kk_p _ x 2 HX.o HK.o).mono ?_;rintro e w' ⟨rfl,rfl⟩;go_wp2_with (fail);refine (lk_p _ b s a z H.o.mem HZ.o).mono ?_;rintro e w' ⟨rfl,rfl⟩;go_wp2_with (fail);refine (f0I w0 _ b s c g t H.o a 2 ha (by omega) (by omega) (some u) HU.o).mono ?_;rintro e w' ⟨rfl,hT,t',hC,_⟩;have HC:=gh hC;have HT:=gh hT;clear hC hT H c0;go_wp2;go_ret;exact ⟨by rw [HR.o];rfl,HT.o,t',HC.o,fun u h=>by rw [HR.o] at h;cases h⟩
  by_cases k3:k=3
  ·have HR:Hid (a0W s (sndW s f) a lo hi t=r):=gh (by rw [E2.o,if_neg k1,if_neg k2,if_pos k3]);have ha:=hap (by omega);subst k3;clear C hx hlo hhi hf ih hS hk hp kr hap haN hz e1 e2 E2 hkr k1 k2;go_enter Tryz.func120,Tryz.ntmps120;go_wp2_with (fail);refine (ak_p _ x a HX.o HP.o).mono ?_;rintro e w' ⟨rfl,rfl⟩;go_wp2_with (fail);refine (kk_p _ x 3 HX.o HK.o).mono ?_;rintro e w' ⟨rfl,rfl⟩;go_wp2_with (fail);refine (n0J f HS.o w0 _ b s c g t H.o a lo hi ha (by omega) HLO.o HHI.o HF.o r HR.o).mono ?_;rintro e w' ⟨rfl,hT,hC⟩;have HC:=gh hC;have HT:=gh hT;clear hC hT H c0;go_wp2;go_ret;exact ⟨rfl,HT.o,HC.o⟩
  by_cases k4:k=4
  ·have ha:=hap (by omega);have e3:r=if kd z=3 then (a0Y (s.xs.length+1) t a 5).bind (fun t1=>sndW s f z lo hi t1) else none:=by rw [E2.o,if_neg k1,if_neg k2,if_neg k3,if_pos k4]
   obtain ⟨u,hu⟩:∃ u,a0Y (s.xs.length+1) t a 5=u:=⟨_,rfl⟩;have HU:=gh hu;obtain ⟨j,hj⟩:∃ j,kd z=j:=⟨_,rfl⟩;have HJ:=gh hj;rw [hu,hj] at e3;have E3:=gh e3;subst k4;clear C hx hlo hhi hf ih hS hk hp kr hap haN hz e1 e2 E2 hkr k1 k2 k3 e3 hj;cases u with
   | none=>
    have HR:Hid (r=none):=gh (by rw [E3.o];split <;> rfl);clear hu;go_enter Tryz.func120,Tryz.ntmps120;go_wp2_with (fail);refine (ak_p _ x a HX.o HP.o).mono ?_;rintro e w' ⟨rfl,rfl⟩;go_wp2_with (fail);refine (kk_p _ x 4 HX.o HK.o).mono ?_;rintro e w' ⟨rfl,rfl⟩;go_wp2_with (fail);refine (lk_p _ b s a z H.o.mem HZ.o).mono ?_;rintro e w' ⟨rfl,rfl⟩;go_wp2_with (fail);refine (f0I w0 _ b s c g t H.o a 5 ha (by omega) (by omega) none HU.o).mono ?_;rintro e w' ⟨rfl,hT,t',hC,_⟩;have HC:=gh hC;have HT:=gh hT;clear hC hT H c0;go_wp2;go_ret;exact ⟨by rw [HR.o];rfl,HT.o,t',HC.o,fun u h=>by rw [HR.o] at h;cases h⟩
   | some u=>
    have HFU:Hid (b0J (s.xs.length+1) u < f):=gh (by have:=c0D hu;have:=HF.o;omega);clear hu
    by_cases j3:j=3
    ·have HR:Hid (sndW s f z lo hi u=r):=gh (by rw [E3.o,if_pos j3];rfl);subst j3;go_enter Tryz.func120,Tryz.ntmps120;go_wp2_with (fail);refine (ak_p _ x a HX.o HP.o).mono ?_;rintro e w' ⟨rfl,rfl⟩;go_wp2_with (fail);refine (kk_p _ x 4 HX.o HK.o).mono ?_;rintro e w' ⟨rfl,rfl⟩;go_wp2_with (fail);refine (lk_p _ b s a z H.o.mem HZ.o).mono ?_;rintro e w' ⟨rfl,rfl⟩;go_wp2_with (fail);refine (f0I w0 _ b s c g t H.o a 5 ha (by omega) (by omega) (some u) HU.o).mono ?_;rintro e w' ⟨rfl,hT,t',hC,ht'⟩
     have:=ht' u rfl
     subst this;have HC:=gh hC;have HT:=gh hT;clear hC hT H c0 ht';go_wp2_with (fail);refine (kk_p _ z 3 HZB.o HJ.o).mono ?_;rintro e w'' ⟨rfl,rfl⟩;go_wp2_with (fail);refine (IH.o w0 _ b s c g _ HC.o z lo hi HZB.o HLO.o HHI.o HFU.o r HR.o).mono ?_;rintro e w'' ⟨rfl,hT,hC⟩;have HC2:=gh hC;have HT2:=gh (HT.o.trans hT (fun _ e=>e) (fun _ _ e=>e));clear hC hT HC HT;go_wp2;go_ret;exact ⟨rfl,HT2.o,HC2.o⟩
    ·have HR:Hid (r=none):=gh (by rw [E3.o,if_neg j3]);have g1:(j == 3)=false:=by simp [j3]
     have g2:(j != 3)=true:=by simp [j3]
     clear j3;go_enter Tryz.func120,Tryz.ntmps120;go_wp2_with (fail);refine (ak_p _ x a HX.o HP.o).mono ?_;rintro e w' ⟨rfl,rfl⟩;go_wp2_with (fail);refine (kk_p _ x 4 HX.o HK.o).mono ?_;rintro e w' ⟨rfl,rfl⟩;go_wp2_with (fail);refine (lk_p _ b s a z H.o.mem HZ.o).mono ?_;rintro e w' ⟨rfl,rfl⟩;go_wp2_with (fail);refine (f0I w0 _ b s c g t H.o a 5 ha (by omega) (by omega) (some u) HU.o).mono ?_;rintro e w' ⟨rfl,hT,t',hC,_⟩;have HC:=gh hC;have HT:=gh hT;clear hC hT H c0;go_wp2_with (fail);refine (kk_p _ z j HZB.o HJ.o).mono ?_;rintro e w'' ⟨rfl,rfl⟩;go_wp2;go_ret;exact ⟨by rw [HR.o];rfl,HT.o,t',HC.o,fun u h=>by rw [HR.o] at h;cases h⟩
  ·have HR:Hid (r=none):=gh (by rw [E2.o,if_neg k1,if_neg k2,if_neg k3,if_neg k4]);have g1:(k == 1)=false:=by simp [k1]
   have g2:(k == 2)=false:=by simp [k2]
   have g3:(k == 3)=false:=by simp [k3]
   have g4:(k == 4)=false:=by simp [k4]
   clear C hx hlo hhi hf ih hS hk hp kr hap haN hz e1 e2 E2 hkr k1 k2 k3 k4;go_enter Tryz.func120,Tryz.ntmps120;go_wp2_with (fail);refine (ak_p _ x a HX.o HP.o).mono ?_;rintro e w' ⟨rfl,rfl⟩;go_wp2_with (fail);refine (kk_p _ x k HX.o HK.o).mono ?_;rintro e w' ⟨rfl,rfl⟩;go_wp2;go_ret;exact ⟨by rw [HR.o];rfl,Td.refl _ _,t,H.o,fun u h=>by rw [HR.o] at h;cases h⟩
end
section
set_option maxRecDepth 20000 in
theorem i0E (w:World) (b:Nat) (s:Mst) (h:PM w b s) (ho:s.ok) (r:Bool) (e1:b0A s=r) :
  Calls Tryz.prog 15 #[.pointer (some ⟨b,0,none⟩)] w fun e w'=>e=.returned (.bool r)/\Kept w w':=by
 have H:=gh h;have HO:=gh ho;obtain ⟨z1,hz1⟩:∃ z,s.look 1=z:=⟨_,rfl⟩;obtain ⟨z3,hz3⟩:∃ z,s.look 3=z:=⟨_,rfl⟩;have H1:=gh hz1;have H3:=gh hz3;have e2:r=(decide (6<=s.xs.length) && (z1 == 1) && (z3 == 0) && (a0G s (sndW s (fuel s)) 6 (-9223372036854775808) 9223372036854775807 e0G).isSome):=by
  rw [<- e1,b0A,hz1,hz3]
 have E2:=gh e2;clear h ho hz1 hz3 e1 e2
 by_cases c1:z1=1
 ·by_cases c3:z3=0
  ·subst c1 c3;obtain ⟨N,hN⟩:∃ N,s.xs.length=N:=⟨_,rfl⟩;have HN:=gh hN;have HNi:Hid ((s.xs.length:Int)=(N:Int)):=gh (by omega);have n1:N<=65536:=by rw [<- hN];exact HO.o.2
   have hmk:=i0H (N+1) (by omega);rw [show ((N+1:Nat):Int)=(N:Int)+1 from rfl] at hmk;clear hN;go_enter Tryz.func15,Tryz.ntmps15;go_wp2_with (fail);refine (lk_p _ b s 1 1 H.o H1.o).mono ?_;rintro e w' ⟨rfl,rfl⟩;go_wp2_with (fail);refine (lk_p _ b s 3 0 H.o H3.o).mono ?_;rintro e w' ⟨rfl,rfl⟩;go_wp2_with (fail);refine (n0V _ b s N H.o HNi.o).mono ?_;rintro e w' ⟨rfl,rfl⟩;go_wp2_with (fail);have C0:Chk w ((w.alloc (.cells (madeCells #[.bool false] (N+1)) 4)).alloc (.cells #[.pointer (some ⟨b,0,none⟩),.slice (some ⟨w.heap.size,0,none⟩) (N+1) (N+1)] 126)) b s (w.heap.size+1) w.heap.size (fun _=>false):=by
    refine ⟨H.o,HO.o,((Kept.refl w).alloc _).alloc _,by omega,Nat.le_refl _,by omega,?_,?_⟩
    ·rw [HN.o]
     have:=a0C (w.alloc (.cells (madeCells #[.bool false] (N+1)) 4)) (.cells #[.pointer (some ⟨b,0,none⟩),.slice (some ⟨w.heap.size,0,none⟩) (N+1) (N+1)] 126)
     rwa [show (w.alloc (.cells (madeCells #[.bool false] (N+1)) 4)).heap.size=w.heap.size+1 by simp] at this
    ·rw [HN.o];exact (World.rowIs_made w (.bool false) (N+1) 4).alloc _
   have HC:=gh C0;obtain ⟨W1,hW1⟩:∃ W1,((w.alloc (.cells (madeCells #[.bool false] (N+1)) 4)).alloc (.cells #[.pointer (some ⟨b,0,none⟩),.slice (some ⟨w.heap.size,0,none⟩) (N+1) (N+1)] 126))=W1:=⟨_,rfl⟩;rw [hW1] at HC ⊢;clear hW1 C0 hmk
   by_cases h6:6<=N
   ·have HT:Hid (a0Y (s.xs.length+1) (fun _=>false) 1 6=some e0G):=gh (by
     rw [HN.o,a0Y,if_pos]
     ·rfl
     ·simp [f0E];omega)
    have HFU:Hid (b0J (s.xs.length+1) e0G < fuel s):=gh (by
     have:=h0T (s.xs.length+1) e0G
     unfold fuel;omega)
    refine (f0I w _ b s _ _ _ HC.o 1 6 (by omega) (by omega) (by omega) _ HT.o).mono ?_;rintro e W2 ⟨rfl,hT,t',hC,ht'⟩
    have:=ht' _ rfl
    subst this;have HC2:=gh hC;clear hT hC ht' HC;obtain ⟨u,hu⟩:∃ u,a0G s (sndW s (fuel s)) 6 (-9223372036854775808) 9223372036854775807 e0G=u:=⟨_,rfl⟩;have HU:=gh hu;have HR:Hid (r=u.isSome):=gh (by rw [E2.o,hu,HN.o];simp [h6]);clear hu;go_wp2_with (fail);refine (i0U _ (word_p (fuel s)) w _ b s _ _ _ HC2.o 6 (-9223372036854775808) 9223372036854775807 ⟨by decide,by decide⟩ ⟨by decide,by decide⟩ HFU.o u HU.o).mono ?_;rintro e W3 ⟨rfl,hT,t',hC,ht'⟩;have HC3:=gh hC;clear hT hC ht' HC2;go_wp2;go_ret;exact ⟨by rw [HR.o];rfl,HC3.o.kept⟩
   ·have HT:Hid (a0Y (s.xs.length+1) (fun _=>false) 1 6=none):=gh (by
     rw [HN.o,a0Y,if_neg];simp;omega)
    have HR:Hid (r=false):=gh (by rw [E2.o,HN.o];simp [h6]);refine (f0I w _ b s _ _ _ HC.o 1 6 (by omega) (by omega) (by omega) _ HT.o).mono ?_;rintro e W2 ⟨rfl,hT,t',hC,ht'⟩;have HC2:=gh hC;clear hT hC ht' HC;go_wp2;go_ret;exact ⟨by rw [HR.o];rfl,HC2.o.kept⟩
  ·have HR:Hid (r=false):=gh (by rw [E2.o];simp [c3]);have g1:(z3 == 0)=false:=by simp [c3]
   have g2:(z3 != 0)=true:=by simp [c3]
   subst c1;clear c3;go_enter Tryz.func15,Tryz.ntmps15;go_wp2_with (fail);refine (lk_p _ b s 1 1 H.o H1.o).mono ?_;rintro e w' ⟨rfl,rfl⟩;go_wp2_with (fail);refine (lk_p _ b s 3 z3 H.o H3.o).mono ?_;rintro e w' ⟨rfl,rfl⟩;go_wp2;go_ret;exact ⟨by rw [HR.o];rfl,Kept.refl _⟩
 ·have HR:Hid (r=false):=gh (by rw [E2.o];simp [c1]);have g1:(z1 == 1)=false:=by simp [c1]
  have g2:(z1 != 1)=true:=by simp [c1]
  clear c1;go_enter Tryz.func15,Tryz.ntmps15;go_wp2_with (fail);refine (lk_p _ b s 1 z1 H.o H1.o).mono ?_;rintro e w' ⟨rfl,rfl⟩;go_wp2;go_ret;exact ⟨by rw [HR.o];rfl,Kept.refl _⟩
end
section
section
variable (s:Mst)
def tgt (w:Int):Int:=if kd w=4 then s.look (ad w) else w
def atN (w:Int):Nat:=(ad (tgt s w)).toNat
def degN (w:Int):Nat:=(s.look (ad (tgt s w))).toNat
def a0M (w:Int):List (Int × Int):=if kd (tgt s w)=3 then (List.range (degN s w)).map (fun i:Nat=>((i:Int),b0C (atN s w) (degN s w) i)) else []
structure WfH (w:Int):Prop where
 i64:I64 w
 deg:kd (tgt s w)=3->2<=s.look (ad (tgt s w))/\s.look (ad (tgt s w))<=40000
 tg:kd w=4->kd (tgt s w)=3
def Wf:Nat->Int->Prop
 | 0,_=>False
 | f+1,w=>WfH s w/\∀ p ∈ a0M s w,Wf f (s.logicZ p.2)
def a0L:Nat->Int->List (Int × Int)
 | 0,_=>[]
 | f+1,w=>(a0M s w).flatMap (fun p=>(p.2,s.logicZ p.2) :: a0L f (s.logicZ p.2))
end
theorem p0S {s:Mst} (ho:s.ok) {w:Int} (h:I64 w):I64 (tgt s w):=by
 unfold tgt;split
 ·exact ho.look _
 ·exact h
theorem t0K {s:Mst} {w:Int} (h:kd (tgt s w)=3):tgt s (tgt s w)=tgt s w:=by
 rw [tgt,if_neg (by rw [h];decide)]
theorem Wf.mono {s:Mst}:∀ {f g:Nat} {w:Int},Wf s f w->f<=g->Wf s g w
 | 0,_,_,h,_=>h.elim
 | f+1,0,_,_,h=>absurd h (by omega)
 | f+1,g+1,_,h,hg=>⟨h.1,fun p hp=>(h.2 p hp).mono (by omega)⟩
theorem Wf.pos {s:Mst} {f:Nat} {w:Int} (h:Wf s f w):∃ g,f=g+1/\WfH s w/\∀ p ∈ a0M s w,Wf s g (s.logicZ p.2):=by
 cases f with
 | zero=>exact h.elim
 | succ f=>exact ⟨f,rfl,h.1,h.2⟩
theorem Wf.up {s:Mst} {f:Nat} {w:Int} (hi:I64 w) (hk:kd (s.look (ad w))=3) (h4:kd w=4) (h:Wf s f (s.look (ad w))):Wf s f w:=by
 obtain ⟨g,rfl,h1,h2⟩:=h.pos;have e1:tgt s w=s.look (ad w):=by rw [tgt,if_pos h4]
 have e2:tgt s (s.look (ad w))=s.look (ad w):=by rw [tgt,if_neg (by rw [hk];decide)]
 have e3:a0M s w=a0M s (s.look (ad w)):=by unfold a0M degN atN;rw [e1,e2]
 refine ⟨⟨hi,?_,?_⟩,?_⟩
 ·rw [e1,<- e2];exact h1.deg
 ·intro _;rw [e1];exact hk
 ·rw [e3];exact h2
theorem p0I {s:Mst} {W:Int->Int->Int->Tk->Option Tk} {a d:Nat} {lo hi:Int} {n:Nat} {t u:Tk} (h:a0R (kidG s W a d lo hi) n t=some u):∀ i,i < n->∃ l h t' u',W (s.logicZ (b0C a d i)) l h t'=some u':=by
 induction n generalizing u with
 | zero=>intro i hi;omega
 | succ n ih=>
  rw [a0R,Option.bind_eq_some_iff] at h;obtain ⟨v,h1,h2⟩:=h;intro i hi
  by_cases e:i=n
  ·subst e;unfold kidG a0G at h2
   split at h2
   ·exact ⟨_,_,_,_,h2⟩
   ·cases h2
  ·exact ih h1 i (by omega)
theorem d0P {s:Mst} (ho:s.ok):∀ (f:Nat) (w lo hi:Int) (t u:Tk),I64 w->sndW s f w lo hi t=some u->Wf s f w
 | 0,_,_,_,_,_,_,h=>by cases h
 | f+1,w,lo,hi,t,u,hw,h=>by
  have ih:=d0P ho f;rw [b0Y] at h;have plain:kd w≠3->kd w≠4->Wf s (f+1) w:=fun h3 h4=>by
   have e:tgt s w=w:=by rw [tgt,if_neg h4]
   refine ⟨⟨hw,fun h'=>absurd (e ▸ h') h3,fun h'=>absurd h' h4⟩,?_⟩;unfold a0M;rw [e,if_neg h3];intro p hp;cases hp
  split at h
  ·rename_i k;exact plain (by omega) (by omega)
  ·split at h
   ·rename_i k;exact plain (by omega) (by omega)
   ·split at h
    ·rename_i k3;have e:tgt s w=w:=by rw [tgt,if_neg (by omega)]
     have ha:=a0U w;unfold a0W at h;have ea:(((ad w).toNat:Nat):Int)=ad w:=by omega
     rw [ea] at h
     split at h
     ·cases h
     ·rename_i hd;rw [Option.bind_eq_some_iff] at h;obtain ⟨t1,h1,h2⟩:=h
      split at h2
      ·have hfit:(s.look (ad w)).toNat<=40000:=by
        unfold a0Y at h1
        split at h1
        ·rename_i c;simp only [Bool.and_eq_true,decide_eq_true_eq] at c
         have:=ho.2
         omega
        ·cases h1
       refine ⟨⟨hw,fun _=>by rw [e];omega,fun h'=>by omega⟩,?_⟩;unfold a0M;rw [e,if_pos k3];intro p hp;rw [List.mem_map] at hp;obtain ⟨i,hi,rfl⟩:=hp;simp only [List.mem_range,degN,e] at hi;obtain ⟨l,h',t',u',h3⟩:=p0I h2 i hi;have h4:=ih _ _ _ _ _ (ho.logic _) h3;simpa [degN,atN,e] using h4
      ·cases h2
    ·split at h
     ·rename_i k4
      split at h
      ·rename_i k3;rw [Option.bind_eq_some_iff] at h;obtain ⟨t1,h1,h2⟩:=h;exact ((ih _ _ _ _ _ (ho.look _) h2).up hw k3 k4).mono (by omega)
      ·cases h
     ·cases h
theorem j0T {s:Mst} (ho:s.ok) (h:b0A s=true):Wf s (fuel s) (s.logicZ 6):=by
 unfold b0A at h;simp only [Bool.and_eq_true] at h;have h4:=h.2;cases e:a0G s (sndW s (fuel s)) 6 (-9223372036854775808) 9223372036854775807 e0G with
 | none=>rw [e] at h4;cases h4
 | some u=>
  unfold a0G at e
  split at e
  ·exact d0P ho _ _ _ _ _ _ (ho.logic _) e
  ·cases e
end
section
theorem Td.putObj (w:World) (l:Nat) (o:Obj) {R:Nat->Prop} (h:R l):Td R w (w.putObj l o):=
 ⟨rfl,rfl,rfl,by simp,fun k _ hn=>World.putObj_heap_other (fun e=>hn (by rw [e];exact h))⟩
theorem Td.boxed {R:Nat->Prop} {a b:World} (h:Td R a b) {B:Nat} {t:TypeId} {v:Value} (hb:Boxed a B t v) (hn:¬ R B):Boxed b B t v:=h.heap hb hn
end
section
def Sub (O' O:Nat->Prop) (n:Nat):Prop:=∀ k,O' k->O k∨n<=k
theorem Sub.refl (O:Nat->Prop) (n:Nat):Sub O O n:=fun _ h=>.inl h
theorem Sub.trans {O'' O' O:Nat->Prop} {n m:Nat} (h:Sub O'' O' m) (h':Sub O' O n) (hnm:n<=m):Sub O'' O n:=fun k hk=>(h k hk).elim (h' k) (fun e=>.inr (Nat.le_trans hnm e))
theorem Td.sub {O O':Nat->Prop} {a b c:World} (h:Td O a b) (h':Td O' b c) (hs:Sub O' O a.heap.size):Td O a c:=
 h.trans h' (fun _ e=>e) (fun i hi e=>(hs i e).elim id (fun e'=>by omega))
abbrev Inv (α:Type):=(Nat->Prop)->List α->World->Prop
structure Good {α:Type} (J:Inv α):Prop where
 abides:∀ O pre A B,J O pre A->Td (fun k=>¬ O k) A B->J O pre B
 within:∀ O pre A,J O pre A->∀ k,O k->k < A.heap.size
def p0M {α:Type} (J Jx:Inv α) (O:Nat->Prop) (pre:List α) (A:World) (e:Ending) (B:World):Prop:=
 ∃ O',Sub O' O A.heap.size/\Td O A B/\((e=.returned (.bool true)/\J O' pre B)∨(e=.returned (.bool false)/\Jx O' pre B))
def Iter {α:Type} (P:Program) (g:Nat) (lb:Array Value) (encs:α->Array Value) (xs:List α) (R:Nat->Prop) (W:World):Prop:=
 ∀ (l:Nat) (O₀:Nat->Prop) (J Jx:Inv α),(∀ k,R k->¬ O₀ k)->Good J->Good Jx->
  (∀ O pre x rest A,xs=pre++x :: rest->Td O₀ W A->Sub O O₀ W.heap.size->J O pre A->YieldAt Fence.wide 9 P l (encs x) A (p0M J Jx O (pre++[x]) A))->
  J O₀ [] W->
  Calls P g (#[.func (.yield l) #[] #[]]++lb) W fun e W'=>(∃ v,e=.returned v)/\∃ O',Sub O' O₀ W.heap.size/\Td O₀ W W'/\(J O' xs W'∨∃ pre rest,xs=pre++rest/\Jx O' pre W')
def h0Z {α:Type} (I:Inv α) (Ix:Code->Inv α) (O:Nat->Prop) (pre:List α) (A:World):Exit->Act->World->Prop
 | .normal,_,B=>∃ O',Sub O' O A.heap.size/\Td O A B/\I O' pre B
 | .ret,_,B=>∃ O',Sub O' O A.heap.size/\Td O A B/\Ix .ret O' pre B
 | .exit id,_,B=>∃ O',Sub O' O A.heap.size/\Td O A B/\Ix (.exit id) O' pre B
 | .goto t,_,B=>∃ O',Sub O' O A.heap.size/\Td O A B/\Ix (.goto t) O' pre B
 | .panic _,_,_=>False
 | .outgrown,_,_=>False
def With (O:Nat->Prop) (D:Nat):Nat->Prop:=fun k=>O k∨k=D∨k=D+1
def j0G {α:Type} (I:Inv α) (D:Nat) (o:Obj):Inv α:=fun OO pre W=>
 ∃ O,(∀ k,OO k↔With O D k)/\¬ O D/\¬ O (D+1)/\I O pre W/\W.heap[D+1]? = some o/\W.heap[D]? = some (.deferred (some []))
theorem j0G.good {α:Type} {I:Inv α} (h:Good I) (D:Nat) (o:Obj):Good (j0G I D o):=by
 constructor
 ·rintro OO pre A B ⟨O,e,h1,h2,hi,hl,hd⟩ ht;have ho:∀ k,With O D k->k < A.heap.size->B.heap[k]? = A.heap[k]?:=fun k hk hlt=>ht.block k hlt (fun hn=>hn ((e k).2 hk));refine ⟨O,e,h1,h2,h.abides O pre A B hi (ht.mono fun k _ hk hn=>hk ((e k).2 (.inl hn))),?_,?_⟩
  ·exact (ho _ (.inr (.inr rfl)) (Array.getElem?_eq_some_iff.1 hl).1).trans hl
  ·exact (ho _ (.inr (.inl rfl)) (Array.getElem?_eq_some_iff.1 hd).1).trans hd
 ·rintro OO pre A ⟨O,e,_,_,hi,hl,hd⟩ k hk;rcases (e k).1 hk with hk | rfl | rfl
  ·exact h.within O pre A hi k hk
  ·exact (Array.getElem?_eq_some_iff.1 hd).1
  ·exact (Array.getElem?_eq_some_iff.1 hl).1
theorem Good.ex {α:Type} {β:Type} {I:β->Inv α} (h:∀ c,Good (I c)):Good (fun O pre W=>∃ c,I c O pre W):=
 ⟨fun O pre A B ⟨c,hi⟩ ht=>⟨c,(h c).abides O pre A B hi ht⟩,fun O pre A ⟨c,hi⟩=>(h c).within O pre A hi⟩
theorem wp_range {P:Program} {α:Type} {n:Nat} {g:Operand} {ps:Array Tmp} {assign body:Code} {Q:Exit->Act->World->Prop} {a:Act} {w:World}
  {gf:Nat} {lb:Array Value} (hg:a.eval g=.func (.func gf) #[] lb) (eg:∀ args w,(callFunc gf args).run P w=.ok (.enter gf args) w)
  {encs:α->Array Value} {xs:List α} {R:Nat->Prop} (hit:∀ W,Td (fun _=>False) w W->Iter P gf lb encs xs R W) (hps:∀ x,(encs x).size=ps.size)
  (O₀:Nat->Prop) (I:Inv α) (Ix:Code->Inv α) (hR:∀ k,R k->k < w.heap.size/\¬ O₀ k) (hI:Good I) (hIx:∀ c,Good (Ix c)) (h0:I O₀ [] w) (a₁:α->Act)
  (hassign:∀ (l:Nat) (x:α) (W:World) (K:Act->World->Prop),K (a₁ x) W->
   assign.wpIn (Fence.wide.inRound l) 9 P (Exit.then K (fun _ _ _=>False)) { tmps:=(ps.zip (encs x)).foldl (fun t (p,v)=>t.setIfInBounds p v) a.tmps,defers:=[] } W)
  (hbody:∀ (l:Nat) (O:Nat->Prop) (pre:List α) (x:α) (rest:List α) (W:World),xs=pre++x :: rest->Td O₀ w W->Sub O O₀ w.heap.size->I O pre W->
   body.wpIn (Fence.wide.inRound l) 9 P (h0Z I Ix O (pre++[x]) W) (a₁ x) W)
  (hdone:∀ (D:Nat) (O:Nat->Prop) (W:World),w.heap.size<=D->¬ O D->Td O₀ w W->Sub O O₀ w.heap.size->I O xs W->W.heap[D]? = some (.deferred (some []))->
   Q .normal { a with defers:={ target:=.collected D,args:=#[] } :: a.defers } W)
  (hstop:∀ (D:Nat) (O:Nat->Prop) (c:Code) (pre rest:List α) (W:World),w.heap.size<=D->¬ O D->Td O₀ w W->Sub O O₀ w.heap.size->xs=pre++rest->Ix c O pre W->W.heap[D]? = some (.deferred (some []))->
   c.wpIn Fence.wide n P Q { a with defers:={ target:=.collected D,args:=#[] } :: a.defers } W) :
  (Code.rangeFunc g ps assign body).wpIn Fence.wide n P Q a w:=by
 refine wpIn_rangeFunc ?_;intro fn hfn;obtain ⟨rec,hrec⟩:∃ rec:LoopState->Option Code->Loop,rec=fun st pe=>{ state:=st,pending:=pe,fn,tmps:=a.tmps,params:=ps,assign,body,defers:=w.heap.size }:=⟨_,rfl⟩;obtain ⟨D,hD⟩:∃ D,w.heap.size=D:=⟨_,rfl⟩;obtain ⟨W1,hW1⟩:∃ W1,(w.alloc (.deferred (some []))).alloc (.loop (rec .ready none))=W1:=⟨_,rfl⟩;have t1:Td (fun _=>False) w W1:=by
  rw [<- hW1];exact (Td.alloc _ w _).trans (Td.alloc _ _ _) (fun _ h=>h) (fun _ _ h=>h)
 have z1:W1.heap.size=D+2:=by rw [<- hW1,World.size_alloc,World.size_alloc,hD]
 have hl1:W1.heap[D+1]? = some (.loop (rec .ready none)):=by
  rw [<- hW1,<- hD]
  have:=World.alloc_heap_new (w.alloc (.deferred (some []))) (.loop (rec .ready none))
  rwa [World.size_alloc] at this
 have hd1:W1.heap[D]? = some (.deferred (some [])):=by
  rw [<- hW1,<- hD];exact (Below.heap_alloc _ _ _ (by simp)).trans (World.alloc_heap_new w _)
 have w0:∀ k,O₀ k->k < D:=fun k hk=>by rw [<- hD];exact hI.within O₀ [] w h0 k hk
 have hi1:I O₀ [] W1:=hI.abides O₀ [] w W1 h0 (t1.mono fun _ _ h=>h.elim);have back:∀ {OO:Nat->Prop} {A:World},Td OO W1 A->(∀ k,OO k↔With O₀ D k)->Td O₀ w A:=fun {OO A} h e=>
  t1.trans h (fun _ h=>h.elim) (fun i hi hk=>by
   rcases (e i).1 hk with hk | rfl | rfl
   ·exact hk
   ·omega
   ·omega)
 have e0:∀ k,With O₀ D k↔With O₀ D k:=fun _=>Iff.rfl;refine ⟨D+1,[{ target:=.collected D,args:=#[] }],W1,{ target:=.fn (.func gf) lb,args:=#[.func (.yield (D+1)) #[] #[]] },W1,gf,
  #[.func (.yield (D+1)) #[] #[]]++lb,W1,?_,?_,fun _ _=>trivial,?_,fun h=>by simp [Fence.wide] at h,?_⟩
 ·rw [<- hW1,<- hD,hrec];exact run_enterLoop_outer _ _ _ _ _
 ·simp only [resolve,hg];simp [go_sem]
 ·simp [invoke,go_sem,eg]
 ·have hc:=hit W1 t1 (D+1) (With O₀ D) (j0G I D (.loop (rec .ready none))) (fun OO pre W=>∃ c,j0G (Ix c) D (.loop (rec .done (some c))) OO pre W)
   (fun k hk hO=>by
    obtain ⟨hk1,hk2⟩:=hR k hk;rcases hO with hO | rfl | rfl
    ·exact hk2 hO
    ·omega
    ·omega)
   (j0G.good hI D _) (Good.ex fun c=>j0G.good (hIx c) D _) ?_ ⟨O₀,e0,fun h=>by have:=w0 _ h;omega,fun h=>by have:=w0 _ h;omega,hi1,hl1,hd1⟩
  ·refine callsIn_wide.2 (hc.mono ?_);rintro e W2 ⟨⟨v,rfl⟩,OO,hsub,ht,hJ⟩;have tb:=back ht e0;rcases hJ with ⟨O,e,n1,n2,hi,hl,hd⟩ | ⟨pre,rest,hx,c,O,e,n1,n2,hi,hl,hd⟩
   ·obtain ⟨o,hr⟩:∃ o,(Instr.endLoop (D+1)).run P W2=.ok none (W2.putObj (D+1) o):=⟨_,by have:=run_endLoop (P:=P) hl (by rw [hrec];simp);rw [hrec] at this;exact this⟩;have hput:Td (fun k=>k=D+1) W2 (W2.putObj (D+1) o):=Td.putObj _ _ _ rfl;refine ⟨none,_,hr,?_⟩;refine hdone D O _ (by omega) n1 (tb.trans hput (fun _ h=>h) (fun i hi h=>by omega)) ?_ (hI.abides O xs W2 _ hi (hput.mono fun k _ hk hO=>n2 (by rw [<- hk];exact hO))) ((World.putObj_heap_other (by omega)).trans hd);intro k hk;rcases hsub k ((e k).2 (.inl hk)) with (h | rfl | rfl) | h
    ·exact .inl h
    ·exact (n1 hk).elim
    ·exact (n2 hk).elim
    ·exact .inr (by omega)
   ·obtain ⟨o,hr⟩:∃ o,(Instr.endLoop (D+1)).run P W2=.ok (some c) (W2.putObj (D+1) o):=⟨_,by have:=run_endLoop (P:=P) hl (by rw [hrec];simp);rw [hrec] at this;exact this⟩;have hput:Td (fun k=>k=D+1) W2 (W2.putObj (D+1) o):=Td.putObj _ _ _ rfl;refine ⟨some c,_,hr,?_⟩;refine hstop D O c pre rest _ (by omega) n1 (tb.trans hput (fun _ h=>h) (fun i hi h=>by omega)) ?_ hx ((hIx c).abides O pre W2 _ hi (hput.mono fun k _ hk hO=>n2 (by rw [<- hk];exact hO))) ((World.putObj_heap_other (by omega)).trans hd);intro k hk;rcases hsub k ((e k).2 (.inl hk)) with (h | rfl | rfl) | h
    ·exact .inl h
    ·exact (n1 hk).elim
    ·exact (n2 hk).elim
    ·exact .inr (by omega)
  ·-- one round
   rintro OO pre x rest A hx tA hsA ⟨O,e,n1,n2,hi,hl,hd⟩;have hlt:D+1 < A.heap.size:=(Array.getElem?_eq_some_iff.1 hl).1;have tb:=back tA e0;have sO:Sub O O₀ w.heap.size:=fun k hk=>by
    rcases hsA k ((e k).2 (.inl hk)) with (h | rfl | rfl) | h
    ·exact .inl h
    ·exact (n1 hk).elim
    ·exact (n2 hk).elim
    ·exact .inr (by omega)
   have hy:=run_yield (P:=P) (args:=encs x) hl (by rw [hrec];exact hps x);rw [hrec] at hy;refine ⟨fn,_,assign,body,hy,roundIn_of_wpIn hfn (hassign _ x A _ ⟨_,run_beginRound hl (by rw [hrec]),?_⟩)⟩;clear hy;obtain ⟨A1,hA1⟩:∃ A1,A.putObj (D+1) (.loop { rec .ready none with state:=.busy })=A1:=⟨_,rfl⟩;rw [hA1];have hput:Td (fun k=>k=D+1) A A1:=by rw [<- hA1];exact Td.putObj _ _ _ rfl
   have hl2:A1.heap[D+1]? = some (.loop { rec .ready none with state:=.busy }):=by rw [<- hA1];exact World.putObj_heap_same hlt
   have hd2:A1.heap[D]? = some (.deferred (some [])):=by rw [<- hA1];exact (World.putObj_heap_other (by omega)).trans hd
   have zA:A1.heap.size=A.heap.size:=by rw [<- hA1];simp
   have hi2:I O pre A1:=hI.abides O pre A A1 hi (hput.mono fun k _ hk hO=>n2 (by rw [<- hk];exact hO));have fin:∀ (jump:Option Code) (B:World),Td O A1 B->
     (Instr.endRound (D+1) jump).run P B=.ok (.bool jump.isNone) (B.putObj (D+1) (.loop (rec (if jump.isNone then .ready else .done) jump)))/\
     (B.putObj (D+1) (.loop (rec (if jump.isNone then .ready else .done) jump))).heap[D+1]? = some (.loop (rec (if jump.isNone then .ready else .done) jump))/\
     (B.putObj (D+1) (.loop (rec (if jump.isNone then .ready else .done) jump))).heap[D]? = some (.deferred (some []))/\
     Td OO A (B.putObj (D+1) (.loop (rec (if jump.isNone then .ready else .done) jump))):=fun jump B tB=>by
    have hl3:=tB.heap hl2 n2;have hd3:=tB.heap hd2 n1;have hr:=run_endRound (P:=P) jump hl3;rw [hrec] at hr ⊢;refine ⟨hr,World.putObj_heap_same (Array.getElem?_eq_some_iff.1 hl3).1,(World.putObj_heap_other (by omega)).trans hd3,?_⟩;refine (hput.trans (tB.trans (Td.putObj (R:=fun k=>k=D+1) B (D+1) _ rfl) (R'':=OO) (fun k hk=>(e k).2 (.inl hk)) (fun k _ hk=>(e k).2 (.inr (.inr hk)))) (fun k hk=>(e k).2 (.inr (.inr hk))) (fun _ _ h=>h))
   have fol:∀ {O':Nat->Prop} {J':Inv α} {o:Obj} {B:World} {ys:List α},Good J'->Sub O' O A1.heap.size->Td O A1 B->J' O' ys B->(∀ k,O' k->k < B.heap.size)->
     (B.putObj (D+1) o).heap[D+1]? = some o->(B.putObj (D+1) o).heap[D]? = some (.deferred (some []))->Sub (With O' D) OO A.heap.size/\j0G J' D o (With O' D) ys (B.putObj (D+1) o):=fun {O' J' o B ys} gJ s' tB hj wi q1 q2=>by
    have m1:¬ O' D:=fun h=>(s' D h).elim n1 (fun h'=>by omega);have m2:¬ O' (D+1):=fun h=>(s' (D+1) h).elim n2 (fun h'=>by omega);refine ⟨fun k hk=>?_,O',fun _=>Iff.rfl,m1,m2,gJ.abides O' ys B _ hj ((Td.putObj (R:=fun k=>k=D+1) B (D+1) o rfl).mono fun k _ hk hO=>m2 (by rw [<- hk];exact hO)),q1,q2⟩;rcases hk with hk | rfl | rfl
    ·exact (s' k hk).imp (fun h=>(e k).2 (.inl h)) (fun h=>by omega)
    ·exact .inl ((e _).2 (.inr (.inl rfl)))
    ·exact .inl ((e _).2 (.inr (.inr rfl)))
   refine wpIn_mono (hbody _ O pre x rest A1 hx (tb.trans hput (fun _ h=>h) (fun i hi h=>by omega)) sO hi2) ?_;rintro ex a3 B hp;cases ex with
   | normal=>
    obtain ⟨O',s',tB,hj⟩:=hp;obtain ⟨hr,q1,q2,q3⟩:=fin none B tB;obtain ⟨f1,f2⟩:=fol hI s' tB hj (hI.within _ _ _ hj) q1 q2;exact ⟨_,_,hr,With O' D,f1,q3,.inl ⟨rfl,f2⟩⟩
   | ret=>
    obtain ⟨O',s',tB,hj⟩:=hp;obtain ⟨hr,q1,q2,q3⟩:=fin (some .ret) B tB;obtain ⟨f1,f2⟩:=fol (hIx _) s' tB hj ((hIx _).within _ _ _ hj) q1 q2;exact ⟨_,_,hr,With O' D,f1,q3,.inr ⟨rfl,_,f2⟩⟩
   | exit id=>
    obtain ⟨O',s',tB,hj⟩:=hp;obtain ⟨hr,q1,q2,q3⟩:=fin (some (.exit id)) B tB;obtain ⟨f1,f2⟩:=fol (hIx _) s' tB hj ((hIx _).within _ _ _ hj) q1 q2;exact ⟨_,_,hr,With O' D,f1,q3,.inr ⟨rfl,_,f2⟩⟩
   | goto t=>
    obtain ⟨O',s',tB,hj⟩:=hp;obtain ⟨hr,q1,q2,q3⟩:=fin (some (.goto t)) B tB;obtain ⟨f1,f2⟩:=fol (hIx _) s' tB hj ((hIx _).within _ _ _ hj) q1 q2;exact ⟨_,_,hr,With O' D,f1,q3,.inr ⟨rfl,_,f2⟩⟩
   | panic ch=>exact hp.elim
   | outgrown=>exact hp.elim
theorem t0D {P:Program} {α:Type} {g:Operand} {ps:Array Tmp} {assign body:Code} {Q:Exit->Act->World->Prop} {a:Act} {w:World}
  {gf:Nat} {lb:Array Value} (hg:a.eval g=.func (.func gf) #[] lb) (eg:∀ args w,(callFunc gf args).run P w=.ok (.enter gf args) w)
  {encs:α->Array Value} {xs:List α} {R:Nat->Prop} (hit:∀ W,Td (fun _=>False) w W->Iter P gf lb encs xs R W) (hps:∀ x,(encs x).size=ps.size)
  (O₀:Nat->Prop) (I:Inv α) (Ix:Code->Inv α) (hR:∀ k,R k->k < w.heap.size/\¬ O₀ k) (hI:Good I) (hIx:∀ c,Good (Ix c)) (h0:I O₀ [] w) (a₁:α->Act)
  (hassign:∀ (l:Nat) (x:α) (W:World) (K:Act->World->Prop),K (a₁ x) W->
   assign.wpIn (Fence.wide.inRound l) 9 P (Exit.then K (fun _ _ _=>False)) { tmps:=(ps.zip (encs x)).foldl (fun t (p,v)=>t.setIfInBounds p v) a.tmps,defers:=[] } W)
  (hbody:∀ (l:Nat) (O:Nat->Prop) (pre:List α) (x:α) (rest:List α) (W:World),xs=pre++x :: rest->Td O₀ w W->Sub O O₀ w.heap.size->I O pre W->
   body.wpIn (Fence.wide.inRound l) 9 P (h0Z I Ix O (pre++[x]) W) (a₁ x) W)
  (hdone:∀ (D:Nat) (O:Nat->Prop) (W:World),w.heap.size<=D->¬ O D->Td O₀ w W->Sub O O₀ w.heap.size->I O xs W->W.heap[D]? = some (.deferred (some []))->
   Q .normal { a with defers:={ target:=.collected D,args:=#[] } :: a.defers } W)
  (hstop:∀ (D:Nat) (O:Nat->Prop) (c:Code) (pre rest:List α) (W:World),w.heap.size<=D->¬ O D->Td O₀ w W->Sub O O₀ w.heap.size->xs=pre++rest->Ix c O pre W->W.heap[D]? = some (.deferred (some []))->
   c.wp P Q { a with defers:={ target:=.collected D,args:=#[] } :: a.defers } W) :
  (Code.rangeFunc g ps assign body).wp P Q a w:=
 (wpIn_wide (n:=9)).1 (wp_range hg eg hit hps O₀ I Ix hR hI hIx h0 a₁ hassign hbody hdone (fun D O c pre rest W h1 h2 h3 h4 h5 h6 h7=>wpIn_wide.2 (hstop D O c pre rest W h1 h2 h3 h4 h5 h6 h7)))
theorem c0L {P:Program} {f:FuncId} {fn:Func} {c:Code} {args:Array Value} {w:World} {Q:Ending->World->Prop}
  (hf:P.funcs[f]? = some fn) (hb:fn.body=some c)
  (h:c.wp P (bodyPostM Fence.wide 9 P fn Q) { tmps:=args++Array.replicate (fn.ntmps - args.size) undef,defers:=[] } w):Calls P f args w Q:=
 (callsIn_wide (n:=9)).1 (callsIn_of_wp_marks hf hb trivial (wpIn_wide.2 h) rfl)
theorem Boxed.own {O:Nat->Prop} {A A':World} {B:Nat} {t:TypeId} {u:Value} (h:Boxed A B t u) (hO:O B) (ht:Td (fun k=>¬ O k) A A'):Boxed A' B t u:=ht.boxed h (fun hn=>hn hO)
end
section
theorem j0S {P:Program} {α:Type} {g:Operand} {ps:Array Tmp} {assign body:Code} {Q:Exit->Act->World->Prop} {a:Act} {w:World}
  {gf:Nat} {lb:Array Value} (hg:a.eval g=.func (.func gf) #[] lb) (eg:∀ args w,(callFunc gf args).run P w=.ok (.enter gf args) w)
  {encs:α->Array Value} {xs:List α} {R:Nat->Prop} (hit:∀ W,Td (fun _=>False) w W->Iter P gf lb encs xs R W) (hps:∀ x,(encs x).size=ps.size)
  (O₀:Nat->Prop) (I:Inv α) (Ix:Code->Inv α) (hR:∀ k,R k->k < w.heap.size/\¬ O₀ k) (hI:Good I) (hIx:∀ c,Good (Ix c)) (h0:I O₀ [] w)
  (hab:∃ a₁:α->Act,(∀ (l:Nat) (x:α) (W:World) (K:Act->World->Prop),K (a₁ x) W->
    assign.wpIn (Fence.wide.inRound l) 9 P (Exit.then K (fun _ _ _=>False)) { tmps:=(ps.zip (encs x)).foldl (fun t (p,v)=>t.setIfInBounds p v) a.tmps,defers:=[] } W)/\
   (∀ (l:Nat) (O:Nat->Prop) (pre:List α) (x:α) (rest:List α) (W:World),xs=pre++x :: rest->Td O₀ w W->Sub O O₀ w.heap.size->I O pre W->
    body.wpIn (Fence.wide.inRound l) 9 P (h0Z I Ix O (pre++[x]) W) (a₁ x) W))
  (hdone:∀ (D:Nat) (O:Nat->Prop) (W:World),w.heap.size<=D->¬ O D->Td O₀ w W->Sub O O₀ w.heap.size->I O xs W->W.heap[D]? = some (.deferred (some []))->
   Q .normal { a with defers:={ target:=.collected D,args:=#[] } :: a.defers } W)
  (hstop:∀ (D:Nat) (O:Nat->Prop) (c:Code) (pre rest:List α) (W:World),w.heap.size<=D->¬ O D->Td O₀ w W->Sub O O₀ w.heap.size->xs=pre++rest->Ix c O pre W->W.heap[D]? = some (.deferred (some []))->
   c.wp P Q { a with defers:={ target:=.collected D,args:=#[] } :: a.defers } W) :
  (Code.rangeFunc g ps assign body).wp P Q a w:=by
 obtain ⟨a₁,h1,h2⟩:=hab;exact t0D hg eg hit hps O₀ I Ix hR hI hIx h0 a₁ h1 h2 hdone hstop
abbrev markOf (D:Nat):Deferred:={ target:=.collected D,args:=#[] }
theorem a0X {F:Fence} {n:Nat} {P:Program} {fn:Func} {tmps:Array Value} {R:Ending->World->Prop}:∀ (Ds:List Nat) (X:World),(∀ D ∈ Ds,X.heap[D]? = some (.deferred (some [])))->Ds.Nodup->
  (∀ X',Td (fun k=>k ∈ Ds) X X'->∃ v,(results fn tmps).run P X'=.ok v X'/\R (.returned v) X')->LeavesInM F n P fn tmps R (Ds.map markOf) .returning X
 | [],X,_,_,h=>h X (Td.refl _ _)
 | D :: Ds,X,hD,hn,h=>by
  have h1:=hD D (List.mem_cons_self ..);obtain ⟨hn1,hn2⟩:=List.nodup_cons.1 hn;refine ⟨by simp,.inl ⟨D,_,rfl,run_takeDeferred h1,a0X Ds _ (fun E hE=>?_) hn2 (fun X' hX'=>h X' ?_)⟩⟩
  ·exact (World.putObj_heap_other (fun e=>hn1 (by rw [<- e];exact hE))).trans (hD E (List.mem_cons_of_mem _ hE))
  ·exact (Td.putObj (R:=fun k=>k=D) X D _ rfl).trans hX' (fun _ e=>List.mem_cons.2 (.inl e)) (fun _ _ e=>List.mem_cons_of_mem _ e)
end
end Go.Proofs.YtibnlaihiahjpaaGreat
