/-
  What the proof of YtoaicedkepcalaaGreatDcssPlaysProof goes by, part 2 of 11: contracts and plain facts; each part begins with its own sentence. No conditions beyond each theorem's own.
-/
import Derived.Test.YtoaicedkepcalaaGreatD1
import Derived.Lib.BitFns
import Derived.Lib.ItoaNum
import Derived.Test.YtoaicedkepcalaaGreatRows
import Derived.WalkKit
import Derived.WalkSmall
import Derived.BigQuiet
import Derived.Deep.QuietTactic
import Derived.WalkLawsBesides
import Derived.ProofKit
import Derived.OpenShut
import Derived.ShutString
import Derived.LoopTactic
import Derived.Shelf.Small.Bits
import Derived.Shelf.Strconv.Itoa0
import Derived.Shelf.Bits.Mul64
import Derived.Deep.OwnRows
import Derived.RangeFuncNested
import Derived.RangeFuncBound
import Derived.RangeFuncLeaves
import Derived.Shelf.Abstract
import Derived.Shelf.RegionOpen
import Derived.OwnWalkIn
import Derived.TacticsInMore
import Derived.LoopNIn
import Derived.LoopIn
import Derived.Test.YtoaicedkepcalaaGreatProg
import Derived.Laws.OwnMore
import Derived.Maps.OwnIn
import Derived.Maps.AppendAt
namespace Go.Proofs.YtoaicedkepcalaaGreat
open Go.RowKit
section
variable {X:Nat->Prop}
theorem Ran.behind {W W' W'':World} {r:Nat} {s:Rn} (k:Kept W W') (h:Ran X W' r s W''):Ran X W r s W'':=⟨h.1,Kept.then k h.2⟩
theorem RunAt.lt {W:World} {r:Nat} {s:Rn} (h:RunAt X W r s):r < W.heap.size:=by
 obtain ⟨ta,tc,wa,wc,h⟩:=h;exact (Array.getElem?_eq_some_iff.1 h.box).1
theorem Reads.far {W W':World} {r:Nat} {s:Rn} {a:Option Addr} {zs:List Int} (hX:∀ k,W.heap.size<=k->X k) (h:RunAt X W r s) (hr:Reads W' a zs) (hz:zs≠[]) (hs:zs.length<=maxLen) (hn:∀ ad,a=some ad->W.heap.size<=ad.block):Far X W' r a zs:=by
 refine ⟨hr,fun ad e=>⟨⟨hX _ (hn ad e),?_⟩,?_⟩,hs⟩
 ·cases zs with
  | nil=>exact absurd rfl hz
  | cons z zs=>
   obtain ⟨bl,off,e',_,cy⟩:=hr.at (j:=0) (z:=z) rfl;rw [e] at e';cases e';unfold World.cell? at cy;cases hh:W'.heap[bl]? with
   | none=>rw [hh] at cy;simp at cy
   | some o=>exact (Array.getElem?_eq_some_iff.1 hh).1
 ·have:=hn ad e
  have:=h.lt
  omega
theorem dcssw_r (w:World) (g p k v:Int):Calls Tryz.prog 50 #[.int .i64 g,.int .i64 p,.int .i64 k,.int .i64 v] w (Fresh [g,p,k,v,0] w):=by
 go_enter Tryz.func50,Tryz.ntmps50;go_wp2;go_ret;exact ⟨_,rfl,row_new w 2 [g,p,k,v,0] _ (Nat.le_refl _) (by simp),Td.alloc _ _ _⟩
def Rn.dcss (s:Rn) (g p old x:Int):Int × Rn:=
 let m:=s.make [g,p,old,x,0]
 if 0 < m.1 then
  let c:=({ m.2 with rc:=m.1 }:Rn).cas p old (Rf.ofZ 5 m.1)
  if c.1=true then
   let q:=c.2.read g
   let d:=q.2.cas (wrap64 (m.1+4)) 0 (if q.1=0 then 1 else 2)
   let o:=d.2.read (wrap64 (m.1+4))
   if o.1=1 then (1,(o.2.cas p (Rf.ofZ 5 m.1) x).2) else (2,(o.2.cas p (Rf.ofZ 5 m.1) old).2)
  else (0,c.2)
 else (3,m.2)
theorem Ran.record {W W':World} {r:Nat} {s:Rn} (h:Ran X W r s W') (x:Int):Ran X W r { s with rc:=x } (W'.setCell ⟨r,8,none⟩ (.int .i64 x)):=by
 obtain ⟨⟨ta,tc,wa,wc,h1⟩,h2⟩:=h;have t:Td (fun k=>k=r) W' (W'.setCell ⟨r,8,none⟩ (.int .i64 x)):=Td.setCell (R:=fun k=>k=r) _ _ _ rfl;refine ⟨⟨ta,tc,wa,wc,h1.put t ?_ rfl h1.at_le (h1.next.turned t)⟩,h2.trans t (fun _ e=>e) (fun _ _ e=>e)⟩;have hb:=h1.box;simp [World.setCell,Array.getElem?_modify,hb,runCells]
theorem dcss_r (W:World) (r:Nat) (s:Rn) (g p old x:Int) (h:RunAt X W r s) (hX:∀ k,W.heap.size<=k->X k) (z:Int) (s':Rn) (e1:s.dcss g p old x=(z,s')) :
  Calls Tryz.prog 124 #[.pointer (some ⟨r,0,none⟩),.int .i64 g,.int .i64 p,.int .i64 old,.int .i64 x] W fun e W'=>e=.returned (.int .i64 z)/\Ran X W r s' W':=by
 have H:=gh h;have HX:=gh hX;clear hX;obtain ⟨m,s1,hm⟩:∃ m s1,s.make [g,p,old,x,0]=(m,s1):=⟨_,_,rfl⟩;have HM:=gh hm;unfold Rn.dcss at e1;simp only [hm] at e1;obtain ⟨me,hme⟩:∃ me,Rf.ofZ 5 m=me:=⟨_,rfl⟩;have HE:=gh hme;rw [hme] at e1
 by_cases hm0:0 < m
 ·rw [if_pos hm0] at e1;obtain ⟨c,s2,hc⟩:∃ c s2,({ s1 with rc:=m }:Rn).cas p old me=(c,s2):=⟨_,_,rfl⟩;have HC:=gh hc;rw [hc] at e1;have d0:(decide (0 < m))=true:=by simp [hm0]
  cases c with
  | false=>
   simp only [Bool.false_eq_true,if_false] at e1;cases e1;clear h hm hme hc;go_enter Tryz.func124,Tryz.ntmps124;go_wp2_with (fail);refine (dcssw_r _ g p old x).mono ?_;intro e W0 hF;obtain ⟨fa,fc,rfl,hr,hc1,hc2,hn,_,hk⟩:=hF.form;have HFar:=gh (Reads.far HX.o H.o hr (by simp) (by simp [maxLen]) hn);have HK:=gh hk;clear hF hr hn hk;go_wp2_with (fail);refine (make_r _ r s fa 5 fc [g,p,old,x,0] (H.o.kept HK.o) HFar.o rfl m s1 HM.o).mono ?_;rintro e W1 ⟨rfl,R1⟩
   replace R1:=Ran.behind HK.o R1
   obtain ⟨ta,tc,wa,wc,RI⟩:=R1.1;obtain ⟨_,_,_,c8,_,f⟩:=RI.cells;have f8:=f 8;clear RI f;go_wp2_with (fail);refine (ofr_c 5 m me HE.o _).mono ?_;rintro e w' ⟨rfl,rfl⟩;go_wp2_with (fail);refine (cas_r _ r _ p old me (R1.record m).1 false s' HC.o).mono ?_;rintro e W2 ⟨rfl,R2⟩;go_wp2;go_ret;exact ⟨rfl,(R1.record m).trans R2⟩
  | true=>
   simp only [if_true] at e1;obtain ⟨q,s3,hq⟩:∃ q s3,s2.read g=(q,s3):=⟨_,_,rfl⟩;have HQ:=gh hq;rw [hq] at e1;obtain ⟨d,s4,hd⟩:∃ d s4,s3.cas (wrap64 (m+4)) 0 (if q=0 then 1 else 2)=(d,s4):=⟨_,_,rfl⟩;rw [hd] at e1;obtain ⟨o,s5,ho⟩:∃ o s5,s4.read (wrap64 (m+4))=(o,s5):=⟨_,_,rfl⟩;rw [ho] at e1;have HO:=gh ho
   by_cases hq0:q=0
   ·rw [if_pos hq0] at hd;subst hq0;have HD:=gh hd
    by_cases ho1:o=1
    ·subst ho1;simp only [if_true] at e1;obtain ⟨y,hy⟩:∃ y,s5.cas p me x=(y,s'):=⟨(s5.cas p me x).1,by cases e1;rfl⟩;have ez:z=1:=by cases e1;rfl
     have HY:=gh hy;subst ez;clear h hm hme hc hq hd ho hy e1;go_enter Tryz.func124,Tryz.ntmps124;go_wp2_with (fail);refine (dcssw_r _ g p old x).mono ?_;intro e W0 hF;obtain ⟨fa,fc,rfl,hr,hc1,hc2,hn,_,hk⟩:=hF.form;have HFar:=gh (Reads.far HX.o H.o hr (by simp) (by simp [maxLen]) hn);have HK:=gh hk;clear hF hr hn hk;go_wp2_with (fail);refine (make_r _ r s fa 5 fc [g,p,old,x,0] (H.o.kept HK.o) HFar.o rfl m s1 HM.o).mono ?_;rintro e W1 ⟨rfl,R1⟩
     replace R1:=Ran.behind HK.o R1
     obtain ⟨ta,tc,wa,wc,RI⟩:=R1.1;obtain ⟨_,_,_,c8,_,f⟩:=RI.cells;have f8:=f 8;clear RI f;go_wp2_with (fail);refine (ofr_c 5 m me HE.o _).mono ?_;rintro e w' ⟨rfl,rfl⟩;go_wp2_with (fail);refine (cas_r _ r _ p old me (R1.record m).1 true s2 HC.o).mono ?_;rintro e W2 ⟨rfl,R2⟩;go_wp2_with (fail);refine (read_r _ r s2 g R2.1 0 s3 HQ.o).mono ?_;rintro e W3 ⟨rfl,R3⟩;go_wp2_with (fail);refine (cas_r _ r s3 (wrap64 (m+4)) 0 1 R3.1 d s4 HD.o).mono ?_;rintro e W4 ⟨rfl,R4⟩;go_wp2_with (fail);refine (read_r _ r s4 (wrap64 (m+4)) R4.1 1 s5 HO.o).mono ?_;rintro e W5 ⟨rfl,R5⟩;go_wp2_with (fail);refine (cas_r _ r s5 p me x R5.1 y s' HY.o).mono ?_;rintro e W6 ⟨rfl,R6⟩;go_wp2;go_ret;exact ⟨rfl,(((((R1.record m).trans R2).trans R3).trans R4).trans R5).trans R6⟩
    ·have g1:(o == 1)=false:=by simp [ho1]
     have g2:(o != 1)=true:=by simp [ho1]
     rw [if_neg ho1] at e1;obtain ⟨y,hy⟩:∃ y,s5.cas p me old=(y,s'):=⟨(s5.cas p me old).1,by cases e1;rfl⟩;have ez:z=2:=by cases e1;rfl
     have HY:=gh hy;subst ez;clear h hm hme hc hq hd ho hy e1;go_enter Tryz.func124,Tryz.ntmps124;go_wp2_with (fail);refine (dcssw_r _ g p old x).mono ?_;intro e W0 hF;obtain ⟨fa,fc,rfl,hr,hc1,hc2,hn,_,hk⟩:=hF.form;have HFar:=gh (Reads.far HX.o H.o hr (by simp) (by simp [maxLen]) hn);have HK:=gh hk;clear hF hr hn hk;go_wp2_with (fail);refine (make_r _ r s fa 5 fc [g,p,old,x,0] (H.o.kept HK.o) HFar.o rfl m s1 HM.o).mono ?_;rintro e W1 ⟨rfl,R1⟩
     replace R1:=Ran.behind HK.o R1
     obtain ⟨ta,tc,wa,wc,RI⟩:=R1.1;obtain ⟨_,_,_,c8,_,f⟩:=RI.cells;have f8:=f 8;clear RI f;go_wp2_with (fail);refine (ofr_c 5 m me HE.o _).mono ?_;rintro e w' ⟨rfl,rfl⟩;go_wp2_with (fail);refine (cas_r _ r _ p old me (R1.record m).1 true s2 HC.o).mono ?_;rintro e W2 ⟨rfl,R2⟩;go_wp2_with (fail);refine (read_r _ r s2 g R2.1 0 s3 HQ.o).mono ?_;rintro e W3 ⟨rfl,R3⟩;go_wp2_with (fail);refine (cas_r _ r s3 (wrap64 (m+4)) 0 1 R3.1 d s4 HD.o).mono ?_;rintro e W4 ⟨rfl,R4⟩;go_wp2_with (fail);refine (read_r _ r s4 (wrap64 (m+4)) R4.1 o s5 HO.o).mono ?_;rintro e W5 ⟨rfl,R5⟩;go_wp2_with (fail);refine (cas_r _ r s5 p me old R5.1 y s' HY.o).mono ?_;rintro e W6 ⟨rfl,R6⟩;go_wp2;go_ret;exact ⟨rfl,(((((R1.record m).trans R2).trans R3).trans R4).trans R5).trans R6⟩
   ·rw [if_neg hq0] at hd;have HD:=gh hd;have g3:(q == 0)=false:=by simp [hq0]
    have g4:(q != 0)=true:=by simp [hq0]
    by_cases ho1:o=1
    ·subst ho1;simp only [if_true] at e1;obtain ⟨y,hy⟩:∃ y,s5.cas p me x=(y,s'):=⟨(s5.cas p me x).1,by cases e1;rfl⟩;have ez:z=1:=by cases e1;rfl
     have HY:=gh hy;subst ez;clear h hm hme hc hq hd ho hy e1;go_enter Tryz.func124,Tryz.ntmps124;go_wp2_with (fail);refine (dcssw_r _ g p old x).mono ?_;intro e W0 hF;obtain ⟨fa,fc,rfl,hr,hc1,hc2,hn,_,hk⟩:=hF.form;have HFar:=gh (Reads.far HX.o H.o hr (by simp) (by simp [maxLen]) hn);have HK:=gh hk;clear hF hr hn hk;go_wp2_with (fail);refine (make_r _ r s fa 5 fc [g,p,old,x,0] (H.o.kept HK.o) HFar.o rfl m s1 HM.o).mono ?_;rintro e W1 ⟨rfl,R1⟩
     replace R1:=Ran.behind HK.o R1
     obtain ⟨ta,tc,wa,wc,RI⟩:=R1.1;obtain ⟨_,_,_,c8,_,f⟩:=RI.cells;have f8:=f 8;clear RI f;go_wp2_with (fail);refine (ofr_c 5 m me HE.o _).mono ?_;rintro e w' ⟨rfl,rfl⟩;go_wp2_with (fail);refine (cas_r _ r _ p old me (R1.record m).1 true s2 HC.o).mono ?_;rintro e W2 ⟨rfl,R2⟩;go_wp2_with (fail);refine (read_r _ r s2 g R2.1 q s3 HQ.o).mono ?_;rintro e W3 ⟨rfl,R3⟩;go_wp2_with (fail);refine (cas_r _ r s3 (wrap64 (m+4)) 0 2 R3.1 d s4 HD.o).mono ?_;rintro e W4 ⟨rfl,R4⟩;go_wp2_with (fail);refine (read_r _ r s4 (wrap64 (m+4)) R4.1 1 s5 HO.o).mono ?_;rintro e W5 ⟨rfl,R5⟩;go_wp2_with (fail);refine (cas_r _ r s5 p me x R5.1 y s' HY.o).mono ?_;rintro e W6 ⟨rfl,R6⟩;go_wp2;go_ret;exact ⟨rfl,(((((R1.record m).trans R2).trans R3).trans R4).trans R5).trans R6⟩
    ·have g1:(o == 1)=false:=by simp [ho1]
     have g2:(o != 1)=true:=by simp [ho1]
     rw [if_neg ho1] at e1;obtain ⟨y,hy⟩:∃ y,s5.cas p me old=(y,s'):=⟨(s5.cas p me old).1,by cases e1;rfl⟩;have ez:z=2:=by cases e1;rfl
     have HY:=gh hy;subst ez;clear h hm hme hc hq hd ho hy e1;go_enter Tryz.func124,Tryz.ntmps124;go_wp2_with (fail);refine (dcssw_r _ g p old x).mono ?_;intro e W0 hF;obtain ⟨fa,fc,rfl,hr,hc1,hc2,hn,_,hk⟩:=hF.form;have HFar:=gh (Reads.far HX.o H.o hr (by simp) (by simp [maxLen]) hn);have HK:=gh hk;clear hF hr hn hk;go_wp2_with (fail);refine (make_r _ r s fa 5 fc [g,p,old,x,0] (H.o.kept HK.o) HFar.o rfl m s1 HM.o).mono ?_;rintro e W1 ⟨rfl,R1⟩
     replace R1:=Ran.behind HK.o R1
     obtain ⟨ta,tc,wa,wc,RI⟩:=R1.1;obtain ⟨_,_,_,c8,_,f⟩:=RI.cells;have f8:=f 8;clear RI f;go_wp2_with (fail);refine (ofr_c 5 m me HE.o _).mono ?_;rintro e w' ⟨rfl,rfl⟩;go_wp2_with (fail);refine (cas_r _ r _ p old me (R1.record m).1 true s2 HC.o).mono ?_;rintro e W2 ⟨rfl,R2⟩;go_wp2_with (fail);refine (read_r _ r s2 g R2.1 q s3 HQ.o).mono ?_;rintro e W3 ⟨rfl,R3⟩;go_wp2_with (fail);refine (cas_r _ r s3 (wrap64 (m+4)) 0 2 R3.1 d s4 HD.o).mono ?_;rintro e W4 ⟨rfl,R4⟩;go_wp2_with (fail);refine (read_r _ r s4 (wrap64 (m+4)) R4.1 o s5 HO.o).mono ?_;rintro e W5 ⟨rfl,R5⟩;go_wp2_with (fail);refine (cas_r _ r s5 p me old R5.1 y s' HY.o).mono ?_;rintro e W6 ⟨rfl,R6⟩;go_wp2;go_ret;exact ⟨rfl,(((((R1.record m).trans R2).trans R3).trans R4).trans R5).trans R6⟩
 ·rw [if_neg hm0] at e1;cases e1;have d0:(decide (0 < m))=false:=by simp;omega
  clear h hm hme;go_enter Tryz.func124,Tryz.ntmps124;go_wp2_with (fail);refine (dcssw_r _ g p old x).mono ?_;intro e W0 hF;obtain ⟨fa,fc,rfl,hr,hc1,hc2,hn,_,hk⟩:=hF.form;have HFar:=gh (Reads.far HX.o H.o hr (by simp) (by simp [maxLen]) hn);have HK:=gh hk;clear hF hr hn hk;go_wp2_with (fail);refine (make_r _ r s fa 5 fc [g,p,old,x,0] (H.o.kept HK.o) HFar.o rfl m s' HM.o).mono ?_;rintro e W1 ⟨rfl,R1⟩
  replace R1:=Ran.behind HK.o R1
  go_wp2;go_ret;exact ⟨rfl,R1⟩
end
namespace Pb
open Go
def gapZ (a b:Int):Int:=if b < a then 0 else b - a
def shareZ (p w n:Int):Int:=if 1<=w/\1<=n/\n<=65536 then min p w * n / w else 0
end Pb
namespace Pb
def Up (q:List Int):Prop:=q.length<=65536/\q.Pairwise (· < ·)
instance (q:List Int):Decidable (Up q):=inferInstanceAs (Decidable (_/\_))
def guessZ (a b k n:Int):Int:=if 2<=n/\n<=65536/\a<=k/\k < b then 1+shareZ (gapZ a k) (gapZ a b) (n - 1) else 0
theorem take_snoc' {q:List Int} {k:Nat} {z:Int} (h:q[k]? = some z):q.take (k+1)=q.take k++[z]:=by
 obtain ⟨h1,rfl⟩:=List.getElem?_eq_some_iff.1 h;exact List.take_succ_eq_append_getElem h1
theorem pw_snoc {q:List Int} {k:Nat} {y z:Int} (h:(q.take (k+1)).Pairwise (· < ·)) (hy:q[k]? = some y) (hz:q[k+1]? = some z) (hyz:y < z):(q.take (k+2)).Pairwise (· < ·):=by
 rw [take_snoc' hz,List.pairwise_append];refine ⟨h,by simp,fun a ha b hb=>?_⟩;obtain rfl:b=z:=by simpa using hb
 rw [take_snoc' hy] at h ha;rw [List.pairwise_append] at h;rcases List.mem_append.1 ha with ha | ha
 ·have:=h.2.2 a ha y (by simp)
  omega
 ·obtain rfl:a=y:=by simpa using ha
  exact hyz
theorem pw_not {q:List Int} {k:Nat} {y z:Int} (hy:q[k]? = some y) (hz:q[k+1]? = some z) (hyz:z<=y):¬ q.Pairwise (· < ·):=by
 intro h;obtain ⟨h1,e1⟩:=List.getElem?_eq_some_iff.1 hy;obtain ⟨h2,e2⟩:=List.getElem?_eq_some_iff.1 hz
 have:=List.pairwise_iff_getElem.1 h k (k+1) h1 h2 (by omega)
 omega
theorem guess_none {a b k n:Int} (h:¬ (2<=n/\n<=65536/\a<=k/\k < b)):guessZ a b k n=0:=if_neg h
end Pb
namespace Pb
def PwTo (q:List Int) (n:Nat):Prop:=(q.take n).Pairwise (· < ·)
theorem PwTo.start (q:List Int):PwTo q 1:=by
 unfold PwTo;cases q with
 | nil=>simp
 | cons x q=>simp
end Pb
namespace Pb
open Go.ChangeShapes Go.WideShapes Go.ChangeAt Go.RowKit
theorem gap_plain {a b:Int} (ha:-9223372036854775808<=a/\a<=9223372036854775807) (hb:-9223372036854775808<=b/\b<=9223372036854775807) (c:¬ b < a) :
  gapZ a b=IntKind.u64.wrap (IntKind.u64.wrap b - IntKind.u64.wrap a):=by
 simp only [gapZ,if_neg c,IntKind.wrap_u64];omega
theorem gap_r (a b:Int) (ha:(Lit.int .i64 a).wf=true) (hb:(Lit.int .i64 b).wf=true) (w:World) :
  Calls Tryz.prog 169 #[.int .i64 a,.int .i64 b] w fun e w'=>e=.returned (.int .u64 (gapZ a b))/\w=w':=by
 have ha':=bounds_i64 ha;have hb':=bounds_i64 hb;clear ha hb
 by_cases c:b < a
 ·have e:gapZ a b=0:=by simp [gapZ,c]
  rw [e];clear e;go_enter Tryz.func169,Tryz.ntmps169;go_wp2;go_ret;exact ⟨rfl,rfl⟩
 ·rw [gap_plain ha' hb' c];clear ha' hb';go_enter Tryz.func169,Tryz.ntmps169;go_wp2;go_ret;exact ⟨rfl,rfl⟩
theorem pow_cast (k:Nat):(2:Int) ^ k=((2 ^ k:Nat):Int):=by rw [Int.natCast_pow];rfl
theorem bit_i64 (a:Int) (h0:0<=a) (h:a < 9223372036854775808):bits .and .i64 a 1=a % 2:=by
 obtain ⟨n,rfl⟩:=Int.eq_ofNat_of_zero_le h0;have h1:(BitVec.ofInt 64 (n:Int)).toNat=n:=by
  rw [BitVec.ofInt_natCast,BitVec.toNat_ofNat];exact Nat.mod_eq_of_lt (by omega)
 have e:n &&& 1=n % 2:=Nat.and_two_pow_sub_one_eq_mod n 1;show IntKind.i64.wrap ((BitVec.ofInt 64 (n:Int) &&& BitVec.ofInt 64 1).toNat:Int)=_;rw [BitVec.toNat_and,h1];show IntKind.i64.wrap ((n &&& 1:Nat):Int)=_;rw [e];simp only [IntKind.wrap,IntKind.bits,IntKind.signed];simp;omega
theorem share_step {P m x y v:Int} (b c:Int) (h:P * m=x * v+y):P * (2 * m+b)=(2 * x+c) * v+(2 * y+P * b - c * v):=by
 have e1:P * (2 * m+b)=2 * (P * m)+P * b:=by rw [Int.mul_add,Int.mul_left_comm]
 have e2:(2 * x+c) * v=2 * (x * v)+c * v:=by rw [Int.add_mul,Int.mul_assoc]
 omega
theorem share_le {P M x y v:Int} (h:P * M=x * v+y) (hy:0<=y) (hP:P<=v) (hM:0<=M) (hv:0 < v):x<=M:=by
 have h1:P * M<=v * M:=Int.mul_le_mul_of_nonneg_right hP hM;have h2:v * M=M * v:=Int.mul_comm _ _;rcases Int.lt_or_le M x with g | g
 ·have h3:M * v < x * v:=Int.mul_lt_mul_of_pos_right g hv;omega
 ·exact g
theorem share_end {P n x y v:Int} (h:P * n=x * v+y) (hy:0<=y) (hy':y < v):P * n / v=x:=by
 rw [h,Int.add_comm,Int.add_mul_ediv_right _ _ (by omega),Int.ediv_eq_zero_of_lt hy hy'];omega
theorem halves (n:Int) (k:Nat):n / ((2 ^ k:Nat):Int)=2 * (n / ((2 ^ (k+1):Nat):Int))+(n / ((2 ^ k:Nat):Int)) % 2:=by
 have e:((2 ^ (k+1):Nat):Int)=((2 ^ k:Nat):Int) * 2:=by rw [Nat.pow_succ];omega
 rw [e,<- Int.ediv_ediv_of_nonneg (Int.natCast_nonneg _)];omega
theorem div_pow_bound {n:Int} (k:Nat) (h0:0<=n):0<=n / ((2 ^ k:Nat):Int)/\n / ((2 ^ k:Nat):Int)<=n:=
 ⟨Int.ediv_nonneg h0 (Int.natCast_nonneg _),Int.ediv_le_self _ h0⟩
theorem share_none {p w n:Int} (h:¬ (1<=w/\1<=n/\n<=65536)):shareZ p w n=0:=by
 simp only [shareZ,if_neg h]
theorem share_r (p v n:Int) (hp:(Lit.int .u64 p).wf=true) (hv:(Lit.int .u64 v).wf=true) (w:World) :
  Calls Tryz.prog 168 #[.int .u64 p,.int .u64 v,.int .i64 n] w fun e w'=>e=.returned (.int .i64 (shareZ p v n))/\w=w':=by
 have hp':=bounds_u64 hp;have hv':=bounds_u64 hv;clear hp hv
 by_cases c1:v=0
 ·rw [share_none (by omega)];subst c1;go_enter Tryz.func168,Tryz.ntmps168;go_wp2;go_ret;exact ⟨rfl,rfl⟩
 ·by_cases c2:n < 1
  ·rw [share_none (by omega)];go_enter Tryz.func168,Tryz.ntmps168;go_wp2;go_ret;exact ⟨rfl,rfl⟩
  ·by_cases c3:65536 < n
   ·rw [share_none (by omega)];go_enter Tryz.func168,Tryz.ntmps168;go_wp2;go_ret;exact ⟨rfl,rfl⟩
   ·obtain ⟨P,hP⟩:∃ P,min p v=P:=⟨_,rfl⟩;have P1:0<=P:=by omega
    have P2:P<=v:=by omega
    obtain ⟨z,ez⟩:∃ z,shareZ p v n=z:=⟨_,rfl⟩;have HE:=gh (show shareZ p v n=z/\min p v=P from ⟨ez,hP⟩);rw [ez];clear ez;go_enter Tryz.func168,Tryz.ntmps168;go_wp2;clear hP
    go_loop [7,8,9] (fun q r b=>∃ (x y:Int) (k:Nat),k<=17/\0<=x/\x<=65536/\0<=y/\y < v/\Hid (P * (n / ((2 ^ k:Nat):Int))=x * v+y)/\q=.int .i64 x/\r=.int .u64 y/\b=.int .i64 ((k:Int) - 1)) (fun _ _ b=>(intOf b+1).toNat)
    case atStart=>
     refine ⟨0,0,17,by omega,by omega,by omega,by omega,by omega,gh ?_,rfl,rfl,rfl⟩;have e:n / ((2 ^ 17:Nat):Int)=0:=Int.ediv_eq_zero_of_lt (by omega) (by omega);rw [e];omega
    case round=>
     obtain ⟨x,y,k,k1,x0,x1,y0,y1,H,rfl,rfl,rfl⟩:=hrel;cases k with
     | zero=>
      have e:x=z:=by
       have h:=H.o;rw [show n / ((2 ^ 0:Nat):Int)=n by simp] at h;have h2:=share_end h y0 y1;have h3:=HE.o;simp only [shareZ,if_pos (show 1<=v/\1<=n/\n<=65536 by omega),h3.2] at h3;omega
      subst e;clear H HE;go_wp2;go_ret;exact ⟨rfl,rfl⟩
     | succ k=>
      clear HE;have hh:=halves n k;obtain ⟨b1,b2⟩:=div_pow_bound (n:=n) k (by omega);have hb:=bit_i64 (n / ((2 ^ k:Nat):Int)) (by omega) (by omega);have ep:=pow_cast k;have h:=H.o;obtain ⟨m,hm⟩:∃ m,n / ((2 ^ (k+1):Nat):Int)=m:=⟨_,rfl⟩;rw [hm] at h hh;have FIN:∀ (c b x' y':Int),n / ((2 ^ k:Nat):Int) % 2=b->x'=2 * x+c->y'=2 * y+P * b - c * v->0<=y'->y' < v->0<=x'->
        (∃ (x_1 y_1:Int) (k_1:Nat),k_1<=17/\0<=x_1/\x_1<=65536/\0<=y_1/\y_1 < v/\Hid (P * (n / ((2 ^ k_1:Nat):Int))=x_1 * v+y_1)/\Value.int IntKind.i64 x'=Value.int IntKind.i64 x_1/\Value.int IntKind.u64 y'=Value.int IntKind.u64 y_1/\Value.int IntKind.i64 ((k:Int) - 1)=Value.int IntKind.i64 ((k_1:Int) - 1)):=by
       intro c b x' y' hb' hx' hy' hy0 hy1 hx0;rw [hb'] at hh;have h2:=share_step b c h;rw [<- hh,<- hx',<- hy'] at h2;have h3:=share_le h2 hy0 P2 b1 (by omega);exact ⟨x',y',k,by omega,hx0,by omega,hy0,hy1,gh h2,rfl,rfl,rfl⟩
      rw [<- ep] at hb;have FIN2:=gh FIN;clear hh b1 b2 ep h hm H FIN;rcases Int.emod_two_eq (n / ((2 ^ k:Nat):Int)) with hz | ho
      ·rw [pow_cast,hz,<- pow_cast] at hb;have HZ:=gh hz;clear hz;go_wp2
       ·go_round
        case rel=>exact FIN2.o 1 0 _ _ HZ.o rfl (by omega) (by omega) (by omega) (by omega)
        case measure=>simp [intOf]
       ·go_round
        case rel=>exact FIN2.o 0 0 _ _ HZ.o (by omega) (by omega) (by omega) (by omega) (by omega)
        case measure=>simp [intOf]
      ·rw [pow_cast,ho,<- pow_cast] at hb;have HZ:=gh ho;clear ho;go_wp2
       ·go_round
        case rel=>exact FIN2.o 2 1 _ _ HZ.o (by omega) (by omega) (by omega) (by omega) (by omega)
        case measure=>simp [intOf]
       ·go_round
        case rel=>exact FIN2.o 1 1 _ _ HZ.o (by omega) (by omega) (by omega) (by omega) (by omega)
        case measure=>simp [intOf]
       ·go_round
        case rel=>exact FIN2.o 1 1 _ _ HZ.o (by omega) (by omega) (by omega) (by omega) (by omega)
        case measure=>simp [intOf]
       ·go_round
        case rel=>exact FIN2.o 0 1 _ _ HZ.o (by omega) (by omega) (by omega) (by omega) (by omega)
        case measure=>simp [intOf]
end Pb
namespace Pb
open Go.ChangeShapes Go.WideShapes Go.ChangeAt Go.RowKit
theorem wf_u64 {a:Int} (h:0<=a) (h':a<=18446744073709551615):(Lit.int .u64 a).wf=true:=by
 have h1:IntKind.min .u64=0:=by decide
 have h2:IntKind.max .u64=18446744073709551615:=by decide
 simp only [Lit.wf,h1,h2,Bool.and_eq_true,decide_eq_true_eq];exact ⟨h,h'⟩
theorem gap_wf {a b:Int} (ha:(Lit.int .i64 a).wf=true) (hb:(Lit.int .i64 b).wf=true):(Lit.int .u64 (gapZ a b)).wf=true:=by
 have ha':=bounds_i64 ha;have hb':=bounds_i64 hb;unfold gapZ
 split
 ·exact wf_u64 (by omega) (by omega)
 ·exact wf_u64 (by omega) (by omega)
theorem share_bound (p v n:Int) (hp:0<=p):0<=shareZ p v n/\shareZ p v n<=65536:=by
 unfold shareZ
 split
 ·rename_i h;have h1:min p v * n<=v * n:=Int.mul_le_mul_of_nonneg_right (by omega) (by omega);have h2:min p v * n / v<=n:=by
   have:=Int.ediv_le_ediv (show 0 < v by omega) h1
   rw [Int.mul_ediv_cancel_left _ (by omega)] at this;exact this
  have h3:0<=min p v * n / v:=Int.ediv_nonneg (Int.mul_nonneg (by omega) (by omega)) (by omega);omega
 ·omega
theorem gap_nonneg (a b:Int):0<=gapZ a b:=by
 unfold gapZ
 split <;> omega
set_option maxRecDepth 100000 in
theorem guess_r (a b k n:Int) (ha:(Lit.int .i64 a).wf=true) (hb:(Lit.int .i64 b).wf=true) (hk:(Lit.int .i64 k).wf=true) (w:World) :
  Calls Tryz.prog 150 #[.int .i64 a,.int .i64 b,.int .i64 k,.int .i64 n] w fun e w'=>e=.returned (.int .i64 (guessZ a b k n))/\∃ m,w'=w.drewN m:=by
 by_cases h:2<=n/\n<=65536/\a<=k/\k < b
 ·have H1:=gh (gap_r a k ha hk);have H2:=gh (gap_r a b ha hb);have H3:=gh (share_r (gapZ a k) (gapZ a b) (n - 1) (gap_wf ha hk) (gap_wf ha hb));have HG:Hid (guessZ a b k n=1+shareZ (gapZ a k) (gapZ a b) (n - 1)):=gh (if_pos h);have hs:=share_bound (gapZ a k) (gapZ a b) (n - 1) (gap_nonneg _ _);generalize shareZ (gapZ a k) (gapZ a b) (n - 1)=s at H3 HG hs;obtain ⟨h1,h2,h3,h4⟩:=h;obtain ⟨hs1,hs2⟩:=hs;clear ha hb hk;go_enter Tryz.func150,Tryz.ntmps150;go_wp2_with (fail);refine (H1.o _).mono ?_;rintro e w' ⟨rfl,rfl⟩;go_wp2_with (fail);refine (H2.o _).mono ?_;rintro e w' ⟨rfl,rfl⟩;go_wp2_with (fail);refine (H3.o _).mono ?_;rintro e w' ⟨rfl,rfl⟩;go_wp2;go_ret;exact ⟨by rw [HG.o];rfl,0,rfl⟩
 ·rw [guess_none h]
  by_cases h1:n < 2
  ·clear h;go_enter Tryz.func150,Tryz.ntmps150;go_wp2;go_ret;exact ⟨rfl,0,rfl⟩
  ·by_cases h2:65536 < n
   ·clear h;go_enter Tryz.func150,Tryz.ntmps150;go_wp2;go_ret;exact ⟨rfl,0,rfl⟩
   ·by_cases h3:k < a
    ·clear h;go_enter Tryz.func150,Tryz.ntmps150;go_wp2;go_ret;exact ⟨rfl,0,rfl⟩
    ·have h4:b<=k:=by omega
     clear h;go_enter Tryz.func150,Tryz.ntmps150;go_wp2;go_ret;exact ⟨rfl,0,rfl⟩
end Pb
section
variable {X:Nat->Prop}
namespace Rn
def downF (n k:Int):Nat->Rn->Int × Rn
 | 0,s=>(1,s)
 | i+1,s=>if 1<=i/\s.off=false then (if (s.read (keyZ n ((i:Int)+1))).1<=k then ((i:Int)+1,(s.read (keyZ n ((i:Int)+1))).2) else downF n k i (s.read (keyZ n ((i:Int)+1))).2) else (1,s)
def upF (n k m:Int):Nat->Int->Rn->Int × Rn
 | 0,_,s=>(m - 1,s)
 | c+1,i,s=>if s.off=false then (if k < (s.read (keyZ n i)).1 then (i - 1,(s.read (keyZ n i)).2) else upF n k m c (i+1) (s.read (keyZ n i)).2) else (m - 1,s)
def route (s:Rn) (n k:Int):(Int × Int) × Rn:=
 let x:=s.read n
 let m:=wrap64 (x.1 - 1)
 if m < 1 then ((x.1,0),x.2) else
 let f:=x.2.read (keyZ n 1)
 if k < f.1 then ((x.1,0),f.2) else
 if m=1 then ((x.1,1),f.2) else
 let l:=f.2.read (keyZ n m)
 if l.1<=k then ((x.1,m),l.2) else
 let j:=Pb.guessZ f.1 l.1 k m
 if l.2.off=true∨j < 1 then ((x.1,0),l.2) else
 if 1 < j then
  let y:=l.2.read (keyZ n j)
  if k < y.1 then ((x.1,(downF n k (j - 1).toNat y.2).1),(downF n k (j - 1).toNat y.2).2)
  else ((x.1,(upF n k m (m - (j+1)).toNat (j+1) y.2).1),(upF n k m (m - (j+1)).toNat (j+1) y.2).2)
 else ((x.1,(upF n k m (m - (j+1)).toNat (j+1) l.2).1),(upF n k m (m - (j+1)).toNat (j+1) l.2).2)
theorem downF_on (n k:Int):∀ (i:Nat) (s:Rn),On s (downF n k i s).2
 | 0,s=>On.refl s
 | i+1,s=>by
  unfold downF
  split
  ·split
   ·exact ask_on s _
   ·exact On.trans (ask_on s _) (downF_on n k i _)
  ·exact On.refl s
theorem upF_on (n k m:Int):∀ (c:Nat) (i:Int) (s:Rn),On s (upF n k m c i s).2
 | 0,_,s=>On.refl s
 | c+1,i,s=>by
  unfold upF
  split
  ·split
   ·exact ask_on s _
   ·exact On.trans (ask_on s _) (upF_on n k m c _ _)
  ·exact On.refl s
theorem route_on (s:Rn) (n k:Int):On (s.read n).2 (s.route n k).2:=by
 unfold route;dsimp only;generalize s.read n=x
 split
 ·exact On.refl _
 ·generalize hf:x.2.read (keyZ n 1)=f;have h1:=read_on hf
  split
  ·exact h1
  ·split
   ·exact h1
   ·generalize hl:f.2.read (keyZ n (wrap64 (x.1 - 1)))=l;have h2:=h1.trans (read_on hl)
    split
    ·exact h2
    ·split
     ·exact h2
     ·split
      ·generalize hy:l.2.read (keyZ n (Pb.guessZ f.1 l.1 k (wrap64 (x.1 - 1))))=y;have h3:=h2.trans (read_on hy)
       split
       ·exact h3.trans (downF_on _ _ _ _)
       ·exact h3.trans (upF_on _ _ _ _ _ _)
      ·exact h2.trans (upF_on _ _ _ _ _ _)
end Rn
theorem Ran.drawn {W W' W'':World} {r:Nat} {s:Rn} (h:Ran X W r s W') (k:Kept W' W''):Ran X W r s W'':=⟨h.1.kept k,Kept.behind h.2 k⟩
theorem guess_k (w:World) (a b k n j:Int) (ha:I64 a) (hb:I64 b) (hk:I64 k) (e1:Pb.guessZ a b k n=j) :
  Calls Tryz.prog 150 #[.int .i64 a,.int .i64 b,.int .i64 k,.int .i64 n] w fun e w'=>e=.returned (.int .i64 j)/\Kept w w':=by
 subst e1;refine (Pb.guess_r a b k n ha.wf hb.wf hk.wf w).mono ?_;rintro e w' ⟨rfl,m,rfl⟩;exact ⟨rfl,Kept.drewN w m⟩
theorem guess_le (a b k n:Int):Pb.guessZ a b k n<=65537:=by
 unfold Pb.guessZ
 split
 ·have:=(Pb.share_bound (Pb.gapZ a k) (Pb.gapZ a b) (n - 1) (Pb.gap_nonneg _ _)).2
  omega
 ·omega
theorem guess_n {a b k n:Int} (h:1<=Pb.guessZ a b k n):n<=65536:=by
 unfold Pb.guessZ at h
 split at h
 ·rename_i h';exact h'.2.1
 ·omega
set_option maxHeartbeats 2000000 in
theorem route_r (W:World) (r:Nat) (s:Rn) (n k:Int) (h:RunAt X W r s) (ho:s.ok) (hk:I64 k) (dd cc:Int) (s':Rn) (e1:s.route n k=((dd,cc),s')) :
  Calls Tryz.prog 125 #[.pointer (some ⟨r,0,none⟩),.int .i64 n,.int .i64 k] W fun e W'=>e=.returned (.tuple #[.int .i64 dd,.int .i64 cc])/\Ran X W r s' W':=by
 have H:=gh h;have IK:=gh hk;unfold Rn.route at e1;obtain ⟨d,s1,hx⟩:∃ d s1,s.read n=(d,s1):=⟨_,_,rfl⟩;obtain ⟨id,ok1⟩:=ho.read hx;obtain ⟨m,hm⟩:∃ m,wrap64 (d - 1)=m:=⟨_,rfl⟩;simp only [hx,hm] at e1;have HX:=gh hx;clear h ho hk hx id
 by_cases hm1:m < 1
 ·rw [if_pos hm1] at e1;have HE:Hid (dd=d/\cc=0/\s'=s1):=gh (by simp only [Prod.mk.injEq] at e1;exact ⟨e1.1.1.symm,e1.1.2.symm,e1.2.symm⟩);clear e1 ok1;go_enter Tryz.func125,Tryz.ntmps125;go_wp2_with (fail);refine (read_r _ r s n H.o d s1 HX.o).mono ?_;rintro e W1 ⟨rfl,R1⟩;go_wp2
  go_ret2
  exact ⟨by rw [HE.o.1,HE.o.2.1];rfl,by rw [HE.o.2.2];exact R1⟩
 ·rw [if_neg hm1] at e1;obtain ⟨k1,hk1⟩:∃ k1,keyZ n 1=k1:=⟨_,rfl⟩;obtain ⟨f,s2,hf⟩:∃ f s2,s1.read k1=(f,s2):=⟨_,_,rfl⟩;obtain ⟨if1,ok2⟩:=ok1.read hf;simp only [hk1,hf] at e1;have HK1:=gh hk1;have HF:=gh hf;have IF:=gh if1;clear hk1 hf if1 ok1
  by_cases hkf:k < f
  ·rw [if_pos hkf] at e1;have HE:Hid (dd=d/\cc=0/\s'=s2):=gh (by simp only [Prod.mk.injEq] at e1;exact ⟨e1.1.1.symm,e1.1.2.symm,e1.2.symm⟩);clear e1 ok2;go_enter Tryz.func125,Tryz.ntmps125;go_wp2_with (fail);refine (read_r _ r s n H.o d s1 HX.o).mono ?_;rintro e W1 ⟨rfl,R1⟩;go_wp2_with (fail);refine (key_r _ n 1 k1 HK1.o).mono ?_;rintro e w' ⟨rfl,rfl⟩;go_wp2_with (fail);refine (read_r _ r s1 k1 R1.1 f s2 HF.o).mono ?_;rintro e W2 ⟨rfl,R2⟩
   replace R2:=R1.trans R2
   go_wp2
   go_ret2
   exact ⟨by rw [HE.o.1,HE.o.2.1];rfl,by rw [HE.o.2.2];exact R2⟩
  ·rw [if_neg hkf] at e1
   by_cases hme:m=1
   ·rw [if_pos hme] at e1;have HE:Hid (dd=d/\cc=1/\s'=s2):=gh (by simp only [Prod.mk.injEq] at e1;exact ⟨e1.1.1.symm,e1.1.2.symm,e1.2.symm⟩);clear e1 ok2;have g1:(m == 1)=true:=by simp [hme]
    go_enter Tryz.func125,Tryz.ntmps125;go_wp2_with (fail);refine (read_r _ r s n H.o d s1 HX.o).mono ?_;rintro e W1 ⟨rfl,R1⟩;go_wp2_with (fail);refine (key_r _ n 1 k1 HK1.o).mono ?_;rintro e w' ⟨rfl,rfl⟩;go_wp2_with (fail);refine (read_r _ r s1 k1 R1.1 f s2 HF.o).mono ?_;rintro e W2 ⟨rfl,R2⟩
    replace R2:=R1.trans R2
    go_wp2
    go_ret2
    exact ⟨by rw [HE.o.1,HE.o.2.1];rfl,by rw [HE.o.2.2];exact R2⟩
   ·rw [if_neg hme] at e1;have g1:(m == 1)=false:=by simp [hme]
    clear hme;obtain ⟨km,hkm⟩:∃ km,keyZ n m=km:=⟨_,rfl⟩;obtain ⟨l,s3,hl⟩:∃ l s3,s2.read km=(l,s3):=⟨_,_,rfl⟩;obtain ⟨il,ok3⟩:=ok2.read hl;simp only [hkm,hl] at e1;have HKM:=gh hkm;have HL:=gh hl;have IL:=gh il;clear hkm hl il ok2
    by_cases hlk:l<=k
    ·rw [if_pos hlk] at e1;have HE:Hid (dd=d/\cc=m/\s'=s3):=gh (by simp only [Prod.mk.injEq] at e1;exact ⟨e1.1.1.symm,e1.1.2.symm,e1.2.symm⟩);clear e1 ok3;go_enter Tryz.func125,Tryz.ntmps125;go_wp2_with (fail);refine (read_r _ r s n H.o d s1 HX.o).mono ?_;rintro e W1 ⟨rfl,R1⟩;go_wp2_with (fail);refine (key_r _ n 1 k1 HK1.o).mono ?_;rintro e w' ⟨rfl,rfl⟩;go_wp2_with (fail);refine (read_r _ r s1 k1 R1.1 f s2 HF.o).mono ?_;rintro e W2 ⟨rfl,R2⟩
     replace R2:=R1.trans R2
     go_wp2_with (fail);refine (key_r _ n m km HKM.o).mono ?_;rintro e w' ⟨rfl,rfl⟩;go_wp2_with (fail);refine (read_r _ r s2 km R2.1 l s3 HL.o).mono ?_;rintro e W3 ⟨rfl,R3⟩
     replace R3:=R2.trans R3
     go_wp2
     go_ret2
     exact ⟨by rw [HE.o.1,HE.o.2.1];rfl,by rw [HE.o.2.2];exact R3⟩
    ·rw [if_neg hlk] at e1;obtain ⟨j,hj⟩:∃ j,Pb.guessZ f l k m=j:=⟨_,rfl⟩;have j1:=guess_le f l k m;have j2:=@guess_n f l k m;simp only [hj] at e1;rw [hj] at j1 j2;have HJ:=gh hj;clear hj;cases hof:s3.off with
     | true=>
      have HO:=gh hof;rw [hof] at e1;simp only [true_or,if_true] at e1;have HE:Hid (dd=d/\cc=0/\s'=s3):=gh (by simp only [Prod.mk.injEq] at e1;exact ⟨e1.1.1.symm,e1.1.2.symm,e1.2.symm⟩);clear e1 ok3 hof j2;go_enter Tryz.func125,Tryz.ntmps125;go_wp2_with (fail);refine (read_r _ r s n H.o d s1 HX.o).mono ?_;rintro e W1 ⟨rfl,R1⟩;go_wp2_with (fail);refine (key_r _ n 1 k1 HK1.o).mono ?_;rintro e w' ⟨rfl,rfl⟩;go_wp2_with (fail);refine (read_r _ r s1 k1 R1.1 f s2 HF.o).mono ?_;rintro e W2 ⟨rfl,R2⟩
      replace R2:=R1.trans R2
      go_wp2_with (fail);refine (key_r _ n m km HKM.o).mono ?_;rintro e w' ⟨rfl,rfl⟩;go_wp2_with (fail);refine (read_r _ r s2 km R2.1 l s3 HL.o).mono ?_;rintro e W3 ⟨rfl,R3⟩
      replace R3:=R2.trans R3
      go_wp2_with (fail);refine (guess_k _ f l k m j IF.o IL.o IK.o HJ.o).mono ?_;rintro e W4 ⟨rfl,K4⟩;have R4:=R3.drawn K4;obtain ⟨ta,tc,wa,wc,RI⟩:=R4.1;obtain ⟨_,_,c2,_,_,ff⟩:=RI.cells;rw [HO.o] at c2;clear RI ff K4;go_wp2
      go_ret2
      exact ⟨by rw [HE.o.1,HE.o.2.1];rfl,by rw [HE.o.2.2];exact R4⟩
     | false=>
      have HO:=gh hof;rw [hof] at e1;simp only [Bool.false_eq_true,false_or] at e1;clear hof
      by_cases hj1:j < 1
      ·rw [if_pos hj1] at e1;have HE:Hid (dd=d/\cc=0/\s'=s3):=gh (by simp only [Prod.mk.injEq] at e1;exact ⟨e1.1.1.symm,e1.1.2.symm,e1.2.symm⟩);clear e1 ok3 j2;go_enter Tryz.func125,Tryz.ntmps125;go_wp2_with (fail);refine (read_r _ r s n H.o d s1 HX.o).mono ?_;rintro e W1 ⟨rfl,R1⟩;go_wp2_with (fail);refine (key_r _ n 1 k1 HK1.o).mono ?_;rintro e w' ⟨rfl,rfl⟩;go_wp2_with (fail);refine (read_r _ r s1 k1 R1.1 f s2 HF.o).mono ?_;rintro e W2 ⟨rfl,R2⟩
       replace R2:=R1.trans R2
       go_wp2_with (fail);refine (key_r _ n m km HKM.o).mono ?_;rintro e w' ⟨rfl,rfl⟩;go_wp2_with (fail);refine (read_r _ r s2 km R2.1 l s3 HL.o).mono ?_;rintro e W3 ⟨rfl,R3⟩
       replace R3:=R2.trans R3
       go_wp2_with (fail);refine (guess_k _ f l k m j IF.o IL.o IK.o HJ.o).mono ?_;rintro e W4 ⟨rfl,K4⟩;have R4:=R3.drawn K4;obtain ⟨ta,tc,wa,wc,RI⟩:=R4.1;obtain ⟨_,_,c2,_,_,ff⟩:=RI.cells;rw [HO.o] at c2;clear RI ff K4;go_wp2
       go_ret2
       exact ⟨by rw [HE.o.1,HE.o.2.1];rfl,by rw [HE.o.2.2];exact R4⟩
      ·rw [if_neg hj1] at e1;have m6:=j2 (by omega);clear j2
       by_cases hj2:1 < j
       ·rw [if_pos hj2] at e1;obtain ⟨kj,hkj⟩:∃ kj,keyZ n j=kj:=⟨_,rfl⟩;obtain ⟨y,s4,hy⟩:∃ y s4,s3.read kj=(y,s4):=⟨_,_,rfl⟩;simp only [hkj,hy] at e1;have HKJ:=gh hkj;have HY:=gh hy;clear hkj hy ok3
        by_cases hky:k < y
        ·rw [if_pos hky] at e1;have HD:Hid (dd=d):=gh (by simp only [Prod.mk.injEq] at e1;exact e1.1.1.symm);have HU:Hid (Rn.downF n k (j - 1).toNat s4=(cc,s')):=gh (by simp only [Prod.mk.injEq] at e1;rw [<- e1.1.2,<- e1.2]);clear e1;go_enter Tryz.func125,Tryz.ntmps125;go_wp2_with (fail);refine (read_r _ r s n H.o d s1 HX.o).mono ?_;rintro e W1 ⟨rfl,R1⟩;go_wp2_with (fail);refine (key_r _ n 1 k1 HK1.o).mono ?_;rintro e w' ⟨rfl,rfl⟩;go_wp2_with (fail);refine (read_r _ r s1 k1 R1.1 f s2 HF.o).mono ?_;rintro e W2 ⟨rfl,R2⟩
         replace R2:=R1.trans R2
         go_wp2_with (fail);refine (key_r _ n m km HKM.o).mono ?_;rintro e w' ⟨rfl,rfl⟩;go_wp2_with (fail);refine (read_r _ r s2 km R2.1 l s3 HL.o).mono ?_;rintro e W3 ⟨rfl,R3⟩
         replace R3:=R2.trans R3
         go_wp2_with (fail);refine (guess_k _ f l k m j IF.o IL.o IK.o HJ.o).mono ?_;rintro e W4 ⟨rfl,K4⟩;have R4:=R3.drawn K4;obtain ⟨ta,tc,wa,wc,RI⟩:=R4.1;obtain ⟨_,_,c2,_,_,ff⟩:=RI.cells;rw [HO.o] at c2;clear RI ff K4;go_wp2_with (fail);refine (key_r _ n j kj HKJ.o).mono ?_;rintro e w' ⟨rfl,rfl⟩;go_wp2_with (fail);refine (read_r _ r s3 kj R4.1 y s4 HY.o).mono ?_;rintro e W5 ⟨rfl,R5⟩
         replace R5:=R4.trans R5
         go_wp2_with (fail)
         go_loopw [13] (fun v wr=>∃ (i:Nat) (t:Rn),v=.int .i64 (i:Int)/\i<=70000/\Rn.downF n k i t=(cc,s')/\Ran X W r t wr) (fun v _=>(intOf v).toNat)
         case atStart=>exact ⟨(j - 1).toNat,s4,by rw [Int.toNat_of_nonneg (by omega)],by omega,HU.o,R5⟩
         case round=>
          obtain ⟨i,t,rfl,i1,E,R⟩:=hrel;obtain ⟨ta,tc,wa,wc,RI⟩:=R.1;obtain ⟨_,_,c2,_,_,ff⟩:=RI.cells;clear RI ff
          by_cases hi1:1 < i
          ·obtain ⟨i,rfl⟩:∃ i',i=i' + 1:=⟨i - 1,by omega⟩;have q1:(1:Int) < ((i+1:Nat):Int):=by omega
           have q2:((i+1:Nat):Int)=(i:Int)+1:=by omega
           rw [q2] at q1 ⊢;cases ho:t.off with
           | true=>
            rw [ho] at c2;unfold Rn.downF at E;rw [ho] at E;simp only [Bool.true_eq_false,and_false,if_false] at E;have HV:=gh E;clear E ho hi1;go_wp2
            go_ret2
            have e2:=HV.o;cases e2;exact ⟨by rw [HD.o];rfl,R⟩
           | false=>
            rw [ho] at c2;obtain ⟨ki,hki⟩:∃ ki,keyZ n ((i:Int)+1)=ki:=⟨_,rfl⟩;obtain ⟨y,t2,hy⟩:∃ y t2,t.read ki=(y,t2):=⟨_,_,rfl⟩;have HKI:=gh hki;have HY2:=gh hy;unfold Rn.downF at E;rw [ho,hki,hy] at E;rw [if_pos ⟨by omega,rfl⟩] at E
            by_cases hky:y<=k
            ·rw [if_pos hky] at E;have HV:=gh E;clear E ho hki hy hi1 q2;go_wp2_with (fail);refine (key_r _ n ((i:Int)+1) ki HKI.o).mono ?_;rintro e w' ⟨rfl,rfl⟩;go_wp2_with (fail);refine (read_r _ r t ki R.1 y t2 HY2.o).mono ?_;rintro e W9 ⟨rfl,R9⟩;go_wp2
             go_ret2
             have e2:=HV.o;cases e2;exact ⟨by rw [HD.o];rfl,R.trans R9⟩
            ·rw [if_neg hky] at E;have HV:=gh E;clear E ho hki hy hi1 q2;go_wp2_with (fail);refine (key_r _ n ((i:Int)+1) ki HKI.o).mono ?_;rintro e w' ⟨rfl,rfl⟩;go_wp2_with (fail);refine (read_r _ r t ki R.1 y t2 HY2.o).mono ?_;rintro e W9 ⟨rfl,R9⟩;go_wp2;exact ⟨⟨i,t2,by simp,by omega,HV.o,R.trans R9⟩,by simp [intOf]⟩
          ·have q1:¬ ((1:Int) < (i:Int)):=by omega
           have e2:cc=1/\s'=t:=by
            cases i with
            | zero=>unfold Rn.downF at E;cases E;exact ⟨rfl,rfl⟩
            | succ i=>unfold Rn.downF at E;rw [if_neg (by omega)] at E;cases E;exact ⟨rfl,rfl⟩
           have HV:=gh e2;clear E hi1 e2;go_wp2
           go_ret2
           exact ⟨by rw [HD.o,HV.o.1];rfl,by rw [HV.o.2];exact R⟩
        ·rw [if_neg hky] at e1;have HD:Hid (dd=d):=gh (by simp only [Prod.mk.injEq] at e1;exact e1.1.1.symm);have HU:Hid (Rn.upF n k m (m - (j+1)).toNat (j+1) s4=(cc,s')):=gh (by simp only [Prod.mk.injEq] at e1;rw [<- e1.1.2,<- e1.2]);clear e1;go_enter Tryz.func125,Tryz.ntmps125;go_wp2_with (fail);refine (read_r _ r s n H.o d s1 HX.o).mono ?_;rintro e W1 ⟨rfl,R1⟩;go_wp2_with (fail);refine (key_r _ n 1 k1 HK1.o).mono ?_;rintro e w' ⟨rfl,rfl⟩;go_wp2_with (fail);refine (read_r _ r s1 k1 R1.1 f s2 HF.o).mono ?_;rintro e W2 ⟨rfl,R2⟩
         replace R2:=R1.trans R2
         go_wp2_with (fail);refine (key_r _ n m km HKM.o).mono ?_;rintro e w' ⟨rfl,rfl⟩;go_wp2_with (fail);refine (read_r _ r s2 km R2.1 l s3 HL.o).mono ?_;rintro e W3 ⟨rfl,R3⟩
         replace R3:=R2.trans R3
         go_wp2_with (fail);refine (guess_k _ f l k m j IF.o IL.o IK.o HJ.o).mono ?_;rintro e W4 ⟨rfl,K4⟩;have R4:=R3.drawn K4;obtain ⟨ta,tc,wa,wc,RI⟩:=R4.1;obtain ⟨_,_,c2,_,_,ff⟩:=RI.cells;rw [HO.o] at c2;clear RI ff K4;go_wp2_with (fail);refine (key_r _ n j kj HKJ.o).mono ?_;rintro e w' ⟨rfl,rfl⟩;go_wp2_with (fail);refine (read_r _ r s3 kj R4.1 y s4 HY.o).mono ?_;rintro e W5 ⟨rfl,R5⟩
         replace R5:=R4.trans R5
         go_wp2_with (fail)
         go_loopw [14] (fun v wr=>∃ (i:Int) (c:Nat) (t:Rn),v=.int .i64 i/\0<=i/\i<=70000/\(m - i).toNat=c/\Rn.upF n k m c i t=(cc,s')/\Ran X W r t wr) (fun v _=>(m - intOf v).toNat)
         case atStart=>exact ⟨j+1,_,s4,rfl,by omega,by omega,rfl,HU.o,R5⟩
         case round=>
          obtain ⟨i,c,t,rfl,i0,i1,hc,E,R⟩:=hrel;obtain ⟨ta,tc,wa,wc,RI⟩:=R.1;obtain ⟨_,_,c2,_,_,ff⟩:=RI.cells;clear RI ff
          by_cases him:i < m
          ·obtain ⟨c,rfl⟩:∃ c',c=c' + 1:=⟨c - 1,by omega⟩;cases ho:t.off with
           | true=>
            rw [ho] at c2;unfold Rn.upF at E;rw [ho] at E;simp only [Bool.true_eq_false,if_false] at E;have HV:=gh E;clear E ho;go_wp2
            go_ret2
            have e2:=HV.o;cases e2;exact ⟨by rw [HD.o];rfl,R⟩
           | false=>
            rw [ho] at c2;obtain ⟨ki,hki⟩:∃ ki,keyZ n i=ki:=⟨_,rfl⟩;obtain ⟨y,t2,hy⟩:∃ y t2,t.read ki=(y,t2):=⟨_,_,rfl⟩;have HKI:=gh hki;have HY2:=gh hy;unfold Rn.upF at E;rw [ho,hki,hy] at E;simp only [if_true] at E;have HCC:=gh hc
            by_cases hky:k < y
            ·rw [if_pos hky] at E;have HV:=gh E;clear E ho hki hy hc;go_wp2_with (fail);refine (key_r _ n i ki HKI.o).mono ?_;rintro e w' ⟨rfl,rfl⟩;go_wp2_with (fail);refine (read_r _ r t ki R.1 y t2 HY2.o).mono ?_;rintro e W9 ⟨rfl,R9⟩;go_wp2
             go_ret2
             have e2:=HV.o;cases e2;exact ⟨by rw [HD.o];rfl,R.trans R9⟩
            ·rw [if_neg hky] at E;have HV:=gh E;clear E ho hki hy hc;go_wp2_with (fail);refine (key_r _ n i ki HKI.o).mono ?_;rintro e w' ⟨rfl,rfl⟩;go_wp2_with (fail);refine (read_r _ r t ki R.1 y t2 HY2.o).mono ?_;rintro e W9 ⟨rfl,R9⟩;go_wp2;exact ⟨⟨i+1,c,t2,rfl,by omega,by omega,by have:=HCC.o;omega,HV.o,R.trans R9⟩,by simp [intOf];omega⟩
          ·obtain rfl:c=0:=by omega
           unfold Rn.upF at E;have HV:=gh E;clear E hc;go_wp2
           go_ret2
           have e2:=HV.o;cases e2;exact ⟨by rw [HD.o];rfl,R⟩
       ·rw [if_neg hj2] at e1;clear ok3;have HD:Hid (dd=d):=gh (by simp only [Prod.mk.injEq] at e1;exact e1.1.1.symm);have HU:Hid (Rn.upF n k m (m - (j+1)).toNat (j+1) s3=(cc,s')):=gh (by simp only [Prod.mk.injEq] at e1;rw [<- e1.1.2,<- e1.2]);clear e1;go_enter Tryz.func125,Tryz.ntmps125;go_wp2_with (fail);refine (read_r _ r s n H.o d s1 HX.o).mono ?_;rintro e W1 ⟨rfl,R1⟩;go_wp2_with (fail);refine (key_r _ n 1 k1 HK1.o).mono ?_;rintro e w' ⟨rfl,rfl⟩;go_wp2_with (fail);refine (read_r _ r s1 k1 R1.1 f s2 HF.o).mono ?_;rintro e W2 ⟨rfl,R2⟩
        replace R2:=R1.trans R2
        go_wp2_with (fail);refine (key_r _ n m km HKM.o).mono ?_;rintro e w' ⟨rfl,rfl⟩;go_wp2_with (fail);refine (read_r _ r s2 km R2.1 l s3 HL.o).mono ?_;rintro e W3 ⟨rfl,R3⟩
        replace R3:=R2.trans R3
        go_wp2_with (fail);refine (guess_k _ f l k m j IF.o IL.o IK.o HJ.o).mono ?_;rintro e W4 ⟨rfl,K4⟩;have R4:=R3.drawn K4;obtain ⟨ta,tc,wa,wc,RI⟩:=R4.1;obtain ⟨_,_,c2,_,_,ff⟩:=RI.cells;rw [HO.o] at c2;clear RI ff K4;go_wp2_with (fail)
        go_loopw [14] (fun v wr=>∃ (i:Int) (c:Nat) (t:Rn),v=.int .i64 i/\0<=i/\i<=70000/\(m - i).toNat=c/\Rn.upF n k m c i t=(cc,s')/\Ran X W r t wr) (fun v _=>(m - intOf v).toNat)
        case atStart=>exact ⟨j+1,_,s3,rfl,by omega,by omega,rfl,HU.o,R4⟩
        case round=>
         obtain ⟨i,c,t,rfl,i0,i1,hc,E,R⟩:=hrel;obtain ⟨ta,tc,wa,wc,RI⟩:=R.1;obtain ⟨_,_,c2,_,_,ff⟩:=RI.cells;clear RI ff
         by_cases him:i < m
         ·obtain ⟨c,rfl⟩:∃ c',c=c' + 1:=⟨c - 1,by omega⟩;cases ho:t.off with
          | true=>
           rw [ho] at c2;unfold Rn.upF at E;rw [ho] at E;simp only [Bool.true_eq_false,if_false] at E;have HV:=gh E;clear E ho;go_wp2
           go_ret2
           have e2:=HV.o;cases e2;exact ⟨by rw [HD.o];rfl,R⟩
          | false=>
           rw [ho] at c2;obtain ⟨ki,hki⟩:∃ ki,keyZ n i=ki:=⟨_,rfl⟩;obtain ⟨y,t2,hy⟩:∃ y t2,t.read ki=(y,t2):=⟨_,_,rfl⟩;have HKI:=gh hki;have HY2:=gh hy;unfold Rn.upF at E;rw [ho,hki,hy] at E;simp only [if_true] at E;have HCC:=gh hc
           by_cases hky:k < y
           ·rw [if_pos hky] at E;have HV:=gh E;clear E ho hki hy hc;go_wp2_with (fail);refine (key_r _ n i ki HKI.o).mono ?_;rintro e w' ⟨rfl,rfl⟩;go_wp2_with (fail);refine (read_r _ r t ki R.1 y t2 HY2.o).mono ?_;rintro e W9 ⟨rfl,R9⟩;go_wp2
            go_ret2
            have e2:=HV.o;cases e2;exact ⟨by rw [HD.o];rfl,R.trans R9⟩
           ·rw [if_neg hky] at E;have HV:=gh E;clear E ho hki hy hc;go_wp2_with (fail);refine (key_r _ n i ki HKI.o).mono ?_;rintro e w' ⟨rfl,rfl⟩;go_wp2_with (fail);refine (read_r _ r t ki R.1 y t2 HY2.o).mono ?_;rintro e W9 ⟨rfl,R9⟩;go_wp2;exact ⟨⟨i+1,c,t2,rfl,by omega,by omega,by have:=HCC.o;omega,HV.o,R.trans R9⟩,by simp [intOf];omega⟩
         ·obtain rfl:c=0:=by omega
          unfold Rn.upF at E;have HV:=gh E;clear E hc;go_wp2
          go_ret2
          have e2:=HV.o;cases e2;exact ⟨by rw [HD.o];rfl,R⟩
def Rn.child (s:Rn) (n k:Int):Int × Rn:=(childZ n (s.route n k).1.1 (s.route n k).1.2,(s.route n k).2)
theorem childr_r (W:World) (r:Nat) (s:Rn) (n k:Int) (h:RunAt X W r s) (ho:s.ok) (hk:I64 k) (z:Int) (s':Rn) (e1:s.child n k=(z,s')) :
  Calls Tryz.prog 151 #[.pointer (some ⟨r,0,none⟩),.int .i64 n,.int .i64 k] W fun e W'=>e=.returned (.int .i64 z)/\Ran X W r s' W':=by
 obtain ⟨d,c,t,ht⟩:∃ d c t,s.route n k=((d,c),t):=⟨_,_,_,rfl⟩;unfold Rn.child at e1;rw [ht] at e1;have HZ:Hid (childZ n d c=z):=gh (congrArg Prod.fst e1);have e2:t=s':=congrArg Prod.snd e1;subst e2;have HC:=gh (route_r W r s n k h ho hk d c t ht);clear h ho hk e1 ht;go_enter Tryz.func151,Tryz.ntmps151;go_wp2_with (fail);refine HC.o.mono ?_;rintro e W1 ⟨rfl,R1⟩;go_wp2_with (fail);refine (child_r _ n d c z HZ.o).mono ?_;rintro e w' ⟨rfl,rfl⟩;go_wp2;go_ret;exact ⟨rfl,R1⟩
end
section
variable {X:Nat->Prop}
namespace Rn
theorem child_on (s:Rn) (n k:Int):On (s.read n).2 (s.child n k).2:=route_on s n k
theorem child_lt {s:Rn} (n k:Int) (h:s.off=false):(s.child n k).2.left < s.left:=(child_on s n k).lt (read_lt n h)
theorem peek_on {s:Rn} {a:Int} {x:Int × Rn} (h:s.peek a=x):On s x.2:=by
 subst h;unfold peek;dsimp only;generalize hx:s.read a=x
 split
 ·generalize ho:x.2.read (ad x.1+4)=o
  split
  ·exact ((read_on hx).trans (read_on ho)).trans (ask_on _ _)
  ·exact ((read_on hx).trans (read_on ho)).trans (ask_on _ _)
 ·exact read_on hx
def seekL (s:Rn) (n k:Int):(Int × Bool) × Rn:=
 if _:s.off=false then
  if kd ((s.child n k).2.peek (s.child n k).1).1=2 then
   (if (((s.child n k).2.peek (s.child n k).1).2.read (ad ((s.child n k).2.peek (s.child n k).1).1)).1=k then
    (((((s.child n k).2.peek (s.child n k).1).2.read (ad ((s.child n k).2.peek (s.child n k).1).1)).2.read (ad ((s.child n k).2.peek (s.child n k).1).1+1)).1,true)
   else (0,false),
   if (((s.child n k).2.peek (s.child n k).1).2.read (ad ((s.child n k).2.peek (s.child n k).1).1)).1=k then
    ((((s.child n k).2.peek (s.child n k).1).2.read (ad ((s.child n k).2.peek (s.child n k).1).1)).2.read (ad ((s.child n k).2.peek (s.child n k).1).1+1)).2
   else (((s.child n k).2.peek (s.child n k).1).2.read (ad ((s.child n k).2.peek (s.child n k).1).1)).2)
  else if kd ((s.child n k).2.peek (s.child n k).1).1=3 then seekL ((s.child n k).2.peek (s.child n k).1).2 (ad ((s.child n k).2.peek (s.child n k).1).1) k
  else if kd ((s.child n k).2.peek (s.child n k).1).1=4 then
   seekL (((s.child n k).2.peek (s.child n k).1).2.read (ad ((s.child n k).2.peek (s.child n k).1).1)).2 (ad (((s.child n k).2.peek (s.child n k).1).2.read (ad ((s.child n k).2.peek (s.child n k).1).1)).1) k
  else ((0,false),((s.child n k).2.peek (s.child n k).1).2)
 else ((0,false),s)
 termination_by s.left
 decreasing_by
  ·rename_i h _ _;exact (peek_on rfl).lt (child_lt n k h)
  ·rename_i h _ _ _;exact ((peek_on rfl).trans (ask_on _ _)).lt (child_lt n k h)
def seek (s:Rn) (k:Int):(Int × Bool) × Rn:=s.seekL 1 k
theorem seekL_off {s:Rn} {n k:Int} (h:s.off=true):s.seekL n k=((0,false),s):=by
 rw [seekL,dif_neg (by rw [h];decide)]
theorem seekL_leaf {s:Rn} {n k c w q:Int} {t u v:Rn} (h:s.off=false) (hc:s.child n k=(c,t)) (hw:t.peek c=(w,u)) (h2:kd w=2) (hq:u.read (ad w)=(q,v)):s.seekL n k=if q=k then (((v.read (ad w+1)).1,true),(v.read (ad w+1)).2) else ((0,false),v):=by
 rw [seekL,dif_pos h];simp only [hc,hw,hq];rw [if_pos h2]
 by_cases e:q=k
 ·simp only [if_pos e]
 ·simp only [if_neg e]
theorem seekL_inner {s:Rn} {n k c w:Int} {t u:Rn} (h:s.off=false) (hc:s.child n k=(c,t)) (hw:t.peek c=(w,u)) (h3:kd w=3):s.seekL n k=u.seekL (ad w) k:=by
 rw [seekL,dif_pos h];simp only [hc,hw];rw [if_neg (by rw [h3];decide),if_pos h3]
theorem seekL_again {s:Rn} {n k c w q:Int} {t u v:Rn} (h:s.off=false) (hc:s.child n k=(c,t)) (hw:t.peek c=(w,u)) (h4:kd w=4) (hq:u.read (ad w)=(q,v)):s.seekL n k=v.seekL (ad q) k:=by
 rw [seekL,dif_pos h];simp only [hc,hw,hq];rw [if_neg (by rw [h4];decide),if_neg (by rw [h4];decide),if_pos h4]
theorem seekL_none {s:Rn} {n k c w:Int} {t u:Rn} (h:s.off=false) (hc:s.child n k=(c,t)) (hw:t.peek c=(w,u)) (h2:kd w≠2) (h3:kd w≠3) (h4:kd w≠4):s.seekL n k=((0,false),u):=by
 rw [seekL,dif_pos h];simp only [hc,hw];rw [if_neg h2,if_neg h3,if_neg h4]
end Rn
theorem seek_r (W:World) (r:Nat) (s:Rn) (k:Int) (h:RunAt X W r s) (ho:s.ok) (hk:I64 k) (z:Int) (b:Bool) (s':Rn) (e1:s.seek k=((z,b),s')) :
  Calls Tryz.prog 126 #[.pointer (some ⟨r,0,none⟩),.int .i64 k] W fun e W'=>e=.returned (.tuple #[.int .i64 z,.bool b])/\Ran X W r s' W':=by
 have H:=gh h;have IK:=gh hk;have OK0:=gh ho;have E1:=gh e1;clear h ho hk e1;go_enter Tryz.func126,Tryz.ntmps126;go_wp2_with (fail)
 go_loopw [6,7,8] (fun v _ _ wr=>∃ (n:Int) (t:Rn),v=.int .i64 n/\Ran X W r t wr/\t.ok/\t.seekL n k=((z,b),s')) (fun _ _ _ wr=>leftAt wr r)
 case atStart=>exact ⟨1,s,rfl,Ran.refl H.o,OK0.o,E1.o⟩
 case round=>
  obtain ⟨n,t,rfl,R,okt,E⟩:=hrel;have OK:=gh okt;obtain ⟨ta,tc,wa,wc,RI⟩:=R.1;obtain ⟨_,_,c2,_,_,ff⟩:=RI.cells;clear RI ff;cases hof:t.off with
  | true=>
   rw [hof] at c2;rw [Rn.seekL_off hof] at E;have HV:=gh E;clear E hof okt;go_wp2
   go_ret2
   have e2:=HV.o;cases e2;exact ⟨rfl,R⟩
  | false=>
   rw [hof] at c2;obtain ⟨c,t1,hc⟩:∃ c t1,t.child n k=(c,t1):=⟨_,_,rfl⟩;obtain ⟨x,t2,hx⟩:∃ x t2,t1.peek c=(x,t2):=⟨_,_,rfl⟩;have l1:t1.left < t.left:=by have:=Rn.child_lt n k hof;rw [hc] at this;exact this
   have ok1:t1.ok:=by have:=((Rn.read_on rfl).trans (Rn.child_on t n k)).ok okt;rw [hc] at this;exact this
   obtain ⟨ix,ok2⟩:=ok1.peek hx;have l2:t2.left < t.left:=(Rn.peek_on hx).lt l1;have HC:=gh hc;have HX:=gh hx;have OK1:=gh ok1;have IX:=gh ix;obtain ⟨kk,hkk⟩:∃ kk,kd x=kk:=⟨_,rfl⟩;obtain ⟨p,hp⟩:∃ p,ad x=p:=⟨_,rfl⟩;have kr:=ad_range x;rw [hp] at kr;obtain ⟨p0,p1⟩:=kr;have HK:=gh hkk;have HP:=gh hp;have L2:=gh l2;have OK2:=gh ok2
   by_cases k2:kk=2
   ·obtain ⟨q,t3,hq⟩:∃ q t3,t2.read p=(q,t3):=⟨_,_,rfl⟩;have HQ:=gh hq;rw [Rn.seekL_leaf (q:=q) (v:=t3) hof hc hx (hkk.trans k2) (by rw [hp];exact hq),hp] at E;subst k2
    by_cases hqk:q=k
    ·rw [if_pos hqk] at E;subst hqk;obtain ⟨v,t4,hv⟩:∃ v t4,t3.read (p+1)=(v,t4):=⟨_,_,rfl⟩;rw [hv] at E;have HV:=gh hv;have HE:=gh E;clear E hof okt hc hx l1 ok1 ix ok2 l2 hkk hp hq hv;go_wp2_with (fail);refine (childr_r _ r t n q R.1 OK.o IK.o c t1 HC.o).mono ?_;rintro e W2 ⟨rfl,R2⟩
     replace R2:=R.trans R2
     go_wp2_with (fail);refine (peek_r _ r t1 c R2.1 OK1.o x t2 HX.o).mono ?_;rintro e W3 ⟨rfl,R3⟩
     replace R3:=R2.trans R3
     go_wp2_with (fail);refine (ak_d _ x p IX.o HP.o).mono ?_;rintro e w' ⟨rfl,rfl⟩;go_wp2_with (fail);refine (kk_d _ x 2 IX.o HK.o).mono ?_;rintro e w' ⟨rfl,rfl⟩;go_wp2_with (fail);refine (read_r _ r t2 p R3.1 q t3 HQ.o).mono ?_;rintro e W4 ⟨rfl,R4⟩
     replace R4:=R3.trans R4
     go_wp2_with (fail);refine (read_r _ r t3 (p+1) R4.1 v t4 HV.o).mono ?_;rintro e W5 ⟨rfl,R5⟩;go_wp2
     go_ret2
     have e2:=HE.o;cases e2;exact ⟨rfl,R4.trans R5⟩
    ·rw [if_neg hqk] at E;have g1:(q == k)=false:=by simp [hqk]
     have g2:(q != k)=true:=by simp [hqk]
     have HE:=gh E;clear E hof okt hc hx l1 ok1 ix ok2 l2 hkk hp hq;go_wp2_with (fail);refine (childr_r _ r t n k R.1 OK.o IK.o c t1 HC.o).mono ?_;rintro e W2 ⟨rfl,R2⟩
     replace R2:=R.trans R2
     go_wp2_with (fail);refine (peek_r _ r t1 c R2.1 OK1.o x t2 HX.o).mono ?_;rintro e W3 ⟨rfl,R3⟩
     replace R3:=R2.trans R3
     go_wp2_with (fail);refine (ak_d _ x p IX.o HP.o).mono ?_;rintro e w' ⟨rfl,rfl⟩;go_wp2_with (fail);refine (kk_d _ x 2 IX.o HK.o).mono ?_;rintro e w' ⟨rfl,rfl⟩;go_wp2_with (fail);refine (read_r _ r t2 p R3.1 q t3 HQ.o).mono ?_;rintro e W4 ⟨rfl,R4⟩
     replace R4:=R3.trans R4
     go_wp2
     go_ret2
     have e2:=HE.o;cases e2;exact ⟨rfl,R4⟩
   ·by_cases k3:kk=3
    ·rw [Rn.seekL_inner hof hc hx (hkk.trans k3),hp] at E;subst k3;have HE:=gh E;clear E hof okt hc hx l1 ok1 ix ok2 l2 hkk hp;go_wp2_with (fail);refine (childr_r _ r t n k R.1 OK.o IK.o c t1 HC.o).mono ?_;rintro e W2 ⟨rfl,R2⟩
     replace R2:=R.trans R2
     go_wp2_with (fail);refine (peek_r _ r t1 c R2.1 OK1.o x t2 HX.o).mono ?_;rintro e W3 ⟨rfl,R3⟩
     replace R3:=R2.trans R3
     go_wp2_with (fail);refine (ak_d _ x p IX.o HP.o).mono ?_;rintro e w' ⟨rfl,rfl⟩;go_wp2_with (fail);refine (kk_d _ x 3 IX.o HK.o).mono ?_;rintro e w' ⟨rfl,rfl⟩;go_wp2;exact ⟨⟨p,t2,rfl,R3,OK2.o,HE.o⟩,by rw [R3.leftAt,R.leftAt];exact L2.o⟩
    ·by_cases k4:kk=4
     ·obtain ⟨q,t3,hq⟩:∃ q t3,t2.read p=(q,t3):=⟨_,_,rfl⟩;have HQ:=gh hq;rw [Rn.seekL_again (q:=q) (v:=t3) hof hc hx (hkk.trans k4) (by rw [hp];exact hq)] at E;obtain ⟨iq,ok3⟩:=ok2.read hq;obtain ⟨a,ha⟩:∃ a,ad q=a:=⟨_,rfl⟩;rw [ha] at E;subst k4;have IQ:=gh iq;have OK3:=gh ok3;have HA:=gh ha;have L3:=gh ((Rn.read_on hq).lt l2);have HE:=gh E;clear E hof okt hc hx l1 ok1 ix ok2 l2 hkk hp hq iq ok3 ha;go_wp2_with (fail);refine (childr_r _ r t n k R.1 OK.o IK.o c t1 HC.o).mono ?_;rintro e W2 ⟨rfl,R2⟩
      replace R2:=R.trans R2
      go_wp2_with (fail);refine (peek_r _ r t1 c R2.1 OK1.o x t2 HX.o).mono ?_;rintro e W3 ⟨rfl,R3⟩
      replace R3:=R2.trans R3
      go_wp2_with (fail);refine (ak_d _ x p IX.o HP.o).mono ?_;rintro e w' ⟨rfl,rfl⟩;go_wp2_with (fail);refine (kk_d _ x 4 IX.o HK.o).mono ?_;rintro e w' ⟨rfl,rfl⟩;go_wp2_with (fail);refine (read_r _ r t2 p R3.1 q t3 HQ.o).mono ?_;rintro e W4 ⟨rfl,R4⟩
      replace R4:=R3.trans R4
      go_wp2_with (fail);refine (ak_d _ q a IQ.o HA.o).mono ?_;rintro e w' ⟨rfl,rfl⟩;go_wp2;exact ⟨⟨a,t3,rfl,R4,OK3.o,HE.o⟩,by rw [R4.leftAt,R.leftAt];exact L3.o⟩
     ·rw [Rn.seekL_none hof hc hx (by rw [hkk];exact k2) (by rw [hkk];exact k3) (by rw [hkk];exact k4)] at E;have g2:(kk == 2)=false:=by simp [k2]
      have g3:(kk == 3)=false:=by simp [k3]
      have g4:(kk == 4)=false:=by simp [k4]
      have HE:=gh E;clear E hof okt hc hx l1 ok1 ix ok2 l2 hkk hp;go_wp2_with (fail);refine (childr_r _ r t n k R.1 OK.o IK.o c t1 HC.o).mono ?_;rintro e W2 ⟨rfl,R2⟩
      replace R2:=R.trans R2
      go_wp2_with (fail);refine (peek_r _ r t1 c R2.1 OK1.o x t2 HX.o).mono ?_;rintro e W3 ⟨rfl,R3⟩
      replace R3:=R2.trans R3
      go_wp2_with (fail);refine (ak_d _ x p IX.o HP.o).mono ?_;rintro e w' ⟨rfl,rfl⟩;go_wp2_with (fail);refine (kk_d _ x kk IX.o HK.o).mono ?_;rintro e w' ⟨rfl,rfl⟩;go_wp2
      go_ret2
      have e2:=HE.o;cases e2;exact ⟨rfl,R3⟩
end
section
variable {X:Nat->Prop}
theorem Rn.slotL_tape (n:Nat):∀ (s:Rn) (a z:Int),s.left<=n->(s.slotL a z).2.tape=s.tape:=by
 induction n with
 | zero=>
  intro s a z h
  have:¬ (s.off=false/\kd z=5):=by rintro ⟨h1,_⟩;unfold Rn.left at h;rw [h1] at h;simp at h
  rw [Rn.slotL_stop this]
 | succ n ih=>
  intro s a z h
  by_cases hc:s.off=false/\kd z=5
  ·have hl:((s.help (ad z)).read a).2.left < s.left:=Nat.lt_of_le_of_lt (Rn.read_le _ _) (Rn.help_lt _ hc.1);rw [Rn.slotL_go hc.1 hc.2 (y:=((s.help (ad z)).read a).1) (t:=((s.help (ad z)).read a).2) rfl];have e:((s.help (ad z)).read a).2.tape=s.tape:=(Rn.ask_tape _ _).trans (((Rn.ask_on s _).trans (Rn.help_on s (ad z))).tape);exact (ih _ _ _ (by omega)).trans e
  ·rw [Rn.slotL_stop hc]
theorem Rn.slot_tape (s:Rn) (a:Int):(s.slot a).2.tape=s.tape:=(Rn.slotL_tape _ _ _ _ (Nat.le_refl _)).trans (Rn.ask_tape _ _)
structure Went (X:Nat->Prop) (W:World) (r:Nat) (s s':Rn) (W':World):Prop where
 ran:Ran X W r s' W'
 on:Rn.On s s'
 ok:s'.ok
theorem Went.at {W W':World} {r:Nat} {s s':Rn} (h:Went X W r s s' W'):RunAt X W' r s':=h.ran.1
theorem Went.trans {W W' W'':World} {r:Nat} {s s' s'':Rn} (h:Went X W r s s' W') (h':Went X W' r s' s'' W''):Went X W r s s'' W'':=⟨h.ran.trans h'.ran,h.on.trans h'.on,h'.ok⟩
theorem Went.refl {W:World} {r:Nat} {s:Rn} (h:RunAt X W r s) (ho:s.ok):Went X W r s s W:=⟨Ran.refl h,Rn.On.refl s,ho⟩
end
section
end
section
theorem info4_p:(Tryz.prog.info? 4).map (fun i=>(i.zero,i.size,i.bytes))=some (some (.bool false),1,1):=by kernel_rfl
theorem run_make39 (n:Nat) (h:n<=100000) (w:World):(Instr.makeSlice 56 (.int .i64 (n:Int)) (.int .i64 (n:Int))).run Tryz.prog w=.ok (.slice (some ⟨w.heap.size,0,none⟩) n n) (w.alloc (.cells (madeCells #[.int .i64 0] n) 2)):=
 run_make_row' 56 2 (.int .i64 0) 8 Tryz.underlying56 info2_p rfl .i64 .i64 n (by omega) (by omega) w
theorem run_make58 (n:Nat) (h:n<=100000) (w:World):(Instr.makeSlice 191 (.int .i64 (n:Int)) (.int .i64 (n:Int))).run Tryz.prog w=.ok (.slice (some ⟨w.heap.size,0,none⟩) n n) (w.alloc (.cells (madeCells #[.bool false] n) 4)):=
 run_make_row' 191 4 (.bool false) 1 Tryz.underlying191 info4_p rfl .i64 .i64 n (by omega) (by omega) w
end
section
end
section
theorem sndW_succ (s:Mst) (f:Nat) (w lo hi:Int) (t:Tk):sndW s (f+1) w lo hi t =
  if kd w=1 then takeO (s.xs.length+1) t (ad w).toNat 1
  else if kd w=2 then (if lo<=s.look (ad w)/\s.look (ad w)<=hi then takeO (s.xs.length+1) t (ad w).toNat 2 else none)
  else if kd w=3 then sndInner s (sndW s f) (ad w).toNat lo hi t
  else if kd w=4 then (if kd (s.look (ad w))=3 then (takeO (s.xs.length+1) t (ad w).toNat 5).bind fun t1=>sndW s f (s.look (ad w)) lo hi t1 else none)
  else none:=rfl
end
section
end
section
section
variable (s:Mst)
def tgt (w:Int):Int:=if kd w=4 then s.look (ad w) else w
def atN (w:Int):Nat:=(ad (tgt s w)).toNat
def degN (w:Int):Nat:=(s.look (ad (tgt s w))).toNat
def slotsL (w:Int):List (Int × Int):=if kd (tgt s w)=3 then (List.range (degN s w)).map (fun i:Nat=>((i:Int),childS (atN s w) (degN s w) i)) else []
structure WfH (w:Int):Prop where
 i64:I64 w
 deg:kd (tgt s w)=3->2<=s.look (ad (tgt s w))/\s.look (ad (tgt s w))<=40000
 tg:kd w=4->kd (tgt s w)=3
def Wf:Nat->Int->Prop
 | 0,_=>False
 | f+1,w=>WfH s w/\∀ p ∈ slotsL s w,Wf f (s.logicZ p.2)
def spotsF:Nat->Int->List (Int × Int)
 | 0,_=>[]
 | f+1,w=>(slotsL s w).flatMap (fun p=>(p.2,s.logicZ p.2) :: spotsF f (s.logicZ p.2))
end
theorem tgt_i64 {s:Mst} (ho:s.ok) {w:Int} (h:I64 w):I64 (tgt s w):=by
 unfold tgt;split
 ·exact ho.look _
 ·exact h
theorem tgt_tgt {s:Mst} {w:Int} (h:kd (tgt s w)=3):tgt s (tgt s w)=tgt s w:=by
 rw [tgt,if_neg (by rw [h];decide)]
theorem Wf.mono {s:Mst}:∀ {f g:Nat} {w:Int},Wf s f w->f<=g->Wf s g w
 | 0,_,_,h,_=>h.elim
 | f+1,0,_,_,h=>absurd h (by omega)
 | f+1,g+1,_,h,hg=>⟨h.1,fun p hp=>(h.2 p hp).mono (by omega)⟩
theorem Wf.pos {s:Mst} {f:Nat} {w:Int} (h:Wf s f w):∃ g,f=g+1/\WfH s w/\∀ p ∈ slotsL s w,Wf s g (s.logicZ p.2):=by
 cases f with
 | zero=>exact h.elim
 | succ f=>exact ⟨f,rfl,h.1,h.2⟩
theorem Wf.up {s:Mst} {f:Nat} {w:Int} (hi:I64 w) (hk:kd (s.look (ad w))=3) (h4:kd w=4) (h:Wf s f (s.look (ad w))):Wf s f w:=by
 obtain ⟨g,rfl,h1,h2⟩:=h.pos;have e1:tgt s w=s.look (ad w):=by rw [tgt,if_pos h4]
 have e2:tgt s (s.look (ad w))=s.look (ad w):=by rw [tgt,if_neg (by rw [hk];decide)]
 have e3:slotsL s w=slotsL s (s.look (ad w)):=by unfold slotsL degN atN;rw [e1,e2]
 refine ⟨⟨hi,?_,?_⟩,?_⟩
 ·rw [e1,<- e2];exact h1.deg
 ·intro _;rw [e1];exact hk
 ·rw [e3];exact h2
theorem chain_all {s:Mst} {W:Int->Int->Int->Tk->Option Tk} {a d:Nat} {lo hi:Int} {n:Nat} {t u:Tk} (h:chain (kidG s W a d lo hi) n t=some u):∀ i,i < n->∃ l h t' u',W (s.logicZ (childS a d i)) l h t'=some u':=by
 induction n generalizing u with
 | zero=>intro i hi;omega
 | succ n ih=>
  rw [chain,Option.bind_eq_some_iff] at h;obtain ⟨v,h1,h2⟩:=h;intro i hi
  by_cases e:i=n
  ·subst e;unfold kidG sndSlot at h2
   split at h2
   ·exact ⟨_,_,_,_,h2⟩
   ·cases h2
  ·exact ih h1 i (by omega)
theorem wf_of_snd {s:Mst} (ho:s.ok):∀ (f:Nat) (w lo hi:Int) (t u:Tk),I64 w->sndW s f w lo hi t=some u->Wf s f w
 | 0,_,_,_,_,_,_,h=>by cases h
 | f+1,w,lo,hi,t,u,hw,h=>by
  have ih:=wf_of_snd ho f;rw [sndW_succ] at h;have plain:kd w≠3->kd w≠4->Wf s (f+1) w:=fun h3 h4=>by
   have e:tgt s w=w:=by rw [tgt,if_neg h4]
   refine ⟨⟨hw,fun h'=>absurd (e ▸ h') h3,fun h'=>absurd h' h4⟩,?_⟩;unfold slotsL;rw [e,if_neg h3];intro p hp;cases hp
  split at h
  ·rename_i k;exact plain (by omega) (by omega)
  ·split at h
   ·rename_i k;exact plain (by omega) (by omega)
   ·split at h
    ·rename_i k3;have e:tgt s w=w:=by rw [tgt,if_neg (by omega)]
     have ha:=ad_range w;unfold sndInner at h;have ea:(((ad w).toNat:Nat):Int)=ad w:=by omega
     rw [ea] at h
     split at h
     ·cases h
     ·rename_i hd;rw [Option.bind_eq_some_iff] at h;obtain ⟨t1,h1,h2⟩:=h
      split at h2
      ·have hfit:(s.look (ad w)).toNat<=40000:=by
        unfold takeO at h1
        split at h1
        ·rename_i c;simp only [Bool.and_eq_true,decide_eq_true_eq] at c
         have:=ho.2
         omega
        ·cases h1
       refine ⟨⟨hw,fun _=>by rw [e];omega,fun h'=>by omega⟩,?_⟩;unfold slotsL;rw [e,if_pos k3];intro p hp;rw [List.mem_map] at hp;obtain ⟨i,hi,rfl⟩:=hp;simp only [List.mem_range,degN,e] at hi;obtain ⟨l,h',t',u',h3⟩:=chain_all h2 i hi;have h4:=ih _ _ _ _ _ (ho.logic _) h3;simpa [degN,atN,e] using h4
      ·cases h2
    ·split at h
     ·rename_i k4
      split at h
      ·rename_i k3;rw [Option.bind_eq_some_iff] at h;obtain ⟨t1,h1,h2⟩:=h;exact ((ih _ _ _ _ _ (ho.look _) h2).up hw k3 k4).mono (by omega)
      ·cases h
     ·cases h
theorem wf_root {s:Mst} (ho:s.ok) (h:soundB s=true):Wf s (fuel s) (s.logicZ 6):=by
 unfold soundB at h;simp only [Bool.and_eq_true] at h;have h4:=h.2;cases e:sndSlot s (sndW s (fuel s)) 6 (-9223372036854775808) 9223372036854775807 base0 with
 | none=>rw [e] at h4;cases h4
 | some u=>
  unfold sndSlot at e
  split at e
  ·exact wf_of_snd ho _ _ _ _ _ _ (ho.logic _) e
  ·cases e
end
section
end
section
abbrev Inv (α:Type):=(Nat->Prop)->List α->World->Prop
end
section
end
section
open Go.Shelf
attribute [local go_sem] Oper.semAt_some
theorem at_split {α:Type} {L:List α} {k:Nat} {p:α} (h:L[k]? = some p):L=L.take k++p :: L.drop (k+1)/\L.take k++[p]=L.take (k+1):=by
 obtain ⟨hk,rfl⟩:=List.getElem?_eq_some_iff.1 h;refine ⟨?_,?_⟩
 ·rw [List.getElem_cons_drop,List.take_append_drop]
 ·rw [List.take_succ_eq_append_getElem hk]
theorem slotsL_none {s:Mst} {x:Int} (h:kd (tgt s x)≠3):slotsL s x=[]:=by unfold slotsL;rw [if_neg h]
theorem slotsL_len {s:Mst} {x:Int} (h:kd (tgt s x)=3):(slotsL s x).length=degN s x:=by unfold slotsL;rw [if_pos h];simp
theorem slotsL_at {s:Mst} {x:Int} (h:kd (tgt s x)=3) {k:Nat} (hk:k < degN s x):(slotsL s x)[k]? = some ((k:Int),childS (atN s x) (degN s x) k):=by
 unfold slotsL;rw [if_pos h,List.getElem?_map,List.getElem?_range hk];rfl
end
section
open Go.Shelf
attribute [local go_sem] Oper.semAt_some
def oneF (s:Mst) (f:Nat) (p:Int × Int):List (Int × Int):=(p.2,s.logicZ p.2) :: spotsF s f (s.logicZ p.2)
theorem spotsF_succ (s:Mst) (f:Nat) (x:Int):spotsF s (f+1) x=(slotsL s x).flatMap (oneF s f):=rfl
end
section
open Go.Shelf
attribute [local go_sem] Oper.semAt_some
def spotsL (s:Mst) (f:Nat):List (Int × Int):=(6,s.logicZ 6) :: spotsF s f (s.logicZ 6)
end
section
section
variable {P:Program} {ops:Array Oper} {Q:Exit->Act->World->Prop} {md:Region.Mode} {n:Nat}
end
end
section
end
section
open Go.Shelf
end
namespace Pt
open Go
def sqN:Nat->Nat
 | 0=>0
 | n+1=>if (sqN n+1) * (sqN n+1)<=n+1 then sqN n+1 else sqN n
def rootZ (n:Int):Int:=(sqN n.toNat:Int)
theorem sqN_spec (n:Nat):sqN n * sqN n<=n/\n < (sqN n+1) * (sqN n+1):=by
 induction n with
 | zero=>simp [sqN]
 | succ n ih=>
  obtain ⟨h1,h2⟩:=ih;unfold sqN
  split
  ·rename_i h;refine ⟨h,?_⟩;generalize sqN n=r at h1 h2 h;have e:(r+1+1) * (r+1+1)=(r+1) * (r+1)+2 * r+3:=by
    simp only [Nat.mul_add,Nat.add_mul];omega
   omega
  ·rename_i h;exact ⟨by omega,by omega⟩
theorem mul_self_le {a b:Int} (ha:0<=a) (h:a<=b):a * a<=b * b:=by
 have h1:a * a<=a * b:=Int.mul_le_mul_of_nonneg_left h ha;have h2:a * b<=b * b:=Int.mul_le_mul_of_nonneg_right h (by omega);omega
theorem lt_of_self {a b:Int} (hb:0<=b) (h:a * a < b * b):a < b:=by
 rcases Int.lt_or_le a b with g | g
 ·exact g
 ·have:=mul_self_le hb g
  omega
theorem root_spec {n:Int} (h:0<=n):0<=rootZ n/\rootZ n * rootZ n<=n/\n < (rootZ n+1) * (rootZ n+1):=by
 obtain ⟨h1,h2⟩:=sqN_spec n.toNat;unfold rootZ;refine ⟨by omega,?_,?_⟩
 ·rw [<- Int.natCast_mul];omega
 ·have e:((sqN n.toNat:Int)+1) * ((sqN n.toNat:Int)+1)=(((sqN n.toNat+1) * (sqN n.toNat+1):Nat):Int):=by
   rw [Int.natCast_mul,Int.natCast_add];rfl
  rw [e];omega
theorem root_unique {n r:Int} (hr:0<=r) (h1:r * r<=n) (h2:n < (r+1) * (r+1)):rootZ n=r:=by
 have hn:0<=n:=Int.le_trans (Int.mul_nonneg hr hr) h1;obtain ⟨g0,g1,g2⟩:=root_spec hn;have a1:=lt_of_self (a:=r) (b:=rootZ n+1) (by omega) (by omega);have a2:=lt_of_self (a:=rootZ n) (b:=r+1) (by omega) (by omega);omega
theorem root_none {n:Int} (h:n < 1):rootZ n=0:=by
 have e:n.toNat=0:=by omega
 unfold rootZ;rw [e];rfl
theorem le_quo {n t:Int} (ht:0 < t):t<=n / t↔t * t<=n:=Int.le_ediv_iff_mul_le ht
end Pt
namespace Pt
open Go.ChangeShapes Go.WideShapes Go.ChangeAt Go.RowKit
theorem wrap_same {a:Int} (h:-9223372036854775808<=a) (h':a<=9223372036854775807):wrap64 a=a:=by
 unfold wrap64;omega
theorem gh {p:Prop} (h:p):Hid p:=h
theorem pow_cast (k:Nat):(2:Int) ^ k=((2 ^ k:Nat):Int):=by rw [Int.natCast_pow];rfl
theorem pow_wrap {k:Nat} (h:k<=62):wrap64 ((2:Int) ^ k)=((2 ^ k:Nat):Int):=by
 have h1:2 ^ k<=2 ^ 62:=Nat.pow_le_pow_right (by omega) h;have h0:1<=2 ^ k:=Nat.one_le_two_pow;rw [pow_cast,wrap_same (by omega) (by omega)]
theorem ret_int {k:IntKind} {a b:Int} (h:a=b):Ending.returned (.int k a)=.returned (.int k b):=by rw [h]
end Pt
namespace Pt
open Go
def degZ (n:Int):Int:=if 2<=n/\n<=16384 then max 2 (rootZ n) else 0
def eachZ (n:Int):Int:=n / degZ n
def moreZ (n:Int):Int:=n % degZ n
def sizeZ (n i:Int):Int:=if 0<=i/\i < degZ n then (if i < moreZ n then eachZ n+1 else eachZ n) else 0
def aheadZ (n i:Int):Int:=i * eachZ n+min i (moreZ n)
def fromZ (n i:Int):Int:=if 0<=i/\i < degZ n then aheadZ n i else 0
def limZ (n:Int):Int:=if 0<=n/\n<=16384 then n / 4+2 else 0
def depF:Nat->Int->Int
 | 0,_=>0
 | f+1,n=>if degZ n=0 then 0 else 1+max (depF f (sizeZ n 0)) (depF f (sizeZ n (degZ n - 1)))
def depZ (n:Int):Int:=depF n.toNat n
def celF:Nat->Int->Int
 | 0,n=>if n=0 then 1 else 0
 | f+1,n=>if n < 0∨16384 < n then 0 else if n < 2 then n+1 else
   4+degZ n * 2+(degZ n - moreZ n) * celF f (eachZ n)+moreZ n * celF f (eachZ n+1)
def celZ (n:Int):Int:=celF n.toNat n
theorem deg_none {n:Int} (h:n < 2∨16384 < n):degZ n=0:=by
 unfold degZ;rw [if_neg (by omega)]
theorem deg_some {n:Int} (h:2<=n) (h':n<=16384):degZ n=max 2 (rootZ n):=by
 unfold degZ;rw [if_pos ⟨h,h'⟩]
theorem root_bound {n:Int} (h:2<=n) (h':n<=16384):1<=rootZ n/\rootZ n<=128/\rootZ n < n:=by
 obtain ⟨g0,g1,g2⟩:=root_spec (n:=n) (by omega);have a:=lt_of_self (a:=rootZ n) (b:=129) (by omega) (by omega);have b:1<=rootZ n:=by
  rcases Int.lt_or_le (rootZ n) 1 with k | k
  ·have e:rootZ n=0:=by omega
   rw [e] at g2;omega
  ·exact k
 refine ⟨b,by omega,?_⟩;rcases Int.lt_or_le (rootZ n) 2 with k | k
 ·omega
 ·have c:rootZ n * 2<=rootZ n * rootZ n:=Int.mul_le_mul_of_nonneg_left k (by omega);omega
theorem deg_bound {n:Int} (h:2<=n) (h':n<=16384):2<=degZ n/\degZ n<=128/\degZ n<=n:=by
 have:=root_bound h h'
 rw [deg_some h h'];omega
theorem deg_nat (n:Int):0<=degZ n/\degZ n<=128:=by
 by_cases c:2<=n/\n<=16384
 ·have:=deg_bound c.1 c.2;omega
 ·rw [deg_none (by omega)];omega
theorem deg_pos {n:Int} (h:0 < degZ n):2<=n/\n<=16384:=by
 by_cases c:2<=n/\n<=16384
 ·exact c
 ·rw [deg_none (by omega)] at h;omega
theorem split_eq {n:Int} (h:0 < degZ n):degZ n * eachZ n+moreZ n=n/\0<=moreZ n/\moreZ n < degZ n:=by
 unfold eachZ moreZ;have a:=Int.mul_ediv_add_emod n (degZ n);have b:=Int.emod_nonneg n (show degZ n≠0 by omega);have c:=Int.emod_lt_of_pos n h;omega
theorem each_bound {n:Int} (h:0 < degZ n):1<=eachZ n/\eachZ n < n/\eachZ n<=8192/\(0 < moreZ n->eachZ n+1 < n):=by
 obtain ⟨h1,h2⟩:=deg_pos h;obtain ⟨d1,d2,d3⟩:=deg_bound h1 h2;obtain ⟨s1,s2,s3⟩:=split_eq h;have a:1<=eachZ n:=by
  unfold eachZ;exact (Int.le_ediv_iff_mul_le h).mpr (by omega)
 have b:2 * eachZ n<=degZ n * eachZ n:=Int.mul_le_mul_of_nonneg_right d1 (by omega);omega
theorem size_none {n i:Int} (h:i < 0∨degZ n<=i):sizeZ n i=0:=by
 unfold sizeZ;rw [if_neg (by omega)]
theorem size_more {n i:Int} (h0:0<=i) (h1:i < degZ n) (h:i < moreZ n):sizeZ n i=eachZ n+1:=by
 unfold sizeZ;rw [if_pos ⟨h0,h1⟩,if_pos h]
theorem size_each {n i:Int} (h0:0<=i) (h1:i < degZ n) (h:moreZ n<=i):sizeZ n i=eachZ n:=by
 unfold sizeZ;rw [if_pos ⟨h0,h1⟩,if_neg (by omega)]
theorem size_cases {n i:Int} (h0:0<=i) (h1:i < degZ n):(i < moreZ n/\sizeZ n i=eachZ n+1)∨(moreZ n<=i/\sizeZ n i=eachZ n):=by
 rcases Int.lt_or_le i (moreZ n) with k | k
 ·exact Or.inl ⟨k,size_more h0 h1 k⟩
 ·exact Or.inr ⟨k,size_each h0 h1 k⟩
theorem size_bound {n i:Int} (h0:0<=i) (h1:i < degZ n):1<=sizeZ n i/\sizeZ n i < n:=by
 obtain ⟨e1,e2,e3,e4⟩:=each_bound (n:=n) (by omega);rcases size_cases h0 h1 with ⟨k,e⟩ | ⟨k,e⟩ <;> rw [e]
 ·have:=e4 (by omega);omega
 ·omega
theorem size_last {n:Int} (h:0 < degZ n):sizeZ n (degZ n - 1)=eachZ n:=by
 obtain ⟨s1,s2,s3⟩:=split_eq h;exact size_each (by omega) (by omega) (by omega)
theorem size_first {n:Int} (h:0 < degZ n):(0 < moreZ n/\sizeZ n 0=eachZ n+1)∨(moreZ n=0/\sizeZ n 0=eachZ n):=by
 obtain ⟨s1,s2,s3⟩:=split_eq h;rcases size_cases (n:=n) (i:=0) (by omega) (by omega) with ⟨k,e⟩ | ⟨k,e⟩
 ·exact Or.inl ⟨by omega,e⟩
 ·exact Or.inr ⟨by omega,e⟩
theorem ahead_zero {n:Int} (h:0 < degZ n):aheadZ n 0=0:=by
 have:=split_eq h
 unfold aheadZ;omega
theorem ahead_step {n i:Int} (h0:0<=i) (h1:i < degZ n):aheadZ n (i+1)=aheadZ n i+sizeZ n i:=by
 have e:(i+1) * eachZ n=i * eachZ n+eachZ n:=by rw [Int.add_mul,Int.one_mul]
 unfold aheadZ;rw [e];rcases size_cases h0 h1 with ⟨k,e⟩ | ⟨k,e⟩ <;> rw [e] <;> omega
theorem ahead_end {n:Int} (h:0 < degZ n):aheadZ n (degZ n)=n:=by
 obtain ⟨s1,s2,s3⟩:=split_eq h;unfold aheadZ;omega
theorem ahead_bound {n i:Int} (h0:0<=i) (h1:i<=degZ n) (h:0 < degZ n):0<=i * eachZ n/\i * eachZ n<=16384/\0<=aheadZ n i/\aheadZ n i<=16384:=by
 obtain ⟨s1,s2,s3⟩:=split_eq h;have d:=deg_pos h;obtain ⟨e1,e2,e3,e4⟩:=each_bound h;have a:0<=i * eachZ n:=Int.mul_nonneg h0 (by omega);have b:i * eachZ n<=degZ n * eachZ n:=Int.mul_le_mul_of_nonneg_right h1 (by omega);unfold aheadZ;omega
theorem from_none {n i:Int} (h:i < 0∨degZ n<=i):fromZ n i=0:=by
 unfold fromZ;rw [if_neg (by omega)]
theorem from_some {n i:Int} (h0:0<=i) (h1:i < degZ n):fromZ n i=aheadZ n i:=by
 unfold fromZ;rw [if_pos ⟨h0,h1⟩]
theorem depF_more (f:Nat):∀ n:Int,n.toNat<=f->depF f n=depF n.toNat n:=by
 induction f using Nat.strongRecOn with
 | _ f ih=>
  intro n hn;have key:∀ g:Nat,n.toNat<=g->(∀ m:Int,m.toNat < n.toNat->depF (g - 1) m=depZ m)->depF g n=if degZ n=0 then 0 else 1+max (depZ (sizeZ n 0)) (depZ (sizeZ n (degZ n - 1))):=by
   intro g hg hm;cases g with
   | zero=>
    have e:degZ n=0:=deg_none (by omega);rw [e];rfl
   | succ g=>
    unfold depF
    by_cases c:degZ n=0
    ·rw [if_pos c,if_pos c]
    ·have d:=deg_nat n;have p:=deg_pos (n:=n) (by omega);have b1:=size_bound (n:=n) (i:=0) (by omega) (by omega);have b2:=size_bound (n:=n) (i:=degZ n - 1) (by omega) (by omega);rw [if_neg c,if_neg c];have m1:=hm (sizeZ n 0) (by omega);have m2:=hm (sizeZ n (degZ n - 1)) (by omega);simp only [Nat.add_sub_cancel] at m1 m2;rw [m1,m2]
  rcases Nat.lt_or_ge n.toNat f with k | k
  ·rw [key f hn (fun m hm=>ih (f - 1) (by omega) m (by omega)),key n.toNat (Nat.le_refl _) (fun m hm=>ih (n.toNat - 1) (by omega) m (by omega))]
  ·have:n.toNat=f:=by omega
   rw [this]
theorem dep_eq (n:Int):depZ n=if degZ n=0 then 0 else 1+max (depZ (sizeZ n 0)) (depZ (sizeZ n (degZ n - 1))):=by
 by_cases c:degZ n=0
 ·rw [if_pos c];unfold depZ;cases h:n.toNat with
  | zero=>rfl
  | succ f=>unfold depF;rw [if_pos c]
 ·have d:=deg_nat n;have p:=deg_pos (n:=n) (by omega);have b1:=size_bound (n:=n) (i:=0) (by omega) (by omega);have b2:=size_bound (n:=n) (i:=degZ n - 1) (by omega) (by omega);rw [if_neg c];obtain ⟨f,hf⟩:∃ f,n.toNat=f+1:=⟨n.toNat - 1,by omega⟩;have e:depZ n=depF (f+1) n:=by unfold depZ;rw [hf]
  rw [e];unfold depF;rw [if_neg c,depF_more f _ (by omega),depF_more f _ (by omega)];rfl
theorem dep_none {n:Int} (h:n < 2∨16384 < n):depZ n=0:=by
 rw [dep_eq,if_pos (deg_none h)]
theorem dep_some {n:Int} (h:0 < degZ n):depZ n=1+max (depZ (sizeZ n 0)) (depZ (eachZ n)):=by
 rw [dep_eq,if_neg (by omega),size_last h]
theorem dep_nat (n:Int):0<=depZ n/\depZ n<=max 0 n:=by
 suffices H:∀ (f:Nat) (n:Int),n.toNat<=f->0<=depZ n/\depZ n<=max 0 n from H n.toNat n (Nat.le_refl _)
 intro f
 induction f with
 | zero=>intro n hn;rw [dep_none (by omega)];omega
 | succ f ih=>
  intro n hn
  by_cases c:degZ n=0
  ·rw [dep_eq,if_pos c];omega
  ·have d:=deg_nat n;have p:=deg_pos (n:=n) (by omega);have b1:=size_bound (n:=n) (i:=0) (by omega) (by omega);have b2:=each_bound (n:=n) (by omega);have i1:=ih (sizeZ n 0) (by omega);have i2:=ih (eachZ n) (by omega);rw [dep_some (by omega)];omega
def mxZ (n i:Int):Int:=if i<=0 then 0 else if i<=moreZ n then depZ (sizeZ n 0) else max (depZ (sizeZ n 0)) (depZ (eachZ n))
theorem mx_step {n i:Int} (h0:0<=i) (h1:i < degZ n):mxZ n (i+1)=max (mxZ n i) (depZ (sizeZ n i)):=by
 have k0:=dep_nat (sizeZ n 0);have k1:=dep_nat (eachZ n);have f:=size_first (n:=n) (by omega);unfold mxZ;rw [if_neg (by omega)]
 by_cases c:i=0
 ·subst c;rw [if_pos (Int.le_refl 0)];rcases f with ⟨f1,f2⟩ | ⟨f1,f2⟩
  ·rw [if_pos (by omega)];omega
  ·rw [if_neg (by omega),f2];omega
 ·rw [if_neg (by omega:¬ i<=0)];rcases size_cases h0 h1 with ⟨k,e⟩ | ⟨k,e⟩
  ·rw [if_pos (by omega),if_pos (by omega),e];rcases f with ⟨f1,f2⟩ | ⟨f1,f2⟩
   ·rw [f2];omega
   ·omega
  ·rw [if_neg (by omega),e]
   by_cases g:i<=moreZ n
   ·rw [if_pos g]
   ·rw [if_neg g];omega
theorem mx_end {n:Int} (h:0 < degZ n):mxZ n (degZ n)=max (depZ (sizeZ n 0)) (depZ (eachZ n)):=by
 have:=split_eq h
 unfold mxZ;rw [if_neg (by omega),if_neg (by omega)]
theorem celF_more (f:Nat):∀ n:Int,n.toNat<=f->celF f n=celF n.toNat n:=by
 induction f using Nat.strongRecOn with
 | _ f ih=>
  intro n hn;have key:∀ g:Nat,n.toNat<=g->(∀ m:Int,m.toNat < n.toNat->celF (g - 1) m=celZ m)->celF g n=if n < 0∨16384 < n then 0 else if n < 2 then n+1 else
   4+degZ n * 2+(degZ n - moreZ n) * celZ (eachZ n)+(if moreZ n=0 then 0 else moreZ n * celZ (eachZ n+1)):=by
   intro g hg hm;cases g with
   | zero=>
    unfold celF
    by_cases c:n=0
    ·rw [if_pos c,if_neg (by omega),if_pos (by omega),c];rfl
    ·rw [if_neg c,if_pos (by omega)]
   | succ g=>
    unfold celF
    by_cases c:n < 0∨16384 < n
    ·rw [if_pos c,if_pos c]
    ·by_cases c2:n < 2
     ·rw [if_neg c,if_neg c,if_pos c2,if_pos c2]
     ·rw [if_neg c,if_neg c,if_neg c2,if_neg c2];have d:=deg_bound (n:=n) (by omega) (by omega);obtain ⟨e1,e2,e3,e4⟩:=each_bound (n:=n) (by omega);have m1:=hm (eachZ n) (by omega);simp only [Nat.add_sub_cancel] at m1;rw [m1]
      by_cases c3:moreZ n=0
      ·rw [if_pos c3,c3,Int.zero_mul]
      ·have s:=split_eq (n:=n) (by omega)
       have:=e4 (by omega)
       have m2:=hm (eachZ n+1) (by omega);simp only [Nat.add_sub_cancel] at m2;rw [if_neg c3,m2]
  rcases Nat.lt_or_ge n.toNat f with k | k
  ·rw [key f hn (fun m hm=>ih (f - 1) (by omega) m (by omega)),key n.toNat (Nat.le_refl _) (fun m hm=>ih (n.toNat - 1) (by omega) m (by omega))]
  ·have:n.toNat=f:=by omega
   rw [this]
theorem cel_none {n:Int} (h:n < 0∨16384 < n):celZ n=0:=by
 unfold celZ;cases k:n.toNat with
 | zero=>unfold celF;rw [if_neg (by omega)]
 | succ f=>unfold celF;rw [if_pos h]
theorem cel_few {n:Int} (h:0<=n) (h':n < 2):celZ n=n+1:=by
 unfold celZ;cases k:n.toNat with
 | zero=>unfold celF;rw [if_pos (by omega)];omega
 | succ f=>unfold celF;rw [if_neg (by omega),if_pos (by omega)]
theorem cel_some {n:Int} (h:0 < degZ n):celZ n=4+degZ n * 2+(degZ n - moreZ n) * celZ (eachZ n)+moreZ n * celZ (eachZ n+1):=by
 have p:=deg_pos h;obtain ⟨e1,e2,e3,e4⟩:=each_bound h;obtain ⟨f,hf⟩:∃ f,n.toNat=f+1:=⟨n.toNat - 1,by omega⟩;have e:celZ n=celF (f+1) n:=by unfold celZ;rw [hf]
 rw [e];unfold celF;rw [if_neg (by omega),if_neg (by omega),celF_more f _ (by omega),show celF (eachZ n).toNat (eachZ n)=celZ (eachZ n) from rfl]
 by_cases c3:moreZ n=0
 ·rw [c3,Int.zero_mul,Int.zero_mul]
 ·have s:=split_eq h
  have:=e4 (by omega)
  rw [celF_more f _ (by omega)];rfl
theorem cel_bound {n:Int} (h:1<=n):0<=celZ n/\celZ n<=10 * n - 8:=by
 suffices H:∀ (f:Nat) (n:Int),1<=n->n.toNat<=f->0<=celZ n/\celZ n<=10 * n - 8 from H n.toNat n h (Nat.le_refl _)
 intro f
 induction f with
 | zero=>intro n h hn;omega
 | succ f ih=>
  intro n h hn
  by_cases c:16384 < n
  ·rw [cel_none (Or.inr c)];omega
  ·by_cases c2:n < 2
   ·rw [cel_few (by omega) c2];omega
   ·have d:=deg_bound (n:=n) (by omega) (by omega);obtain ⟨e1,e2,e3,e4⟩:=each_bound (n:=n) (by omega);obtain ⟨s1,s2,s3⟩:=split_eq (n:=n) (by omega);have i1:=ih (eachZ n) (by omega) (by omega);have a1:0<=(degZ n - moreZ n) * celZ (eachZ n):=Int.mul_nonneg (by omega) (by omega);have a2:(degZ n - moreZ n) * celZ (eachZ n)<=(degZ n - moreZ n) * (10 * eachZ n - 8):=Int.mul_le_mul_of_nonneg_left (by omega) (by omega);have a3:0<=moreZ n * celZ (eachZ n+1)/\moreZ n * celZ (eachZ n+1)<=moreZ n * (10 * (eachZ n+1) - 8):=by
     by_cases c3:moreZ n=0
     ·rw [c3,Int.zero_mul,Int.zero_mul];omega
     ·have:=e4 (by omega)
      have i2:=ih (eachZ n+1) (by omega) (by omega);exact ⟨Int.mul_nonneg (by omega) (by omega),Int.mul_le_mul_of_nonneg_left (by omega) (by omega)⟩
    have a4:(degZ n - moreZ n) * (10 * eachZ n - 8)=10 * (degZ n * eachZ n) - 8 * degZ n - 10 * (moreZ n * eachZ n)+8 * moreZ n:=by
     simp only [Int.sub_mul,Int.mul_sub,Int.mul_left_comm _ (10:Int)];omega
    have a5:moreZ n * (10 * (eachZ n+1) - 8)=10 * (moreZ n * eachZ n)+2 * moreZ n:=by
     have:10 * (eachZ n+1) - 8=10 * eachZ n+2:=by omega
     rw [this,Int.mul_add,Int.mul_left_comm];omega
    rw [cel_some (by omega)];omega
theorem cel_nat (n:Int):0<=celZ n/\celZ n<=163832:=by
 by_cases c:n < 0∨16384 < n
 ·rw [cel_none c];omega
 ·by_cases c2:n < 2
  ·rw [cel_few (by omega) c2];omega
  ·have:=cel_bound (n:=n) (by omega);omega
def csZ (n i:Int):Int:=if i<=moreZ n then i * celZ (eachZ n+1) else moreZ n * celZ (eachZ n+1)+(i - moreZ n) * celZ (eachZ n)
theorem cs_zero {n:Int} (h:0 < degZ n):csZ n 0=0:=by
 have:=split_eq h
 unfold csZ;rw [if_pos (by omega),Int.zero_mul]
theorem cs_step {n i:Int} (h0:0<=i) (h1:i < degZ n):csZ n (i+1)=csZ n i+celZ (sizeZ n i):=by
 unfold csZ;rcases size_cases h0 h1 with ⟨k,e⟩ | ⟨k,e⟩
 ·rw [if_pos (by omega),if_pos (by omega),e,Int.add_mul,Int.one_mul]
 ·rw [if_neg (by omega),e]
  by_cases g:i<=moreZ n
  ·have:i=moreZ n:=by omega
   have e2:i+1 - moreZ n=1:=by omega
   rw [if_pos g,e2,Int.one_mul,this]
  ·have e2:i+1 - moreZ n=(i - moreZ n)+1:=by omega
   rw [if_neg g,e2,Int.add_mul,Int.one_mul];omega
theorem cs_end {n:Int} (h:0 < degZ n):celZ n=4+degZ n * 2+csZ n (degZ n):=by
 have:=split_eq h
 unfold csZ;rw [if_neg (by omega),cel_some h];omega
theorem cs_nat {n i:Int} (h:0 < degZ n) (h0:0<=i) (h1:i<=degZ n):0<=csZ n i/\csZ n i<=41940992:=by
 have k0:=cel_nat (eachZ n);have k1:=cel_nat (eachZ n+1);have d:=deg_nat n;have m:=split_eq h;unfold csZ
 split
 ·have a:0<=i * celZ (eachZ n+1):=Int.mul_nonneg h0 k1.1;have b:i * celZ (eachZ n+1)<=128 * 163832:=Int.mul_le_mul (by omega) k1.2 k1.1 (by omega);omega
 ·have a:0<=moreZ n * celZ (eachZ n+1):=Int.mul_nonneg (by omega) k1.1;have b:moreZ n * celZ (eachZ n+1)<=128 * 163832:=Int.mul_le_mul (by omega) k1.2 k1.1 (by omega);have a':0<=(i - moreZ n) * celZ (eachZ n):=Int.mul_nonneg (by omega) k0.1;have b':(i - moreZ n) * celZ (eachZ n)<=128 * 163832:=Int.mul_le_mul (by omega) k0.2 k0.1 (by omega);omega
end Pt
namespace Pt
open Go
theorem cel_is_0:celZ 0=1:=rfl
end Pt
namespace Pt
open Go.ChangeShapes Go.WideShapes Go.ChangeAt Go.RowKit
theorem lim_r (n:Int) (hn:(Lit.int .i64 n).wf=true) (w:World) :
  Calls Tryz.prog 162 #[.int .i64 n] w fun e w'=>e=.returned (.int .i64 (limZ n))/\w=w':=by
 have hn':=bounds_i64 hn;clear hn
 by_cases c:n < 0
 ·have e:limZ n=0:=by unfold limZ;rw [if_neg (by omega)]
  rw [e];clear e;go_enter Tryz.func162,Tryz.ntmps162;go_wp2;go_ret;exact ⟨rfl,rfl⟩
 ·by_cases c2:16384 < n
  ·have e:limZ n=0:=by unfold limZ;rw [if_neg (by omega)]
   rw [e];clear e;go_enter Tryz.func162,Tryz.ntmps162;go_wp2;go_ret;exact ⟨rfl,rfl⟩
  ·have e:limZ n=n / 4+2:=by unfold limZ;rw [if_pos (by omega)]
   rw [e];clear e;go_enter Tryz.func162,Tryz.ntmps162;go_wp2;go_ret;exact ⟨rfl,rfl⟩
end Pt
section
open Go.Shelf
attribute [local go_sem] Oper.semAt_some
end
section
theorem freeN_take {N:Nat} {t:Tk} {a:Nat}:∀ (n:Nat),a+n<=N->freeB t a n=true->freeN N (takeT t a n)+n<=freeN N t
 | 0,_,_=>by rw [takeT_zero];exact Nat.le_refl _
 | n+1,h,hf=>by
  rw [freeB_succ] at hf;simp only [Bool.and_eq_true] at hf;have ih:=freeN_take (N:=N) (t:=t) (a:=a) n (by omega) hf.1;have h1:freeN N (takeT t a (n+1)) < freeN N (takeT t a n):=by
   refine countP_lt' _ _ ?_ N (a+n) (by omega) ?_ ?_
   ·intro j hj;simp only [takeT,Bool.not_or,Bool.and_eq_true] at hj ⊢;refine ⟨hj.1,?_⟩
    have:=hj.2
    simp only [Bool.not_eq_true',decide_eq_false_iff_not] at this ⊢;omega
   ·simp [takeT]
   ·have:=hf.2
    rw [takeT_at];exact this
  omega
theorem take_count {N:Nat} {t u:Tk} {a n:Nat} (h:takeO N t a n=some u):freeN N u+n<=freeN N t:=by
 unfold takeO at h
 split at h
 ·rename_i c;simp only [Bool.and_eq_true,decide_eq_true_eq] at c;simp only [Option.some.injEq] at h;subst h;exact freeN_take n c.1.2 c.2
 ·cases h
theorem spotsF_more {s:Mst}:∀ {f g:Nat} {x:Int},Wf s f x->f<=g->spotsF s g x=spotsF s f x
 | 0,_,_,h,_=>h.elim
 | f+1,0,_,_,h=>absurd h (by omega)
 | f+1,g+1,x,h,hg=>by
  rw [spotsF_succ,spotsF_succ];unfold oneF
  have:∀ (L:List (Int × Int)),(∀ p ∈ L,Wf s f (s.logicZ p.2))->L.flatMap (fun p=>(p.2,s.logicZ p.2) :: spotsF s g (s.logicZ p.2))=L.flatMap (fun p=>(p.2,s.logicZ p.2) :: spotsF s f (s.logicZ p.2)):=by
   intro L
   induction L with
   | nil=>intro _;rfl
   | cons p L ih=>
    intro hL;rw [List.flatMap_cons,List.flatMap_cons,ih (fun q hq=>hL q (List.mem_cons_of_mem _ hq)),spotsF_more (hL p List.mem_cons_self) (by omega)]
  exact this _ h.2
theorem slotsL_tgt {s:Mst} {x:Int} (h:kd (tgt s x)=3):slotsL s (tgt s x)=slotsL s x:=by
 unfold slotsL degN atN;rw [tgt_tgt h]
theorem Wf.down {s:Mst} (ho:s.ok) {f:Nat} {x:Int} (h:Wf s f x) (h3:kd (tgt s x)=3):Wf s f (tgt s x):=by
 obtain ⟨g,rfl,h1,h2⟩:=h.pos;refine ⟨⟨tgt_i64 ho h1.i64,?_,?_⟩,?_⟩
 ·rw [tgt_tgt h3];exact h1.deg
 ·intro h4;rw [h3] at h4;cases h4
 ·rw [slotsL_tgt h3];exact h2
theorem spotsF_tgt {s:Mst} {f:Nat} {x:Int} (h3:kd (tgt s x)=3):spotsF s f (tgt s x)=spotsF s f x:=by
 cases f with
 | zero=>rfl
 | succ f=>rw [spotsF_succ,spotsF_succ,slotsL_tgt h3]
theorem spotsF_none {s:Mst} {f:Nat} {x:Int} (h3:kd (tgt s x)≠3):spotsF s f x=[]:=by
 cases f with
 | zero=>rfl
 | succ f=>rw [spotsF_succ,slotsL_none h3];rfl
theorem chain_count {s:Mst} {f a d:Nat} {lo hi:Int} (ih:∀ (x lo hi:Int) (t u:Tk),I64 x->sndW s f x lo hi t=some u->(spotsF s f x).length+freeN (s.xs.length+1) u<=freeN (s.xs.length+1) t) (ho:s.ok) :
  ∀ (n:Nat) (t u:Tk),chain (kidG s (sndW s f) a d lo hi) n t=some u->(((List.range n).map (fun i:Nat=>((i:Int),childS a d i))).flatMap (oneF s f)).length+freeN (s.xs.length+1) u<=n+freeN (s.xs.length+1) t
 | 0,t,u,h=>by simp [chain] at h;subst h;simp
 | n+1,t,u,h=>by
  rw [chain,Option.bind_eq_some_iff] at h;obtain ⟨v,h1,h2⟩:=h;have i1:=chain_count ih ho n t v h1;unfold kidG sndSlot at h2
  split at h2
  ·have i2:=ih _ _ _ _ _ (ho.logic _) h2;rw [List.range_succ,List.map_append,List.flatMap_append,List.length_append];simp only [List.map_cons,List.map_nil,List.flatMap_cons,List.flatMap_nil,List.append_nil,oneF,List.length_cons] at i1 ⊢;omega
  ·cases h2
theorem spots_count {s:Mst} (ho:s.ok):∀ (f:Nat) (x lo hi:Int) (t u:Tk),I64 x->sndW s f x lo hi t=some u->(spotsF s f x).length+freeN (s.xs.length+1) u<=freeN (s.xs.length+1) t
 | 0,_,_,_,_,_,_,h=>by cases h
 | f+1,x,lo,hi,t,u,hx,h=>by
  have ih:=spots_count ho f;have hm:=sndW_free s (f+1) x lo hi t u h;have hwf:=wf_of_snd ho (f+1) x lo hi t u hx h;rw [sndW_succ] at h;have plain:kd x≠3->kd x≠4->(spotsF s (f+1) x).length+freeN (s.xs.length+1) u<=freeN (s.xs.length+1) t:=fun h3 h4=>by
   rw [spotsF_none (by rw [tgt,if_neg h4];exact h3)];simpa using hm
  split at h
  ·rename_i k;exact plain (by omega) (by omega)
  ·split at h
   ·rename_i k;exact plain (by omega) (by omega)
   ·split at h
    ·rename_i k3;have e:tgt s x=x:=by rw [tgt,if_neg (by omega)]
     have ha:=ad_range x;have ea:(((ad x).toNat:Nat):Int)=ad x:=by omega
     unfold sndInner at h;rw [ea] at h
     split at h
     ·cases h
     ·rename_i hd;rw [Option.bind_eq_some_iff] at h;obtain ⟨t1,h1,h2⟩:=h
      split at h2
      ·have c1:=take_count h1;have c2:=chain_count ih ho _ _ _ h2;have e3:slotsL s x=(List.range (s.look (ad x)).toNat).map (fun i:Nat=>((i:Int),childS (ad x).toNat (s.look (ad x)).toNat i)):=by
        unfold slotsL degN atN;rw [e,if_pos k3]
       rw [spotsF_succ,e3];omega
      ·cases h2
    ·split at h
     ·rename_i k4
      split at h
      ·rename_i k3;rw [Option.bind_eq_some_iff] at h;obtain ⟨t1,h1,h2⟩:=h;have c1:=take_count h1;have e:tgt s x=s.look (ad x):=by rw [tgt,if_pos k4]
       have hw2:=wf_of_snd ho f _ _ _ _ _ (ho.look _) h2;have c2:=ih _ _ _ _ _ (ho.look _) h2;rw [<- spotsF_tgt (by rw [e];exact k3),e,spotsF_more hw2 (by omega)];omega
      ·cases h
     ·cases h
theorem spotsL_len {s:Mst} (ho:s.ok) (h:soundB s=true):(spotsL s (fuel s)).length<=70000:=by
 unfold soundB at h;simp only [Bool.and_eq_true] at h;have h4:=h.2;cases e:sndSlot s (sndW s (fuel s)) 6 (-9223372036854775808) 9223372036854775807 base0 with
 | none=>rw [e] at h4;cases h4
 | some u=>
  unfold sndSlot at e
  split at e
  ·have:=spots_count ho _ _ _ _ _ _ (ho.logic _) e
   have h1:=freeN_le (s.xs.length+1) base0;have h2:=ho.2;unfold spotsL;rw [List.length_cons];omega
  ·cases e
end
section
def flat:List (Int × Int)->List Value
 | []=>[]
 | p :: xs=>.int .i64 p.1 :: .int .i64 p.2 :: flat xs
theorem flat_append:(xs ys:List (Int × Int))->flat (xs++ys)=flat xs++flat ys
 | [],_=>rfl
 | p :: xs,ys=>by simp [flat,flat_append xs ys]
theorem flat_length:(xs:List (Int × Int))->(flat xs).length=xs.length * 2
 | []=>rfl
 | p :: xs=>by simp [flat,flat_length xs];omega
theorem flat_at:{xs:List (Int × Int)}->{j:Nat}->{p:Int × Int}->xs[j]? = some p->(flat xs)[j * 2]? = some (.int .i64 p.1)/\(flat xs)[j * 2+1]? = some (.int .i64 p.2)
 | x :: xs,0,p,h=>by
  obtain rfl:x=p:=by simpa using h
  exact ⟨rfl,rfl⟩
 | x :: xs,j+1,p,h=>by
  have:=flat_at (xs:=xs) (j:=j) (p:=p) (by simpa using h)
  rw [show (j+1) * 2=j * 2+1+1 by omega];simpa [flat] using this
theorem flat_of:{xs:List (Int × Int)}->{j:Nat}->{u:Value}->(flat xs)[j]? = some u->∃ i p,xs[i]? = some p/\((j=i * 2/\u=.int .i64 p.1)∨(j=i * 2+1/\u=.int .i64 p.2))
 | x :: _,0,u,h=>⟨0,x,rfl,.inl ⟨rfl,by simpa [flat] using h.symm⟩⟩
 | x :: _,1,u,h=>⟨0,x,rfl,.inr ⟨rfl,by simpa [flat] using h.symm⟩⟩
 | x :: xs,j+2,u,h=>by
  obtain ⟨i,p,h1,h2⟩:=flat_of (xs:=xs) (j:=j) (u:=u) (by simpa [flat] using h);refine ⟨i+1,p,by simpa using h1,?_⟩;rcases h2 with ⟨e,h⟩ | ⟨e,h⟩
  ·exact .inl ⟨by omega,h⟩
  ·exact .inr ⟨by omega,h⟩
theorem flat_one:(xs:List (Int × Int))->∀ u ∈ flat xs,u.oneCell'=true
 | []=>by simp [flat]
 | p :: xs=>by
  intro u hu;simp only [flat,List.mem_cons] at hu;rcases hu with rfl | rfl | hu
  ·rfl
  ·rfl
  ·exact flat_one xs u hu
def PReads (w:World) (a:Option Addr) (xs:List (Int × Int)):Prop:=
 xs=[]∨∃ bl off,a=some ⟨bl,off,none⟩/\∀ j p,xs[j]? = some p->w.cell? ⟨bl,off+j * 2,none⟩=some (.int .i64 p.1)/\w.cell? ⟨bl,off+(j * 2+1),none⟩=some (.int .i64 p.2)
theorem PReads.turned {w w':World} {a:Option Addr} {xs:List (Int × Int)} (h:PReads w a xs) {R:Nat->Prop} (ht:Td R w w') (hR:∀ k,k < w.heap.size->(∃ ad,a=some ad/\ad.block=k)->¬ R k):PReads w' a xs:=by
 rcases h with h | ⟨bl,off,rfl,h⟩
 ·exact .inl h
 ·refine .inr ⟨bl,off,rfl,fun j p hp=>?_⟩;have hc:=h j p hp;have hn:=hR bl (World.block_lt_of_cell? _ _ hc.1) ⟨_,rfl,rfl⟩;exact ⟨ht.cell hc.1 hn,ht.cell hc.2 hn⟩
theorem PReads.kept {w w':World} {a:Option Addr} {xs:List (Int × Int)} (h:PReads w a xs) (ht:Kept w w'):PReads w' a xs:=h.turned ht (fun _ _ _ e=>e)
theorem PReads.at {w:World} {a:Option Addr} {xs:List (Int × Int)} (h:PReads w a xs) {j:Nat} {p:Int × Int} (hp:xs[j]? = some p):∃ bl off,a=some ⟨bl,off,none⟩/\bl < w.heap.size/\w.cell? ⟨bl,off+j * 2,none⟩=some (.int .i64 p.1)/\w.cell? ⟨bl,off+(j * 2+1),none⟩=some (.int .i64 p.2):=by
 rcases h with h | ⟨bl,off,ha,hc⟩
 ·rw [h] at hp;simp at hp
 ·exact ⟨bl,off,ha,World.block_lt_of_cell? _ _ (hc j p hp).1,hc j p hp⟩
theorem PReads.news {w:World} {bl off:Nat} {xs:List (Int × Int)} (h:∀ j p,xs[j]? = some p->w.cell? ⟨bl,off+j * 2,none⟩=some (.int .i64 p.1)/\w.cell? ⟨bl,off+(j * 2+1),none⟩=some (.int .i64 p.2)) :
  ∀ (j:Nat) (u:Value),(flat xs)[j]? = some u->w.cell? ((⟨bl,off,none⟩:Addr).add j)=some u:=by
 intro j u hu;obtain ⟨i,p,h1,⟨rfl,rfl⟩ | ⟨rfl,rfl⟩⟩:=flat_of hu
 ·rcases i with _ | i
  ·simpa [Addr.add] using (h 0 p h1).1
  ·exact (h (i+1) p h1).1
 ·exact (h i p h1).2
abbrev PRow (w:World) (n₀:Nat) (E:TypeId) (v:Value) (xs:List (Int × Int)):Prop:=w.ownsRow n₀ E 2 v xs.length (flat xs)
theorem PRow.reads {w:World} {n₀:Nat} {E:TypeId} {v:Value} {xs:List (Int × Int)} (h:PRow w n₀ E v xs):∃ a cap,v=.slice a xs.length cap/\PReads w a xs/\xs.length<=cap/\cap<=maxLen/\(a=none->cap=0)/\∀ ad,a=some ad->n₀<=ad.block:=by
 rcases h.2 with ⟨rfl,h0⟩ | ⟨g,cap,cur,rfl,hg,_,hc,hm,_⟩
 ·obtain rfl:=List.length_eq_zero_iff.1 h0;exact ⟨none,0,rfl,.inl rfl,Nat.le_refl _,Nat.zero_le _,fun _=>rfl,fun _ e=>by cases e⟩
 ·refine ⟨_,cap,rfl,.inr ⟨g,0,rfl,fun j p hp=>?_⟩,hc,hm,fun e=>(by cases e),fun ad e=>by cases e;exact hg⟩;have hj:=(List.getElem?_eq_some_iff.1 hp).1;rw [Nat.zero_add,Nat.zero_add,h.cellAt (j * 2) (by omega),h.cellAt (j * 2+1) (by omega)];exact flat_at hp
theorem PRow.turned {w w':World} {n₀:Nat} {E:TypeId} {v:Value} {xs:List (Int × Int)} (h:PRow w n₀ E v xs) {R:Nat->Prop} (ht:Td R w w') (hn:∀ g,v.ownBlock=some g->¬ R g):PRow w' n₀ E v xs:=by
 obtain ⟨h1,h2⟩:=h;refine ⟨h1,?_⟩;rcases h2 with h2 | ⟨g,cap,cur,rfl,hg,hh,r⟩
 ·exact .inl h2
 ·exact .inr ⟨g,cap,cur,rfl,hg,ht.heap hh (hn g rfl),r⟩
theorem PRow.kept {w w':World} {n₀:Nat} {E:TypeId} {v:Value} {xs:List (Int × Int)} (h:PRow w n₀ E v xs) (ht:Kept w w'):PRow w' n₀ E v xs:=h.turned ht (fun _ _ e=>e)
theorem PRow.low {w:World} {n₀ m:Nat} {E:TypeId} {v:Value} {xs:List (Int × Int)} (h:PRow w n₀ E v xs) (hm:m<=n₀):PRow w m E v xs:=by
 obtain ⟨h1,h2⟩:=h;refine ⟨h1,?_⟩;rcases h2 with h2 | ⟨g,cap,cur,rfl,hg,r⟩
 ·exact .inl h2
 ·exact .inr ⟨g,cap,cur,rfl,Nat.le_trans hm hg,r⟩
theorem PRow.nil (w:World) (n₀:Nat) (E:TypeId):PRow w n₀ E (.slice none 0 0) []:=⟨rfl,.inl ⟨rfl,rfl⟩⟩
structure PT (S E:TypeId):Prop where
 under:Tryz.prog.underlying S=some (.slice E)
 info:(Tryz.prog.info? E).map (fun i=>(i.zero,i.size,i.bytes))=some (some (.agg #[.int .i64 0,.int .i64 0]),2,16)
theorem ptS:PT 45 182:=⟨Tryz.underlying45,by kernel_rfl⟩
theorem ptP:PT 44 59:=⟨Tryz.underlying44,by kernel_rfl⟩
theorem two_cells {w:World} {m:Nat} {x y:Int} {E:TypeId} (h:w.heap[m]? = some (.cells #[.int .i64 x,.int .i64 y] E)):∀ (j:Nat) (u:Value),(flat [(x,y)])[j]? = some u->w.cell? ((⟨m,0,none⟩:Addr).add j)=some u:=by
 refine PReads.news (fun j p hp=>?_);rcases j with _ | j
 ·simp at hp;subst hp;simp [World.cell?,h]
 ·simp at hp
section
variable {S E:TypeId} {w:World} {ops:Array Oper} {rest:List Oper} {o:Oper} {a:Act} {Q:Exit->Act->World->Prop}
theorem wpList_append_pair (pt:PT S E) (hgd:o.guard=none) (s x:Operand) (ho:o.op=.call { callee:=.builtin .append,args:=#[s,x],argTypes:=#[S,S] })
  (base:Nat) (v:Value) (xs ys:List (Int × Int)) (hs:a.eval s=v) (hown:PRow w base E v xs) (m:Nat) (p q:Int) (hx:a.eval x=.slice (some ⟨m,0,none⟩) 1 1) (hc:w.heap[m]? = some (.cells #[.int .i64 p,.int .i64 q] E))
  (hl:xs.length<=1000000) (hbase:base<=w.heap.size) (hy:ys=xs++[(p,q)])
  (h:∀ v' w',PRow w' base E v' ys->w.grownBy w' v.ownBlock->(v'.ownBlock=v.ownBlock∨v'.ownBlock=some w.heap.size)->wpList Tryz.prog ops Q rest (a.put o.dst v') w'):wpList Tryz.prog ops Q (o :: rest) a w:=by
 obtain ⟨i0,hi,hz0,hz1,hz2⟩:=info_parts pt.info;refine wpList_append_own_at w hgd s x S ho base E i0 _ 2 16 pt.under hi hz0 hz1 hz2 rfl (by decide) v xs.length (flat xs) hs hown ⟨m,0,none⟩ 1 1 (flat [(p,q)]) hx rfl (two_cells hc) (flat_one _) (by unfold maxLen;omega) (by omega) hbase ?_;intro v' w' h1 h2 _ h4;refine h v' w' ?_ h2 h4;rw [hy];show World.ownsRow _ _ _ _ _ (xs++[(p,q)]).length (flat (xs++[(p,q)]));rw [List.length_append,flat_append];exact h1
theorem wpList_append_pairs (pt:PT S E) (hgd:o.guard=none) (s x:Operand) (ho:o.op=.call { callee:=.builtin .append,args:=#[s,x],argTypes:=#[S,S] })
  (base:Nat) (v:Value) (xs zs ys:List (Int × Int)) (hs:a.eval s=v) (hown:PRow w base E v xs) (aw:Option Addr) (M cw:Nat) (hM:zs.length=M) (hx:a.eval x=.slice aw M cw) (hr:PReads w aw zs) (h0:aw=none->cw=0)
  (hl:xs.length+zs.length<=1000000) (hbase:base<=w.heap.size) (hy:ys=xs++zs)
  (h:∀ v' w',PRow w' base E v' ys->w.grownBy w' v.ownBlock->(v'.ownBlock=v.ownBlock∨v'.ownBlock=some w.heap.size)->wpList Tryz.prog ops Q rest (a.put o.dst v') w'):wpList Tryz.prog ops Q (o :: rest) a w:=by
 obtain ⟨i0,hi,hz0,hz1,hz2⟩:=info_parts pt.info;have fin:∀ v' w',w'.ownsRow base E 2 v' (xs.length+zs.length) (flat xs++flat zs)->PRow w' base E v' ys:=fun v' w' h1=>by
  rw [hy];show World.ownsRow _ _ _ _ _ (xs++zs).length (flat (xs++zs));rw [List.length_append,flat_append];exact h1
 subst hM;cases aw with
 | none=>
  have e0:zs=[]:=by
   rcases hr with e | ⟨_,_,e,_⟩
   ·exact e
   ·cases e
  subst e0;obtain rfl:=h0 rfl;refine wpList_plain hgd fun K hK=>?_;have hrun:=run_append_owned_none (P:=Tryz.prog) (w:=w) base S o.type E i0 2 pt.under hi v xs.length (flat xs) hown;unfold Oper.wp execOp;simp only [ho,resolve,invoke,builtin,Sem.run_bind,Sem.run_pure,Result.andThen_ok,List.map_toArray,List.map_cons,List.map_nil,hs,hx,List.length_nil,hrun];exact hK _ _ (h v w (by rw [hy,List.append_nil];exact hown) (World.grownBy.refl _ _) (.inl rfl))
 | some ad=>
  by_cases e0:zs=[]
  ·subst e0;exact wpList_append_own_at w hgd s x S ho base E i0 _ 2 16 pt.under hi hz0 hz1 hz2 rfl (by decide) v xs.length (flat xs) hs hown ad 0 cw [] hx rfl (by simp) (by simp) (by simp at hl;unfold maxLen;omega) (by simp at hl;omega) hbase (fun v' w' h1 h2 _ h4=>h v' w' (fin v' w' (by simpa [flat] using h1)) h2 h4)
  ·obtain ⟨bl,off,e,hrow⟩:∃ bl off,some ad=some ⟨bl,off,none⟩/\∀ j p,zs[j]? = some p->w.cell? ⟨bl,off+j * 2,none⟩=some (.int .i64 p.1)/\w.cell? ⟨bl,off+(j * 2+1),none⟩=some (.int .i64 p.2):=by
    rcases hr with e | h
    ·exact (e0 e).elim
    ·exact h
   obtain rfl:ad=⟨bl,off,none⟩:=Option.some.inj e;exact wpList_append_own_at w hgd s x S ho base E i0 _ 2 16 pt.under hi hz0 hz1 hz2 rfl (by decide) v xs.length (flat xs) hs hown ⟨bl,off,none⟩ zs.length cw (flat zs) hx (flat_length _) (PReads.news hrow) (flat_one _) (by unfold maxLen;omega) (by omega) hbase (fun v' w' h1 h2 _ h4=>h v' w' (fin v' w' h1) h2 h4)
end
theorem pkept_append {w0 w w1:World} {E:TypeId} {v:Value} {xs:List (Int × Int)} (k:Kept w0 w) (hr:PRow w w0.heap.size E v xs) (hg:w.grownBy w1 v.ownBlock):Kept w0 w1:=
 k.own (O:=fun j=>v.ownBlock=some j) (fun i e=>(hr.lt i e).1) (Td.of_grownBy (R:=fun j=>v.ownBlock=some j) hg (fun _ h=>h))
structure Pst (S E:TypeId) (w:World) (n₀ b:Nat) (v:Value) (xs:List (Int × Int)):Prop where
 le:n₀<=b
 box:Boxed w b S v
 row:PRow w n₀ E v xs
namespace Pst
variable {S E:TypeId} {w w':World} {n₀ b:Nat} {v:Value} {xs:List (Int × Int)}
end Pst
end
section
open Go.Shelf
attribute [local go_sem] Oper.semAt_some
def PSliced (E:TypeId) (xs:List (Int × Int)) (w:World) (e:Ending) (w':World):Prop:=∃ v,e=.returned v/\PRow w' w.heap.size E v xs/\Kept w w'
end
section
open Go.Shelf
attribute [local go_sem] Oper.semAt_some
def leafL (s:Mst) (x:Int):List (Int × Int):=if kd x=2 then [(s.look (ad x),s.look (ad x+1))] else []
theorem leafL_len (s:Mst) (x:Int):(leafL s x).length<=1:=by unfold leafL;split <;> simp
def pairsF (s:Mst) (f:Nat) (x:Int):List (Int × Int):=leafL s x++(spotsF s f x).flatMap (fun p=>leafL s p.2)
theorem leaves_len (s:Mst) (L:List (Int × Int)):(L.flatMap (fun p=>leafL s p.2)).length<=L.length:=by
 induction L with
 | nil=>simp
 | cons p L ih=>
  have:=leafL_len s p.2
  rw [List.flatMap_cons,List.length_append,List.length_cons];omega
end
section
open Go.Shelf
variable {X:Nat->Prop} {lo:Nat}
attribute [local go_sem] Oper.semAt_some
structure Gath (X:Nat->Prop) (lo:Nat) (W:World) (r:Nat) (s s':Rn) (W':World):Prop where
 lies:RunAt X W' r s'
 turned:Td (fun k=>k=r∨lo<=k) W W'
 on:Rn.On s s'
 ok:s'.ok
theorem Went.gath {W W':World} {r:Nat} {s s':Rn} (h:Went X W r s s' W'):Gath X lo W r s s' W':=⟨h.at,h.ran.2.mono fun _ _ e=>.inl e,h.on,h.ok⟩
theorem Gath.trans {W W' W'':World} {r:Nat} {s s' s'':Rn} (h:Gath X lo W r s s' W') (h':Gath X lo W' r s' s'' W''):Gath X lo W r s s'' W'':=⟨h'.lies,h.turned.trans h'.turned (fun _ e=>e) (fun _ _ e=>e),h.on.trans h'.on,h'.ok⟩
theorem RunAt.rlo {W:World} {r:Nat} {s:Rn} (h:RunAt X W r s) (hX:∀ k,X k->k < lo):r < lo:=by
 obtain ⟨ta,tc,wa,wc,h⟩:=h;exact hX _ h.own
theorem PRow.ran {W W':World} {r:Nat} {E:TypeId} {v:Value} {xs:List (Int × Int)} (h:PRow W lo E v xs) (t:Td (fun k=>k=r) W W') (hr:r < lo):PRow W' lo E v xs:=by
 refine h.turned t ?_;obtain ⟨a,cap,rfl,_,_,_,_,hb⟩:=h.reads;intro g e hg;cases a with
 | none=>simp [Value.ownBlock] at e
 | some ad=>
  have:=hb ad rfl
  simp [Value.ownBlock] at e;omega
theorem Gath.grown {W W':World} {r:Nat} {s:Rn} {v:Value} {xs:List (Int × Int)} (hX:∀ k,X k->k < lo) (h:RunAt X W r s) (ho:s.ok) (hr:PRow W lo 59 v xs) (tmp:Obj) (hg:(W.alloc tmp).grownBy W' v.ownBlock):Gath X lo W r s s W':=by
 have t0:Td (fun k=>lo<=k) W (W.alloc tmp):=Td.alloc _ _ _;have t1:Td (fun k=>lo<=k) (W.alloc tmp) W':=Td.of_grownBy hg (by
  intro k e;obtain ⟨a,cap,rfl,_,_,_,_,hb⟩:=hr.reads;cases a with
  | none=>simp [Value.ownBlock] at e
  | some ad=>
   have:=hb ad rfl
   simp [Value.ownBlock] at e;omega)
 have t:=t0.trans t1 (fun _ e=>e) (fun _ _ e=>e);exact ⟨h.above t (fun k h1 h2=>by have:=hX k h1;omega),t.mono (fun _ _ e=>.inr e),Rn.On.refl s,ho⟩
end
section
variable {X:Nat->Prop}
theorem Went.turned {W W':World} {r:Nat} {s s':Rn} (h:Went X W r s s' W'):Td (fun k=>k=r) W W':=h.ran.2
theorem Went.behind {W W' W'':World} {r:Nat} {s s':Rn} (k:Kept W W') (h:Went X W' r s s' W''):Went X W r s s' W'':=⟨Ran.behind k h.ran,h.on,h.ok⟩
theorem Rn.dcss_on (s:Rn) (g p old x:Int):Rn.On s (s.dcss g p old x).2:=by
 unfold Rn.dcss;dsimp only;generalize hm:s.make [g,p,old,x,0]=m;have h1:Rn.On s m.2:=Rn.make_on hm
 split
 ·have h2:Rn.On m.2 ({ m.2 with rc:=m.1 }:Rn):=⟨rfl,Nat.le_refl _⟩;generalize hc:({ m.2 with rc:=m.1 }:Rn).cas p old (Rf.ofZ 5 m.1)=c;have h3:=(h1.trans h2).trans (Rn.cas_on hc)
  split
  ·generalize hq:c.2.read g=q;generalize hd:q.2.cas (wrap64 (m.1+4)) 0 (if q.1=0 then 1 else 2)=d;generalize ho:d.2.read (wrap64 (m.1+4))=o;have h4:=h3.trans (((Rn.read_on hq).trans (Rn.cas_on hd)).trans (Rn.read_on ho))
   split
   ·exact h4.trans (Rn.ask_on _ _)
   ·exact h4.trans (Rn.ask_on _ _)
  ·exact h3
 ·exact h1
theorem emptyw_r (w:World):Calls Tryz.prog 39 #[] w (Fresh [0] w):=by
 go_enter Tryz.func39,Tryz.ntmps39;go_wp2;go_ret;exact ⟨_,rfl,row_new w 2 [0] _ (Nat.le_refl _) (by simp),Td.alloc _ _ _⟩
theorem leafw_r (w:World) (k v:Int):Calls Tryz.prog 154 #[.int .i64 k,.int .i64 v] w (Fresh [k,v] w):=by
 go_enter Tryz.func154,Tryz.ntmps154;go_wp2;go_ret;exact ⟨_,rfl,row_new w 2 [k,v] _ (Nat.le_refl _) (by simp),Td.alloc _ _ _⟩
end
section
def cp (s:Mst):Mst:=(Mst.new s.size).make s.xs
theorem cp_xs {s:Mst} (h:(s.xs.length:Int)<=s.size):(cp s).xs=s.xs:=by
 unfold cp Mst.make
 split
 ·show []++s.xs=s.xs;simp
 ·rename_i hf
  have:s.xs=[]:=by
   apply Classical.byContradiction;intro h0;apply hf
   have:=List.length_pos_iff.2 h0
   simp [Mst.fits,Mst.new];omega
  rw [this];rfl
theorem cp_size (s:Mst):(cp s).size=s.size:=by unfold cp Mst.make;split <;> rfl
theorem copy_c (W:World) (n₀ b:Nat) (v:Value) (s:Mst) (h:DMem W n₀ b v s) (h1:1<=s.size) :
  Calls Tryz.prog 48 #[.pointer (some ⟨b,0,none⟩)] W fun e W'=>∃ bm,e=.returned (.pointer (some ⟨bm,0,none⟩))/\Now W W' bm (cp s):=by
 obtain ⟨la,lc,rfl,hr,hlc,hlm⟩:=h.form;have c0:=(DMem.opened h).1.2.1;have hb:b < W.heap.size:=(h.lt b (.inl rfl)).2;have hl:=h.len;have h2:=h.top;have H:=gh h;have HR:=gh hr;obtain ⟨N,hN⟩:∃ N,s.xs.length=N:=⟨_,rfl⟩;have HN:=gh hN;obtain ⟨z,hz⟩:∃ z,s.size=z:=⟨_,rfl⟩;have HZ:=gh hz;rw [hz] at c0 h1 h2;clear h hr hlc hlm hz hN;go_enter Tryz.func48,Tryz.ntmps48;go_wp2_with (fail);refine (now_new W W z (Kept.refl W) h1 h2).mono ?_;rintro e W1 ⟨rfl,N1,k1⟩;obtain ⟨bm,hbm⟩:∃ bm,W.heap.size=bm:=⟨_,rfl⟩;rw [hbm] at N1 ⊢;have c1:=(DMem.opened (H.o.kept k1)).1.1;rw [HN.o] at c1;have M1:=gh N1;have HF:Hid (cp s=(Mst.new z).make s.xs):=gh (by unfold cp;rw [HZ.o]);clear N1 k1 hbm c0;go_wp2_with (fail);rw [<- HN.o];refine (now_put W W1 bm (Mst.new z) la s.xs lc _ _ _ M1.o HR.o (by unfold maxLen;omega) rfl rfl rfl).mono ?_;rintro e W2 ⟨rfl,N2⟩;have M2:=gh N2;clear N2 M1 c1;go_wp2;go_ret;exact ⟨bm,rfl,by rw [HF.o];exact M2.o⟩
theorem like_c (w W:World) (bm:Nat) (s:Mst) (hm:Now w W bm s) (n₀ bx:Nat) (vx:Value) (sx:Mst) (hx:DMem W n₀ bx vx sx) (e1:sx.xs=s.xs) (e2:sx.size=s.size) :
  Calls Tryz.prog 58 #[.pointer (some ⟨bm,0,none⟩),.pointer (some ⟨bx,0,none⟩)] W fun e W'=>e=.returned (.bool true)/\Kept W W':=by
 obtain ⟨ax,cx,rfl,hrx,hcx,hmx⟩:=hx.form;rw [e1] at hrx hcx;have bC:∀ y:Wd (Kept W),y.w.cell? ⟨bx,1,none⟩=some (.slice ax s.xs.length cx):=fun y=>by rw [<- e1];exact (DMem.opened (hx.kept y.ok)).1.1
 have bS:∀ y:Wd (Kept W),y.w.cell? ⟨bx,0,none⟩=some (.int .i64 s.size):=fun y=>by rw [<- e2];exact (DMem.opened (hx.kept y.ok)).1.2.1
 have HX:=gh hrx;have HCX:=gh hcx;have hl:=hx.len;rw [e1] at hl;have KD:=gh (Kept.drew W);have HP:=gh hm;clear hx hrx hcx hmx hm e1 e2;go_enter Tryz.func58,Tryz.ntmps58;go_wp2_with (fail);refine region_wide [0,2,3,4,5,1,6,7,8,10,11,12,13,14,9,15,16,17,18,20,21,22,23,19,24,25,26] (Kept W) (by kernel_rfl) (by kernel_rfl) KD.o (fun _=>?_)
 repeat (refine pq rfl rfl ?_;go_big_quiet_step (fail);refine wpQuiet_nil ?_)
 refine pl rfl rfl ?_;gi_wp2_with (fail);refine ⟨trivial,?_⟩;refine (callsIn_wide.2 (now_cells w _ bm s (HP.o.on KD.o))).mono ?_;rintro e W1 ⟨a1,cap1,rfl,hr1,hc1,hm1,-,-,hk⟩;have K1:=gh (KD.o.trans hk);have HR1:=gh hr1;have HC1:=gh hc1;have HM1:=gh hm1;clear hr1 hc1 hm1 hk;gi_wp2_with (fail);refine ⟨Wd.mem K1.o,?_⟩;refine pl rfl rfl ?_;gi_wp2_with (fail);refine ⟨trivial,?_⟩;refine (callsIn_wide.2 (words_k W1 a1 ax s.xs cap1 cx HR1.o (HX.o.kept K1.o) HC1.o HCX.o HM1.o)).mono ?_;rintro e W2 ⟨rfl,hk⟩;have K2:=gh (K1.o.trans hk);clear hk;gi_wp2_with (fail);refine ⟨Wd.mem K2.o,?_⟩
 repeat (refine pq rfl rfl ?_;go_big_quiet_step (fail);refine wpQuiet_nil ?_)
 refine pl rfl rfl ?_;gi_wp2_with (fail);refine ⟨trivial,?_⟩;refine (callsIn_wide.2 (now_used w W2 bm s (s.xs.length:Int) (HP.o.on K2.o) rfl)).mono ?_;rintro e w' ⟨rfl,rfl⟩;gi_wp2_with (fail);refine ⟨Wd.mem K2.o,?_⟩
 repeat (refine pq rfl rfl ?_;go_big_quiet_step (fail);refine wpQuiet_nil ?_)
 refine pl rfl rfl ?_;gi_wp2_with (fail);refine ⟨trivial,?_⟩;refine (callsIn_wide.2 (now_size w W2 bm s s.size (HP.o.on K2.o) rfl)).mono ?_;rintro e w' ⟨rfl,rfl⟩;gi_wp2_with (fail);refine ⟨Wd.mem K2.o,?_⟩
 repeat (refine pq rfl rfl ?_;go_big_quiet_step (fail);refine wpQuiet_nil ?_)
 refine perm_done ?_;go_wp2;go_ret;exact ⟨rfl,K2.o⟩
end
section
open Go.Shelf
variable {X:Nat->Prop}
attribute [local go_sem] Oper.semAt_some
end
section
theorem inner_r (w:World) (size:Int) (aq:Option Addr) (q:List Int) (cq:Nat) (ac:Option Addr) (c:List Int) (cc:Nat) (hq:Reads w aq q) (hc:Reads w ac c) (hq0:aq=none->cq=0) (hc0:ac=none->cc=0) (hlen:c.length=q.length+1) (hl:c.length<=40000) :
  Calls Tryz.prog 137 #[.int .i64 size,.slice aq q.length cq,.slice ac c.length cc] w (Fresh (innerL size q c) w):=by
 have K1:Kept w (w.alloc (.cells #[.int .i64 (c.length:Int),.int .i64 size,.int .i64 0,.int .i64 0,.int .i64 0] 2)):=Td.alloc _ _ _;have R0:Hid (Row (w.alloc (.cells #[.int .i64 (c.length:Int),.int .i64 size,.int .i64 0,.int .i64 0,.int .i64 0] 2)) w.heap.size 2 (.slice (some ⟨w.heap.size,0,none⟩) 5 5) [(c.length:Int),size,0,0,0]):=gh (row_new w 2 [(c.length:Int),size,0,0,0] _ (Nat.le_refl _) (by simp));have HQ:=gh (hq.kept K1);have HC:=gh hc;have HQ0:=gh hq0;have HC0:=gh hc0;have KK:=gh K1;have n1:((c.length:Int) == (q.length:Int)+1)=true:=by simp only [beq_iff_eq];omega
 have n2:((c.length:Int) != (q.length:Int)+1)=false:=by simp only [bne_eq_false_iff_eq];omega
 have i1:(q.length:Int)<=40000:=by omega
 have HL:=gh (And.intro hlen hl);clear hq hc hq0 hc0 hlen hl K1;go_enter Tryz.func137,Tryz.ntmps137;go_wp2_with (at_builtin;refine Stop.out ?_);refine ⟨?_⟩;refine wpList_append_reads rfl _ _ rfl w.heap.size _ 5 (cellsOf [(c.length:Int),size,0,0,0]) rfl R0.o aq q cq rfl HQ.o HQ0.o (by have:=HL.o;omega) KK.o.size ?_;intro v2 w2 hown hg _;have R2:Hid (Row w2 w.heap.size 2 v2 ([(c.length:Int),size,0,0,0]++q)):=gh (by
  show World.ownsRow _ _ 2 1 _ ([(c.length:Int),size,0,0,0]++q).length (cellsOf ([(c.length:Int),size,0,0,0]++q));rw [List.length_append,cellsOf,List.map_append];exact hown)
 have K2:=gh (kept_append KK.o R0.o hg);clear hown hg R0 HQ HQ0 KK;go_wp2_with (at_builtin;refine Stop.out ?_);refine ⟨?_⟩;refine wpList_append_reads rfl _ _ rfl w.heap.size _ _ (cellsOf ([(c.length:Int),size,0,0,0]++q)) rfl R2.o ac c cc rfl (HC.o.kept K2.o) HC0.o (by have:=HL.o;simp;omega) K2.o.size ?_;intro v3 w3 hown hg _;have R3:Hid (Row w3 w.heap.size 2 v3 (innerL size q c)):=gh (by
  show World.ownsRow _ _ 2 1 _ (innerL size q c).length (cellsOf (innerL size q c));rw [innerL,<- List.append_assoc,List.length_append,cellsOf,List.map_append];exact hown)
 have K3:=gh (kept_append K2.o R2.o hg);clear hown hg R2 HC HC0 K2;go_wp2;go_ret;exact ⟨_,rfl,R3.o,K3.o⟩
theorem rebuildw_r (w:World) (k g p:Int):Calls Tryz.prog 160 #[.int .i64 k,.int .i64 g,.int .i64 p] w (Fresh [k,g,p,0,0] w):=by
 go_enter Tryz.func160,Tryz.ntmps160;go_wp2;go_ret;exact ⟨_,rfl,row_new w 2 [k,g,p,0,0] _ (Nat.le_refl _) (by simp),Td.alloc _ _ _⟩
end
namespace Pt
open Go.ChangeShapes Go.WideShapes Go.ChangeAt Go.RowKit
end Pt
namespace Pt
open Go.ChangeShapes Go.WideShapes Go.ChangeAt Go.RowKit
theorem root_r (n:Int) (hn:(Lit.int .i64 n).wf=true) (w:World) :
  Calls Tryz.prog 171 #[.int .i64 n] w fun e w'=>e=.returned (.int .i64 (rootZ n))/\w=w':=by
 have hn':=bounds_i64 hn
 by_cases c:n < 1
 ·rw [root_none c];go_enter Tryz.func171,Tryz.ntmps171;go_wp2;go_ret;exact ⟨rfl,rfl⟩
 ·obtain ⟨z,ez⟩:∃ z,rootZ n=z:=⟨_,rfl⟩;have HE:=gh ez;rw [ez];clear ez hn;go_enter Tryz.func171,Tryz.ntmps171;go_wp2
  go_loop [3,4,5] (fun r b _=>∃ (x:Int) (k:Nat),k<=32/\0<=x/\x<=3037000499/\Hid (x * x<=n/\n < (x+((2 ^ k:Nat):Int)) * (x+((2 ^ k:Nat):Int)))/\r=.int .i64 x/\b=.int .i64 ((k:Int) - 1)) (fun _ b _=>(intOf b+1).toNat)
  case atStart=>exact ⟨0,32,by omega,by omega,by omega,gh ⟨by omega,by omega⟩,rfl,rfl⟩
  case round=>
   obtain ⟨x,k,k1,x0,x1,H,rfl,rfl⟩:=hrel;cases k with
   | zero=>
    have e:x=z:=by rw [<- HE.o];exact (root_unique x0 H.o.1 H.o.2).symm
    subst e;clear H HE;go_wp2;go_ret;exact ⟨rfl,rfl⟩
   | succ k=>
    have ep:=pow_wrap (k:=k) (by omega);have e2:((2 ^ (k+1):Nat):Int)=2 * ((2 ^ k:Nat):Int):=by rw [Nat.pow_succ];omega
    have d1:1<=2 ^ k:=Nat.one_le_two_pow;have d2:2 ^ k<=2 ^ 31:=Nat.pow_le_pow_right (by omega) (by omega);obtain ⟨h1,h2⟩:=H.o;rw [e2] at h2;have HK:∀ x:Int,x * x<=n->n < (x+((2 ^ k:Nat):Int)) * (x+((2 ^ k:Nat):Int))->Hid (x * x<=n/\n < (x+((2 ^ k:Nat):Int)) * (x+((2 ^ k:Nat):Int))):=fun _ a b=>gh ⟨a,b⟩;obtain ⟨d,hd⟩:∃ d:Int,((2 ^ k:Nat):Int)=d:=⟨_,rfl⟩;have d1':1<=d:=by omega
    have d2':d<=2147483648:=by omega
    rw [hd] at h2 ep HK;have HD:=gh hd;clear H HE hd d1 d2 e2;have q:=le_quo (n:=n) (t:=x+d) (by omega)
    by_cases g:(x+d) * (x+d)<=n
    ·have g':=q.mpr g;have x1':x+d<=3037000499:=by
      have:=lt_of_self (a:=x+d) (b:=3037000500) (by omega) (by omega)
      omega
     have H2:=HK (x+d) g (by have e:x+d+d=x+2 * d:=(by omega);rw [e];exact h2);clear q g h1 h2 HK;go_wp2
     go_round
     case rel=>exact ⟨x+d,k,by omega,by omega,by omega,(by rw [<- HD.o] at H2 ⊢;exact H2),rfl,rfl⟩
     case measure=>simp [intOf]
    ·have g':¬ x+d<=n / (x+d):=fun h=>g (q.mp h);have H2:=HK x h1 (by omega);clear q g h1 h2 HK;go_wp2
     go_round
     case rel=>exact ⟨x,k,by omega,by omega,by omega,(by rw [<- HD.o] at H2;exact H2),rfl,rfl⟩
     case measure=>simp [intOf]
theorem deg_r (n:Int) (hn:(Lit.int .i64 n).wf=true) (w:World) :
  Calls Tryz.prog 155 #[.int .i64 n] w fun e w'=>e=.returned (.int .i64 (degZ n))/\w=w':=by
 have hn':=bounds_i64 hn
 by_cases c:n < 2
 ·rw [deg_none (by omega)];clear hn;go_enter Tryz.func155,Tryz.ntmps155;go_wp2;go_ret;exact ⟨rfl,rfl⟩
 ·by_cases c2:16384 < n
  ·rw [deg_none (by omega)];clear hn;go_enter Tryz.func155,Tryz.ntmps155;go_wp2;go_ret;exact ⟨rfl,rfl⟩
  ·have hr:=root_r n hn;have b:=root_bound (n:=n) (by omega) (by omega);rw [deg_some (by omega) (by omega)];obtain ⟨r,er⟩:∃ r,rootZ n=r:=⟨_,rfl⟩;rw [er] at hr b ⊢;clear hn er;go_enter Tryz.func155,Tryz.ntmps155;go_wp2_with (go_at_call 171;refine (hr _).mono ?_;rintro e w' ⟨rfl,rfl⟩);go_ret;exact ⟨rfl,rfl⟩
theorem size_r (n i:Int) (hn:(Lit.int .i64 n).wf=true) (w:World) :
  Calls Tryz.prog 157 #[.int .i64 n,.int .i64 i] w fun e w'=>e=.returned (.int .i64 (sizeZ n i))/\w=w':=by
 have hd:=deg_r n hn;have d:=deg_nat n
 by_cases c:i < 0
 ·rw [size_none (by omega)];generalize degZ n=z at *;clear hn;go_enter Tryz.func157,Tryz.ntmps157;go_wp2_with (go_at_call 155;refine (hd _).mono ?_;rintro e w' ⟨rfl,rfl⟩);go_ret;exact ⟨rfl,rfl⟩
 ·by_cases c0:degZ n<=i
  ·rw [size_none (by omega)];generalize degZ n=z at *;clear hn;go_enter Tryz.func157,Tryz.ntmps157;go_wp2_with (go_at_call 155;refine (hd _).mono ?_;rintro e w' ⟨rfl,rfl⟩);go_ret;exact ⟨rfl,rfl⟩
  ·have p:=deg_pos (n:=n) (by omega);have eb:=each_bound (n:=n) (by omega);have sp:=split_eq (n:=n) (by omega);have e1:n / degZ n=eachZ n:=rfl;have e2:n % degZ n=moreZ n:=rfl
   by_cases c2:i < moreZ n
   ·rw [size_more (by omega) (by omega) c2];generalize eachZ n=q at *;generalize moreZ n=m at *;generalize degZ n=z at *;clear sp hn;go_enter Tryz.func157,Tryz.ntmps157;go_wp2_with (go_at_call 155;refine (hd _).mono ?_;rintro e w' ⟨rfl,rfl⟩);go_ret;exact ⟨rfl,rfl⟩
   ·rw [size_each (by omega) (by omega) (by omega)];generalize eachZ n=q at *;generalize moreZ n=m at *;generalize degZ n=z at *;clear sp hn;go_enter Tryz.func157,Tryz.ntmps157;go_wp2_with (go_at_call 155;refine (hd _).mono ?_;rintro e w' ⟨rfl,rfl⟩);go_ret;exact ⟨ret_int e1,rfl⟩
theorem from_r (n i:Int) (hn:(Lit.int .i64 n).wf=true) (w:World) :
  Calls Tryz.prog 156 #[.int .i64 n,.int .i64 i] w fun e w'=>e=.returned (.int .i64 (fromZ n i))/\w=w':=by
 have hd:=deg_r n hn;have d:=deg_nat n
 by_cases c:i < 0
 ·rw [from_none (by omega)];clear hn hd d;go_enter Tryz.func156,Tryz.ntmps156;go_wp2;go_ret;exact ⟨rfl,rfl⟩
 ·by_cases c0:degZ n<=i
  ·rw [from_none (by omega)];generalize degZ n=z at *;clear hn;go_enter Tryz.func156,Tryz.ntmps156;go_wp2_with (go_at_call 155;refine (hd _).mono ?_;rintro e w' ⟨rfl,rfl⟩);go_ret;exact ⟨rfl,rfl⟩
  ·rw [from_some (by omega) (by omega)];obtain ⟨z,ez⟩:∃ z,degZ n=z:=⟨_,rfl⟩;have HZ:=gh ez;rw [ez] at hd d c0;obtain ⟨r,er⟩:∃ r,aheadZ n i=r:=⟨_,rfl⟩;have HR:=gh er;rw [er];have hn2:=gh hn;clear hn ez er;go_enter Tryz.func156,Tryz.ntmps156;go_wp2_with (go_at_call 155;refine (hd _).mono ?_;rintro e w' ⟨rfl,rfl⟩)
   go_loop [5,6] (fun a k=>∃ x y:Int,Hid (aheadZ n y=x)/\0<=y/\y<=i/\a=.int .i64 x/\k=.int .i64 y) (fun _ k=>(i - intOf k).toNat)
   case atStart=>exact ⟨0,0,gh (ahead_zero (by have:=HZ.o;omega)),by omega,by omega,rfl,rfl⟩
   case round=>
    obtain ⟨x,y,H,y0,y1,rfl,rfl⟩:=hrel
    by_cases f:y < i
    ·have hs:=size_r n y hn2.o;have b1:=ahead_bound (n:=n) (i:=y) (by omega) (by have:=HZ.o;omega) (by have:=HZ.o;omega);have b2:=ahead_bound (n:=n) (i:=y+1) (by omega) (by have:=HZ.o;omega) (by have:=HZ.o;omega);have st:=ahead_step (n:=n) (i:=y) (by omega) (by have:=HZ.o;omega);rw [H.o] at b1 st;rw [st] at b2;generalize sizeZ n y=s at *;have x0:=b1.2.2;have x1:=b2.2.2;have H2:=gh st;clear b1 b2 st H HR HZ hd;go_wp2_with (go_at_call 157;refine (hs _).mono ?_;rintro e w' ⟨rfl,rfl⟩)
     go_round
     case rel=>exact ⟨x+s,y+1,H2,by omega,by omega,rfl,rfl⟩
     case measure=>simp [intOf];omega
    ·obtain rfl:y=i:=by omega
     have e:x=r:=by rw [<- H.o,HR.o]
     subst e;clear H HR HZ hd;go_wp2;go_ret;exact ⟨rfl,rfl⟩
end Pt
section
def partL (ps:List (Int × Int)) (i:Int):List (Int × Int):=(ps.drop (Pt.fromZ ps.length i).toNat).take (Pt.sizeZ ps.length i).toNat
theorem part_in {n i:Int} (h0:0<=i) (h1:i < Pt.degZ n):0<=Pt.fromZ n i/\1<=Pt.sizeZ n i/\Pt.fromZ n i+Pt.sizeZ n i<=n:=by
 have hp:0 < Pt.degZ n:=by omega
 rw [Pt.from_some h0 h1,<- Pt.ahead_step h0 h1];have hb:=Pt.ahead_bound h0 (by omega) hp;have hs:=Pt.size_bound h0 h1;refine ⟨hb.2.2.1,hs.1,?_⟩;have mono:∀ k:Nat,i+1+k<=Pt.degZ n->Pt.aheadZ n (i+1)<=Pt.aheadZ n (i+1+k):=by
  intro k
  induction k with
  | zero=>intro _;simp
  | succ k ih=>
   intro hk;have h2:=ih (by omega);have h3:=Pt.ahead_step (n:=n) (i:=i+1+k) (by omega) (by omega);have h4:=Pt.size_bound (n:=n) (i:=i+1+k) (by omega) (by omega);rw [show i+1+((k+1:Nat):Int)=i+1+k+1 by omega,h3];omega
 have:=mono (Pt.degZ n - (i+1)).toNat (by omega)
 rw [show i+1+(((Pt.degZ n - (i+1)).toNat:Nat):Int)=Pt.degZ n by omega,Pt.ahead_end hp] at this;exact this
theorem PReads.sub {w:World} {bl off:Nat} {ps:List (Int × Int)} (h:PReads w (some ⟨bl,off,none⟩) ps) (i m:Nat):PReads w (some ⟨bl,off+i * 2,none⟩) ((ps.drop i).take m):=by
 rcases h with h | ⟨bl',off',e,h⟩
 ·subst h;exact .inl (by simp)
 ·cases e;refine .inr ⟨bl,off+i * 2,rfl,fun j p hp=>?_⟩;have hp':ps[i+j]? = some p:=by
   rw [List.getElem?_take] at hp
   split at hp
   ·rwa [List.getElem?_drop] at hp
   ·cases hp
  have:=h (i+j) p hp'
  rw [show off+(i+j) * 2=off+i * 2+j * 2 by omega,show off+((i+j) * 2+1)=off+i * 2+(j * 2+1) by omega] at this;exact this
end
section
set_option maxRecDepth 20000
def lowL (ps:List (Int × Int)):Nat->List Int
 | 0=>[]
 | i+1=>if i=0 then [] else lowL ps i++[((partL ps (i:Int)).headD (0,0)).1]
theorem lowL_len (ps:List (Int × Int)):∀ n,(lowL ps n).length=n - 1
 | 0=>rfl
 | n+1=>by
  rw [lowL]
  split
  ·rename_i h;subst h;rfl
  ·rw [List.length_append,lowL_len ps n,List.length_singleton];omega
theorem partL_len {ps:List (Int × Int)} {i:Int} (h0:0<=i) (h1:i < Pt.degZ ps.length):((partL ps i).length:Int)=Pt.sizeZ ps.length i:=by
 have h:=part_in h0 h1;unfold partL;rw [List.length_take,List.length_drop];omega
theorem preads_head {w:World} {bl off:Nat} {ps:List (Int × Int)} (h:PReads w (some ⟨bl,off,none⟩) ps) (h0:0 < ps.length):w.cell? ⟨bl,off,none⟩=some (.int .i64 (ps.headD (0,0)).1)/\w.cell? ⟨bl,off+1,none⟩=some (.int .i64 (ps.headD (0,0)).2):=by
 cases ps with
 | nil=>simp at h0
 | cons p ps=>
  obtain ⟨bl',off',e,_,h1,h2⟩:=h.at (j:=0) (p:=p) rfl;cases e;exact ⟨by simpa using h1,by simpa using h2⟩
theorem Row.form {w:World} {n₀:Nat} {v:Value} {zs:List Int} (h:Row w n₀ 2 v zs):∃ a cap,v=.slice a zs.length cap/\Reads w a zs/\(a=none->cap=0):=by
 have hr:=h;rcases hr.2 with ⟨rfl,h0⟩ | ⟨g,cap,cur,rfl,hg,_,hc,hm,_⟩
 ·obtain rfl:=List.length_eq_zero_iff.1 h0;exact ⟨none,0,rfl,.inl rfl,fun _=>rfl⟩
 ·obtain ⟨a,cap',e1,h1,_⟩:=h.reads;cases e1;exact ⟨_,_,rfl,h1,fun e=>by cases e⟩
namespace Rn
def recM (s:Rn) (k:Int) (ws:List Int):(Int × Bool) × Rn:=((Rf.ofZ k (s.make ws).1,decide (0 < (s.make ws).1)),(s.make ws).2)
def growK (L:Rn->List (Int × Int)->(Int × Bool) × Rn) (ps:List (Int × Int)) (s:Rn):Nat->(Bool × List Int) × Rn
 | 0=>((true,[]),s)
 | i+1=>if (growK L ps s i).1.1=false then growK L ps s i
  else ((((L (growK L ps s i).2 (partL ps (i:Int))).1.2),(growK L ps s i).1.2++[(L (growK L ps s i).2 (partL ps (i:Int))).1.1]),(L (growK L ps s i).2 (partL ps (i:Int))).2)
def growF:Nat->Rn->List (Int × Int)->(Int × Bool) × Rn
 | 0=>fun s _=>((0,false),s)
 | f+1=>fun s ps=>
  if ps.length=0 then s.recM 1 [0]
  else if ps.length=1 then s.recM 2 [(ps.headD (0,0)).1,(ps.headD (0,0)).2]
  else if (growK (growF f) ps s (Pt.degZ ps.length).toNat).1.1=true then (growK (growF f) ps s (Pt.degZ ps.length).toNat).2.recM 3 (innerL ps.length (lowL ps (Pt.degZ ps.length).toNat) (growK (growF f) ps s (Pt.degZ ps.length).toNat).1.2)
  else ((0,false),(growK (growF f) ps s (Pt.degZ ps.length).toNat).2)
theorem growF_succ (f:Nat) (s:Rn) (ps:List (Int × Int)):growF (f+1) s ps=if ps.length=0 then s.recM 1 [0]
  else if ps.length=1 then s.recM 2 [(ps.headD (0,0)).1,(ps.headD (0,0)).2]
  else if (growK (growF f) ps s (Pt.degZ ps.length).toNat).1.1=true then (growK (growF f) ps s (Pt.degZ ps.length).toNat).2.recM 3 (innerL ps.length (lowL ps (Pt.degZ ps.length).toNat) (growK (growF f) ps s (Pt.degZ ps.length).toNat).1.2)
  else ((0,false),(growK (growF f) ps s (Pt.degZ ps.length).toNat).2):=rfl
theorem growK_len (L:Rn->List (Int × Int)->(Int × Bool) × Rn) (ps:List (Int × Int)) (s:Rn):∀ n,(growK L ps s n).1.1=true->(growK L ps s n).1.2.length=n
 | 0,_=>rfl
 | n+1,h=>by
  rw [growK] at h ⊢
  split at h
  ·rename_i h0;rw [h0] at h;cases h
  ·rename_i h0;rw [if_neg h0,List.length_append,growK_len L ps s n (by simpa using h0)];rfl
theorem growK_stop {L:Rn->List (Int × Int)->(Int × Bool) × Rn} {ps:List (Int × Int)} {s:Rn} {n:Nat} (h:(growK L ps s n).1.1=false):∀ {m:Nat},n<=m->growK L ps s m=growK L ps s n
 | 0,hm=>by have:=Nat.le_zero.1 hm;subst this;rfl
 | m+1,hm=>by
  by_cases e:n=m+1
  ·subst e;rfl
  ·rw [growK,growK_stop h (m:=m) (by omega),if_pos h]
end Rn
structure GrowI (X:Nat->Prop) (W₀ W:World) (r:Nat) (s:Rn) (vq vc:Value) (qs cs:List Int):Prop where
 run:RunAt (fun k=>X k/\vq.ownBlock≠some k/\vc.ownBlock≠some k) W r s
 turned:Td (fun k=>k=r) W₀ W
 q:Row W W₀.heap.size 2 vq qs
 c:Row W W₀.heap.size 2 vc cs
 qc:∀ k,vq.ownBlock=some k->vc.ownBlock≠some k
namespace GrowI
variable {X:Nat->Prop} {W₀ W W':World} {r:Nat} {s s':Rn} {vq vc:Value} {qs cs:List Int}
theorem apart {n₀:Nat} {v:Value} {zs:List Int} {R:Nat->Prop} (h:Row W n₀ 2 v zs) (ht:Td R W W') (hn:∀ g,v.ownBlock=some g->¬ R g):Row W' n₀ 2 v zs:=by
 obtain ⟨h1,h2⟩:=h;refine ⟨h1,?_⟩;rcases h2 with h2 | ⟨g,cap,cur,rfl,hg,hh,r⟩
 ·exact .inl h2
 ·exact .inr ⟨g,cap,cur,rfl,hg,ht.heap hh (hn g rfl),r⟩
theorem step (h:GrowI X W₀ W r s vq vc qs cs) (hr:r < W₀.heap.size) (d:Ran (fun k=>X k/\vq.ownBlock≠some k/\vc.ownBlock≠some k) W r s' W'):GrowI X W₀ W' r s' vq vc qs cs:=
 ⟨d.1,h.turned.trans d.2 (fun _ e=>e) (fun _ _ e=>e),apart h.q d.2 (fun g hg e=>by have:=(h.q.lt g hg).1;omega),apart h.c d.2 (fun g hg e=>by have:=(h.c.lt g hg).1;omega),h.qc⟩
theorem kept (h:GrowI X W₀ W r s vq vc qs cs) (k:Kept W W'):GrowI X W₀ W' r s vq vc qs cs:=
 ⟨h.run.kept k,k.behind h.turned,h.q.kept k,h.c.kept k,h.qc⟩
theorem swap (h:GrowI X W₀ W r s vq vc qs cs):GrowI X W₀ W r s vc vq cs qs:=
 ⟨h.run.to (fun _ hk _=>⟨hk.1,hk.2.2,hk.2.1⟩),h.turned,h.c,h.q,fun k hk e=>h.qc k e hk⟩
theorem new (h:GrowI X W₀ W r s vq vc qs cs) (hX:∀ k,W₀.heap.size<=k->X k):∀ k,W.heap.size<=k->X k/\vq.ownBlock≠some k/\vc.ownBlock≠some k:=fun k hk=>
 ⟨hX k (Nat.le_trans h.turned.size hk),fun e=>by have:=(h.q.lt k e).2;omega,fun e=>by have:=(h.c.lt k e).2;omega⟩
theorem grow {w1:World} {vq':Value} {qs':List Int} (h:GrowI X W₀ W r s vq vc qs cs) (hown:Row w1 W₀.heap.size 2 vq' qs') (hg:W.grownBy w1 vq.ownBlock) (hat:vq'.ownBlock=vq.ownBlock∨vq'.ownBlock=some W.heap.size):GrowI X W₀ w1 r s vq' vc qs' cs:=by
 have tg:Td (fun k=>vq.ownBlock=some k) W w1:=Td.of_grownBy hg (fun _ e=>e);have r0:=h.run;refine ⟨?_,?_,hown,apart h.c tg (fun g hg' e=>h.qc g e hg'),?_⟩
 ·refine RunAt.above (R:=fun k=>vq.ownBlock=some k) (RunAt.to (Y:=fun k=>(X k/\vq'.ownBlock≠some k/\vc.ownBlock≠some k)/\vq.ownBlock≠some k) r0 (fun k hk hlt=>⟨⟨hk.1,?_,hk.2.2⟩,hk.2.1⟩)) tg (fun k hk e=>hk.2 e) |>.to (fun k hk _=>hk.1)
  intro e;rcases hat with e' | e'
  ·exact hk.2.1 (by rw [<- e'];exact e)
  ·rw [e'] at e;cases e;omega
 ·exact h.turned.trans tg (fun _ e=>e) (fun i hi e=>by have:=(h.q.lt i e).1;omega)
 ·intro k hk e';rcases hat with e | e
  ·exact h.qc k (by rw [<- e];exact hk) e'
  ·have:=(h.c.lt k e').2
   rw [e] at hk;cases hk;omega
theorem start (h:RunAt X W₀ r s):GrowI X W₀ W₀ r s (.slice none 0 0) (.slice none 0 0) [] []:=
 ⟨h.to (fun k hk _=>⟨hk,by simp [Value.ownBlock],by simp [Value.ownBlock]⟩),Td.refl _ _,World.ownsRow_nil _ _ _ _,World.ownsRow_nil _ _ _ _,fun k hk=>by simp [Value.ownBlock] at hk⟩
theorem fin (h:GrowI X W₀ W r s vq vc qs cs):Ran X W₀ r s W:=⟨h.run.to (fun _ hk _=>hk.1),h.turned⟩
end GrowI
theorem wpList_append_gq {X:Nat->Prop} {W₀ wr:World} {r:Nat} {s0:Rn} {vq vc:Value} {qs cs qs':List Int} {x:Int} {ops:Array Oper} {rest:List Oper} {o:Oper} {a:Act} {Q:Exit->Act->World->Prop} (hgd:o.guard=none) (s y:Operand)
  (ho:o.op=.call { callee:=.builtin .append,args:=#[s,y],argTypes:=#[56,56] }) (hs:a.eval s=vq) (hx:a.eval y=.slice (some ⟨wr.heap.size,0,none⟩) 1 1) (h:GrowI X W₀ wr r s0 vq vc qs cs) (hl:qs.length<=999999) (hq:qs'=qs++[x])
  (hk:∀ v' w',GrowI X W₀ w' r s0 v' vc qs' cs->wpList Tryz.prog ops Q rest (a.put o.dst v') w') :
  wpList Tryz.prog ops Q (o :: rest) a (wr.alloc (.cells #[.int .i64 x] 2)):=by
 have k1:Kept wr (wr.alloc (.cells #[.int .i64 x] 2)):=Td.alloc _ _ _;refine wpList_append_reads hgd s y ho W₀.heap.size vq qs.length (cellsOf qs) hs (h.q.kept k1) _ [x] 1 hx (Reads.new wr 2 [x]) (fun e=>by cases e) (by simp;omega) (Nat.le_trans h.turned.size k1.size) ?_;intro v2 w2 hown hg hat;refine hk v2 w2 ((h.kept k1).grow ?_ hg hat);subst hq;show World.ownsRow _ _ 2 1 _ (qs++[x]).length (cellsOf (qs++[x]));rw [List.length_append,cellsOf,List.map_append];exact hown
theorem wpList_append_gc {X:Nat->Prop} {W₀ wr:World} {r:Nat} {s0:Rn} {vq vc:Value} {qs cs cs':List Int} {x:Int} {ops:Array Oper} {rest:List Oper} {o:Oper} {a:Act} {Q:Exit->Act->World->Prop} (hgd:o.guard=none) (s y:Operand)
  (ho:o.op=.call { callee:=.builtin .append,args:=#[s,y],argTypes:=#[56,56] }) (hs:a.eval s=vc) (hx:a.eval y=.slice (some ⟨wr.heap.size,0,none⟩) 1 1) (h:GrowI X W₀ wr r s0 vq vc qs cs) (hl:cs.length<=999999) (hq:cs'=cs++[x])
  (hk:∀ v' w',GrowI X W₀ w' r s0 vq v' qs cs'->wpList Tryz.prog ops Q rest (a.put o.dst v') w') :
  wpList Tryz.prog ops Q (o :: rest) a (wr.alloc (.cells #[.int .i64 x] 2)):=
 wpList_append_gq hgd s y ho hs hx h.swap hl hq (fun v' w' h'=>hk v' w' h'.swap)
end
section
set_option maxRecDepth 20000
theorem Fresh.far {zs:List Int} {W W1:World} {e:Ending} (h:Fresh zs W e W1):∃ a cap,e=.returned (.slice a zs.length cap)/\Kept W W1/\∀ (Y:Nat->Prop) (r:Nat),(∀ k,W.heap.size<=k->Y k)->r < W.heap.size->Far Y W1 r a zs:=by
 obtain ⟨v,rfl,hrow,hk⟩:=h;obtain ⟨a,cap,rfl,hr,_⟩:=Row.form hrow;have hs:zs.length<=maxLen:=by
  rcases hrow.2 with ⟨_,h0⟩ | ⟨g,cap',cur,_,_,_,hc,hm,_⟩
  ·omega
  ·exact Nat.le_trans hc hm
 refine ⟨a,cap,rfl,hk,fun Y r hY hrl=>⟨hr,fun ad e=>?_,hs⟩⟩;subst e;rcases hrow.2 with ⟨e,_⟩ | ⟨g,cap',cur,e,hg,hh,_⟩
 ·cases e
 ·cases e;exact ⟨⟨hY _ hg,(Array.getElem?_eq_some_iff.1 hh).1⟩,by simp only;omega⟩
theorem GrowI.list {X:Nat->Prop} {W₀ W:World} {r:Nat} {s:Rn} {vq vc:Value} {qs cs:List Int} {bl off:Nat} {ps:List (Int × Int)} (h:GrowI X W₀ W r s vq vc qs cs) (hr:PReads W₀ (some ⟨bl,off,none⟩) ps) (hf:bl≠r) (F S:Nat):PReads W (some ⟨bl,off+F * 2,none⟩) ((ps.drop F).take S):=
 (hr.turned h.turned (fun k _ ⟨ad,e,e'⟩ hk=>by cases e;exact hf (by rw [<- e'] at hk;exact hk))).sub F S
theorem recM_r (X:Nat->Prop) (W:World) (r:Nat) (s:Rn) (k:Int) (a:Option Addr) (ws:List Int) (N cap:Nat) (hN:ws.length=N) (h:RunAt X W r s) (hq:Far X W r a ws) (z:Int) (ok:Bool) (s':Rn) (e1:s.recM k ws=((z,ok),s')) :
  ∃ x,Rf.ofZ k x=z/\decide (0 < x)=ok/\Calls Tryz.prog 148 #[.pointer (some ⟨r,0,none⟩),.slice a N cap] W fun e W'=>e=.returned (.tuple #[.int .i64 x,.bool ok])/\Ran X W r s' W':=by
 unfold Rn.recM at e1;simp only [Prod.mk.injEq] at e1;obtain ⟨⟨e2,e3⟩,e4⟩:=e1;refine ⟨(s.make ws).1,e2,e3,?_⟩
 have:=make_r W r s a N cap ws h hq hN (s.make ws).1 (s.make ws).2 rfl
 rw [e3,e4] at this;exact this
def GrowC (f:Nat):Prop:=∀ (X:Nat->Prop) (W:World) (r:Nat) (s:Rn) (a:Option Addr) (ps:List (Int × Int)) (M cap:Nat) (_:RunAt X W r s) (_:∀ k,W.heap.size<=k->X k) (_:PReads W a ps) (_:ps.length=M) (_:M<=cap) (_:cap<=maxLen) (_:M<=16384) (_:M < f) (_:ps≠[]->∀ ad,a=some ad->ad.block≠r) (z:Int) (ok:Bool) (s':Rn) (_:Rn.growF f s ps=((z,ok),s')),
  Calls Tryz.prog 131 #[.pointer (some ⟨r,0,none⟩),.slice a M cap] W fun e W'=>e=.returned (.tuple #[.int .i64 z,.bool ok])/\Ran X W r s' W'
set_option maxHeartbeats 4000000 in
theorem growInner_r (f:Nat) (ih:GrowC f) (X:Nat->Prop) (W:World) (r:Nat) (s:Rn) (a:Option Addr) (ps:List (Int × Int)) (M cap:Nat) (h:RunAt X W r s) (hX:∀ k,W.heap.size<=k->X k) (hr:PReads W a ps) (hM:ps.length=M) (hc:M<=cap) (hcm:cap<=maxLen) (hm:M<=16384) (hf:M < f+1) (h2:2<=M) (ha:∀ ad,a=some ad->ad.block≠r) (z:Int) (ok':Bool) (s':Rn) (e1:Rn.growF (f+1) s ps=((z,ok'),s')) :
  Calls Tryz.prog 131 #[.pointer (some ⟨r,0,none⟩),.slice a M cap] W fun e W'=>e=.returned (.tuple #[.int .i64 z,.bool ok'])/\Ran X W r s' W':=by
 have db:=Pt.deg_bound (n:=(M:Int)) (by omega) (by omega);obtain ⟨D,hD⟩:∃ D:Nat,Pt.degZ (M:Int)=(D:Int):=⟨(Pt.degZ M).toNat,by omega⟩;rw [hD] at db;obtain ⟨d1,d2,d3⟩:=db;have e2:(if (Rn.growK (Rn.growF f) ps s D).1.1=true then (Rn.growK (Rn.growF f) ps s D).2.recM 3 (innerL (M:Int) (lowL ps D) (Rn.growK (Rn.growF f) ps s D).1.2) else ((0,false),(Rn.growK (Rn.growF f) ps s D).2))=((z,ok'),s'):=by
  rw [Rn.growF_succ,hM,if_neg (by omega),if_neg (by omega),hD] at e1;exact e1
 obtain ⟨bl,off,rfl⟩:∃ bl off,a=some ⟨bl,off,none⟩:=by
  rcases hr with e | ⟨bl,off,e,_⟩
  ·rw [e] at hM;simp at hM;omega
  ·exact ⟨bl,off,e⟩
 have hcm':(cap:Int)<=9223372036854775807:=by unfold maxLen at hcm;omega
 have HRL:=gh h.lt;have HA:=gh (ha _ rfl);have HR:=gh hr;have HM:=gh hM;have HXN:=gh hX;have IH:=gh ih;have HD:=gh hD;have E2:=gh e2;have HCM:=gh hcm;have HF:=gh hf;have S1:Hid (GrowI X W W r s (.slice none 0 0) (.slice none 0 0) [] []):=gh (GrowI.start h);have g0:((M:Int) == 0)=false:=by simp only [beq_eq_false_iff_ne,ne_eq];omega
 have g1:((M:Int) == 1)=false:=by simp only [beq_eq_false_iff_ne,ne_eq];omega
 clear h hr ha hM ih e1 e2 hD hcm hf hX;go_enter Tryz.func131,Tryz.ntmps131;go_wp2
 go_loopw [11,12,13,14,15,16] (fun vq vc i _ _ _ wr=>∃ (t:Nat),t<=D/\i=.int .i64 t/\Hid ((Rn.growK (Rn.growF f) ps s t).1.1=true)/\Hid (GrowI X W wr r (Rn.growK (Rn.growF f) ps s t).2 vq vc (lowL ps t) (Rn.growK (Rn.growF f) ps s t).1.2)) (fun _ _ i _ _ _ _=>D - (intOf i).toNat)
 case atStart=>exact ⟨0,Nat.zero_le _,rfl,gh rfl,S1⟩
 case round=>
  obtain ⟨t,ht,rfl,HT,HI⟩:=hrel;clear S1;have CL:=Rn.growK_len (Rn.growF f) ps s t HT.o;have QL:=lowL_len ps t
  by_cases hlt:t < D
  ·have pin:=part_in (n:=(M:Int)) (i:=(t:Int)) (by omega) (by rw [HD.o];omega);have sb:=Pt.size_bound (n:=(M:Int)) (i:=(t:Int)) (by omega) (by rw [HD.o];omega);obtain ⟨F,hF⟩:∃ F:Nat,Pt.fromZ (M:Int) (t:Int)=(F:Int):=⟨(Pt.fromZ (M:Int) (t:Int)).toNat,by omega⟩;obtain ⟨S,hS⟩:∃ S:Nat,Pt.sizeZ (M:Int) (t:Int)=(S:Int):=⟨(Pt.sizeZ (M:Int) (t:Int)).toNat,by omega⟩;rw [hF,hS] at pin;rw [hS] at sb;have hown:partL ps (t:Int)=(ps.drop F).take S:=by unfold partL;rw [HM.o,hF,hS];rfl
   obtain ⟨own,ho⟩:∃ own,partL ps (t:Int)=own:=⟨_,rfl⟩;have OWL:Hid (own.length=S):=gh (by rw [<- ho,hown,List.length_take,List.length_drop,HM.o];omega);have OWN:Hid (own=(ps.drop F).take S):=gh (by rw [<- ho,hown]);have LS:Hid (0 < t->lowL ps (t+1)=lowL ps t++[(own.headD (0,0)).1]):=gh (fun h=>by rw [lowL,if_neg (by omega),ho]);obtain ⟨cs,hcs⟩:∃ cs,(Rn.growK (Rn.growF f) ps s t).1.2=cs:=⟨_,rfl⟩;obtain ⟨st,hst⟩:∃ st,(Rn.growK (Rn.growF f) ps s t).2=st:=⟨_,rfl⟩;obtain ⟨qs,hqs⟩:∃ qs,lowL ps t=qs:=⟨_,rfl⟩;obtain ⟨zc,ok,sc,hz⟩:∃ zc ok sc,Rn.growF f st own=((zc,ok),sc):=⟨_,_,_,rfl⟩;have KS:Hid (Rn.growK (Rn.growF f) ps s (t+1)=((ok,cs++[zc]),sc)):=gh (by
    rw [Rn.growK,if_neg (by rw [HT.o];decide),ho,hst,hz,hcs])
   rw [hqs] at LS QL;rw [hcs] at CL;rw [hcs,hst,hqs] at HI;have HZ:=gh hz;have HFF:=gh hF;have HSS:=gh hS;have HCL:=gh CL;have HQL:=gh QL;obtain ⟨p1,p2,p3⟩:=pin;have p4:F+S<=M:=by omega
   have p5:1<=S:=by omega
   have p6:S < M:=by omega
   have i1:(t:Int) < (D:Int):=by omega
   have PR:=HI.o.list HR.o HA.o F S;rw [<- OWN.o] at PR;have c0:=(preads_head PR (by have:=OWL.o;omega)).1;obtain ⟨hk,hhk⟩:∃ x,(own.headD (0,0)).1=x:=⟨_,rfl⟩;rw [hhk] at c0 LS;clear hown ho hcs hst hqs hz hF hS sb p1 p2 p3 CL QL PR hhk HT;go_wp2_with (fail);refine (Pt.deg_r (M:Int) (I64.wf ⟨by omega,by omega⟩) _).mono ?_;rw [HD.o];rintro e w' ⟨rfl,rfl⟩;go_wp2_with (fail);refine (Pt.from_r (M:Int) (t:Int) (I64.wf ⟨by omega,by omega⟩) _).mono ?_;rw [HFF.o];rintro e w' ⟨rfl,rfl⟩
   by_cases g2:(0:Int) < (t:Int)
   ·go_wp2_with (at_builtin;refine Stop.out ?_);refine ⟨?_⟩;refine wpList_append_gq rfl _ _ rfl rfl rfl HI.o (by have:=HQL.o;omega) rfl ?_;intro vq' wq iq;have IQ:=gh iq;clear iq HI c0;go_wp2_with (fail);refine (Pt.size_r (M:Int) (t:Int) (I64.wf ⟨by omega,by omega⟩) _).mono ?_;rw [HSS.o];rintro e w' ⟨rfl,rfl⟩;go_wp2_with (fail);have PR1:=(IQ.o.list HR.o HA.o F S);rw [<- OWN.o] at PR1;refine (IH.o _ _ r st _ own S (cap - F) IQ.o.run (IQ.o.new HXN.o) PR1 OWL.o (by omega) (by have:=HCM.o;omega) (by omega) (by have:=HF.o;omega) (fun _ ad e=>by cases e;exact HA.o) zc ok sc HZ.o).mono ?_;rintro e w3 ⟨rfl,d3⟩;have I3:=gh (IQ.o.step HRL.o d3);clear d3 PR1 IQ;cases ok with
    | false=>
     have FIN:=gh I3.o.fin;have ES:Hid ((z,ok')=(0,false)/\s'=sc):=gh (by
      have e:=KS.o;have st':=Rn.growK_stop (L:=Rn.growF f) (ps:=ps) (s:=s) (n:=t+1) (by rw [e]) (m:=D) (by omega);have e2:=E2.o;rw [st',e] at e2;simp at e2;exact ⟨by rw [<- e2.1.1,<- e2.1.2],e2.2.symm⟩)
     obtain ⟨es1,es2⟩:=ES.o;cases es1;subst es2;clear I3 E2 KS LS ES;go_wp2
     go_ret2
     exact ⟨rfl,FIN.o⟩
    | true=>
     go_wp2_with (at_builtin;refine Stop.out ?_);refine ⟨?_⟩;refine wpList_append_gc rfl _ _ rfl rfl rfl I3.o (by have:=HCL.o;omega) rfl ?_;intro v4 w4 i4;have I4:=gh i4;clear i4 I3;go_wp2;exact ⟨⟨t+1,by omega,by simp,gh (by rw [KS.o]),gh (by rw [KS.o,LS.o (by omega)];exact I4.o)⟩,by simp [intOf];omega⟩
   ·have z0:t=0:=by omega
    have QN:Hid (lowL ps (t+1)=qs):=gh (by
     have h1:=lowL_len ps (t+1);have h2:=HQL.o;rw [z0] at h1 h2;rw [z0,List.length_eq_zero_iff.1 h1,List.length_eq_zero_iff.1 h2])
    clear c0 z0;go_wp2_with (fail);refine (Pt.size_r (M:Int) (t:Int) (I64.wf ⟨by omega,by omega⟩) _).mono ?_;rw [HSS.o];rintro e w' ⟨rfl,rfl⟩;go_wp2_with (fail);have PR1:=(HI.o.list HR.o HA.o F S);rw [<- OWN.o] at PR1;refine (IH.o _ _ r st _ own S (cap - F) HI.o.run (HI.o.new HXN.o) PR1 OWL.o (by omega) (by have:=HCM.o;omega) (by omega) (by have:=HF.o;omega) (fun _ ad e=>by cases e;exact HA.o) zc ok sc HZ.o).mono ?_;rintro e w3 ⟨rfl,d3⟩;have I3:=gh (HI.o.step HRL.o d3);clear d3 PR1 HI;cases ok with
    | false=>
     have FIN:=gh I3.o.fin;have ES:Hid ((z,ok')=(0,false)/\s'=sc):=gh (by
      have e:=KS.o;have st':=Rn.growK_stop (L:=Rn.growF f) (ps:=ps) (s:=s) (n:=t+1) (by rw [e]) (m:=D) (by omega);have e2:=E2.o;rw [st',e] at e2;simp at e2;exact ⟨by rw [<- e2.1.1,<- e2.1.2],e2.2.symm⟩)
     obtain ⟨es1,es2⟩:=ES.o;cases es1;subst es2;clear I3 E2 KS LS ES;go_wp2
     go_ret2
     exact ⟨rfl,FIN.o⟩
    | true=>
     go_wp2_with (at_builtin;refine Stop.out ?_);refine ⟨?_⟩;refine wpList_append_gc rfl _ _ rfl rfl rfl I3.o (by have:=HCL.o;omega) rfl ?_;intro v4 w4 i4;have I4:=gh i4;clear i4 I3;go_wp2;exact ⟨⟨t+1,by omega,by simp,gh (by rw [KS.o]),gh (by rw [KS.o,QN.o];exact I4.o)⟩,by simp [intOf];omega⟩
  ·obtain rfl:t=D:=by omega
   obtain ⟨cs,hcs⟩:∃ cs,(Rn.growK (Rn.growF f) ps s t).1.2=cs:=⟨_,rfl⟩;obtain ⟨st,hst⟩:∃ st,(Rn.growK (Rn.growF f) ps s t).2=st:=⟨_,rfl⟩;obtain ⟨qs,hqs⟩:∃ qs,lowL ps t=qs:=⟨_,rfl⟩;rw [HT.o,if_pos rfl,hcs,hst,hqs] at E2;rw [hcs,hst,hqs] at HI;rw [hqs] at QL;rw [hcs] at CL;obtain ⟨aq,cq,rfl,rq,q0⟩:=Row.form HI.o.q;obtain ⟨ac,cc,rfl,rc,c0⟩:=Row.form HI.o.c;have HIN:=gh (inner_r _ (M:Int) aq qs cq ac cs cc rq rc q0 c0 (by omega) (by omega));obtain ⟨ws,hws⟩:∃ ws,innerL (M:Int) qs cs=ws:=⟨_,rfl⟩;rw [hws] at HIN E2;clear hcs hst hqs hws rq rc q0 c0 CL QL HT;go_wp2_with (fail);refine (Pt.deg_r (M:Int) (I64.wf ⟨by omega,by omega⟩) _).mono ?_;rw [HD.o];rintro e w' ⟨rfl,rfl⟩;go_wp2_with (fail);refine HIN.o.mono ?_;intro e w1 hf;obtain ⟨a1,cap1,rfl,k1,far⟩:=hf.far;have I1:=gh (HI.o.kept k1);have FAR:=gh (far _ r (HI.o.new HXN.o) (by have:=HI.o.run.lt;omega));clear hf k1 far HI HIN;go_wp2_with (fail);obtain ⟨x2,ex,eo,hx2⟩:=recM_r _ w1 r st 3 a1 ws ws.length cap1 rfl I1.o.run FAR.o z ok' s' E2.o;refine hx2.mono ?_;rintro e w3 ⟨rfl,d3⟩;have D3:=gh (I1.o.step HRL.o d3).fin;have EX:=gh ex;clear d3 hx2 ex eo;go_wp2_with (fail);refine (ofr_c 3 x2 z EX.o _).mono ?_;rintro e w4 ⟨rfl,rfl⟩;go_wp2
   go_ret2
   exact ⟨rfl,D3.o⟩
set_option maxHeartbeats 4000000 in
theorem grow_r:∀ f,GrowC f
 | 0=>fun _ _ _ _ _ _ _ _ _ _ _ _ _ _ _ h=>by omega
 | f+1=>fun X W r s a ps M cap h hX hr hM hc hcm hm hf ha z ok s' e1=>by
  have ih:=grow_r f;have hcm':(cap:Int)<=9223372036854775807:=by unfold maxLen at hcm;omega
  by_cases h0:M=0
  ·have e2:s.recM 1 [0]=((z,ok),s'):=by rw [<- e1,Rn.growF_succ,if_pos (by omega)]
   have H:=gh h;have HX:=gh hX;have HRL:=gh h.lt;have E2:=gh e2;have g0:((M:Int) == 0)=true:=by simp [h0]
   clear h hX hr hM ha e1 e2 ih hcm;go_enter Tryz.func131,Tryz.ntmps131;go_wp2_with (fail);refine (emptyw_r W).mono ?_;intro e w1 hff;obtain ⟨a1,cap1,rfl,k1,far⟩:=hff.far;have K1:=gh k1;have FAR:=gh (far X r HX.o HRL.o);clear hff k1 far;go_wp2_with (fail);obtain ⟨x2,ex,eo,hx2⟩:=recM_r X w1 r s 1 a1 [0] _ cap1 rfl (H.o.kept K1.o) FAR.o z ok s' E2.o;refine hx2.mono ?_;rintro e w3 ⟨rfl,d3⟩;have D3:=gh (Ran.behind K1.o d3);have EX:=gh ex;clear d3 hx2 ex eo;go_wp2_with (fail);refine (ofr_c 1 x2 z EX.o _).mono ?_;rintro e w4 ⟨rfl,rfl⟩;go_wp2
   go_ret2
   exact ⟨rfl,D3.o⟩
  ·by_cases h1:M=1
   ·subst h1;obtain ⟨p,rfl⟩:∃ p,ps=[p]:=List.length_eq_one_iff.1 hM;have e2:s.recM 2 [p.1,p.2]=((z,ok),s'):=by rw [<- e1,Rn.growF_succ,if_neg (by simp),if_pos (by simp)];rfl
    obtain ⟨bl,off,rfl⟩:∃ bl off,a=some ⟨bl,off,none⟩:=by
     obtain ⟨bl,off,e,_⟩:=hr.at (j:=0) (p:=p) rfl;exact ⟨bl,off,e⟩
    obtain ⟨c1,c2⟩:=preads_head hr (by simp);simp only [List.headD_cons] at c1 c2;obtain ⟨V,hV⟩:∃ V,W.drew=V:=⟨_,rfl⟩;have kV:Kept W V:=by rw [<- hV];exact Kept.drew _
    have hna:=ha (by simp) _ rfl;have x1:∀ u:Wd (fun U=>Td (fun k=>k=r) V U),u.w.cell? ⟨bl,off,none⟩=some (.int .i64 p.1):=fun u=>u.ok.cell (kV.cell c1 id) hna;have x2:∀ u:Wd (fun U=>Td (fun k=>k=r) V U),u.w.cell? ⟨bl,off+1,none⟩=some (.int .i64 p.2):=fun u=>u.ok.cell (kV.cell c2 id) hna;have HV:=gh hV;have KV:=gh kV;have H:=gh (h.kept kV);have HX:Hid (∀ k,V.heap.size<=k->X k):=gh (fun k hk=>hX k (Nat.le_trans kV.size hk));have HRL:=gh (h.kept kV).lt;have E2:=gh e2;obtain ⟨p1,p2⟩:=p;simp only at x1 x2 E2;clear h hX hr hM ha e1 e2 ih hcm c1 c2 hna hV kV;go_enter Tryz.func131,Tryz.ntmps131;go_wp2_with (fail);refine region_wide [0,1,2,3,4,5,6,7,8,9,10,11,12,13,14,15] (fun U=>Td (fun k=>k=r) V U) (by kernel_rfl) (by kernel_rfl) (by rw [HV.o];exact Td.refl _ _) (fun _=>?_);rw [HV.o]
    repeat (refine pq rfl rfl ?_;go_big_quiet_step (fail);refine wpQuiet_nil ?_)
    refine pl rfl rfl ?_;gi_wp2_with (fail);refine ⟨trivial,?_⟩;refine (callsIn_wide.2 (leafw_r V p1 p2)).mono ?_;intro e w1 hff;obtain ⟨a1,cap1,rfl,k1,far⟩:=hff.far;have K1:=gh k1;have FAR:=gh (far X r HX.o HRL.o);clear hff k1 far;gi_wp2_with (fail);refine ⟨Wd.mem (K1.o.mono (fun _ _ e=>e.elim)),?_⟩;refine pl rfl rfl ?_;gi_wp2_with (fail);refine ⟨trivial,?_⟩;obtain ⟨x3,ex,eo,hx3⟩:=recM_r X w1 r s 2 a1 [p1,p2] _ cap1 rfl (H.o.kept K1.o) FAR.o z ok s' E2.o;refine (callsIn_wide.2 hx3).mono ?_;rintro e w3 ⟨rfl,d3⟩;have D3:=gh (Ran.behind (KV.o.trans K1.o) d3);have T3:Hid (Td (fun k=>k=r) V w3):=gh (Ran.behind K1.o d3).2;have EX:=gh ex;clear d3 hx3 ex eo;gi_wp2_with (fail);refine ⟨Wd.mem T3.o,?_⟩
    repeat (refine pq rfl rfl ?_;go_big_quiet_step (fail);refine wpQuiet_nil ?_)
    refine perm_done ?_;go_wp2_with (fail);refine (ofr_c 2 x3 z EX.o _).mono ?_;rintro e w4 ⟨rfl,rfl⟩;go_wp2
    go_ret2
    exact ⟨rfl,D3.o⟩
   ·exact growInner_r f ih X W r s a ps M cap h hX hr hM hc hcm hm hf (by omega) (ha (fun e=>by rw [e] at hM;simp at hM;omega)) z ok s' e1
end
end Go.Proofs.YtoaicedkepcalaaGreat
