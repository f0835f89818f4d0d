/-
  What the proof of YtibnlaihiahjpaaGreatViewOrderProof goes by, part 3 of 11: contracts and plain facts; each part begins with its own sentence. No conditions beyond each theorem's own.
-/
import Derived.Test.YtibnlaihiahjpaaGreatV2
import Derived.Shelf.Abstract
import Derived.Shelf.RegionOpen
import Derived.OwnWalkIn
import Derived.TacticsInMore
import Derived.LoopNIn
import Derived.LoopIn
import Derived.Shelf.Strconv.Itoa0
import Derived.Test.YtibnlaihiahjpaaGreatProg
import Derived.Lib.BitFns
import Derived.Lib.ItoaNum
import Derived.Test.YtibnlaihiahjpaaGreatRows
import Derived.WalkKit
import Derived.WalkLawsBesides
import Derived.ProofKit
import Derived.OpenShut
import Derived.LoopTactic
import Derived.Laws.OwnMore
import Derived.Maps.OwnIn
import Derived.Maps.AppendAt
import Derived.BigQuiet
import Derived.Deep.QuietTactic
namespace Go.Proofs.YtibnlaihiahjpaaGreat
open Go.RowKit
section
open Go.Shelf
attribute [local go_sem] Oper.semAt_some
theorem g0A (w:World) (b:Nat) (s:Mst) (x r:Int) (h:PM w b s) (hx:I64 x) (e1:tgt s x=r) :
  Calls Tryz.prog 121 #[.pointer (some ⟨b,0,none⟩),.int .i64 x] w fun e w'=>e=.returned (.int .i64 r)/\w=w':=by
 have H:=gh h;have HX:=gh hx;obtain ⟨k,hk⟩:∃ k,kd x=k:=⟨_,rfl⟩;obtain ⟨p,hp⟩:∃ p,ad x=p:=⟨_,rfl⟩;have kr:=a0U x;rw [hp] at kr;obtain ⟨p0,p1⟩:=kr;have HK:=gh hk;have HP:=gh hp
 by_cases hk4:k=4
 ·have e3:Hid (s.look p=r):=gh (by rw [<- e1,tgt,if_pos (by rw [hk];exact hk4),hp]);subst hk4;clear h hx hk hp e1;go_enter Tryz.func121,Tryz.ntmps121;go_wp2_with (fail);refine (kk_p _ x 4 HX.o HK.o).mono ?_;rintro e w' ⟨rfl,rfl⟩;go_wp2_with (fail);refine (ak_p _ x p HX.o HP.o).mono ?_;rintro e w' ⟨rfl,rfl⟩;go_wp2_with (fail);refine (lk_p _ b s _ r H.o (by first | exact e3.o | simpa using e3.o)).mono ?_;rintro e w' ⟨rfl,rfl⟩;go_wp2;go_ret;exact ⟨rfl,rfl⟩
 ·have e3:r=x:=by rw [<- e1,tgt,if_neg (by rw [hk];exact hk4)]
  have g1:(k == 4)=false:=by simp [hk4]
  have g2:(k != 4)=true:=by simp [hk4]
  subst e3;clear h hx hk hp e1 hk4;go_enter Tryz.func121,Tryz.ntmps121;go_wp2_with (fail);refine (kk_p _ r k HX.o HK.o).mono ?_;rintro e w' ⟨rfl,rfl⟩;go_wp2;go_ret;exact ⟨rfl,rfl⟩
theorem r0A (w:World) (b:Nat) (s:Mst) (a r:Int) (h:PM w b s) (ho:s.ok) (e1:s.logicZ a=r) :
  Calls Tryz.prog 126 #[.pointer (some ⟨b,0,none⟩),.int .i64 a] w fun e w'=>e=.returned (.agg #[.int .i64 a,.int .i64 r])/\Kept w w':=by
 have H:=gh (h.kept (Kept.alloc (Kept.refl w) (.cells #[.int .i64 0,.int .i64 0] 49)));have HO:=gh ho;have HE:=gh e1;clear h ho e1;go_enter Tryz.func126,Tryz.ntmps126;go_wp2_with (fail);refine (f0W _ b s a r H.o HO.o HE.o).mono ?_;rintro e w' ⟨rfl,rfl⟩;go_wp2;refine bodyPost_ret (v:=.agg #[.int .i64 a,.int .i64 r]) (by simp [results,Tryz.results126,go_sem]) rfl ⟨rfl,?_⟩;exact Td.alloc _ _ _
theorem slots_c (w:World) (b:Nat) (x:Int) :
  Calls Tryz.prog 149 #[.pointer (some ⟨b,0,none⟩),.int .i64 x] w fun e w'=>e=.returned (.func (.func 177) #[] #[.pointer (some ⟨w.heap.size,0,none⟩),.pointer (some ⟨w.heap.size+1,0,none⟩)])/\w'=(w.alloc (.cells #[.pointer (some ⟨b,0,none⟩)] 23)).alloc (.cells #[.int .i64 x] 2):=by
 go_enter Tryz.func149,Tryz.ntmps149;go_wp2;go_ret;exact ⟨rfl,rfl⟩
theorem t0Z (w:World) (b:Nat) (x:Int) :
  Calls Tryz.prog 149 #[.pointer (some ⟨b,0,none⟩),.int .i64 x] w fun e w'=>∃ B1 B2,e=.returned (.func (.func 177) #[] #[.pointer (some ⟨B1,0,none⟩),.pointer (some ⟨B2,0,none⟩)])/\Kept w w'/\Boxed w' B1 23 (.pointer (some ⟨b,0,none⟩))/\Boxed w' B2 2 (.int .i64 x)/\w.heap.size<=B1/\w.heap.size<=B2:=by
 refine (slots_c w b x).mono ?_;rintro e w' ⟨rfl,rfl⟩;refine ⟨_,_,rfl,((Kept.refl w).alloc _).alloc _,(Boxed.new w 23 _).alloc _,?_,Nat.le_refl _,by omega⟩
 have:=Boxed.new (w.alloc (.cells #[.pointer (some ⟨b,0,none⟩)] 23)) 2 (.int .i64 x)
 rwa [World.size_alloc] at this
theorem u0D {P:Program} {m m' l l':Nat} {f:FuncId} {tmps:Array Value} {assign body:Code} {w:World} {Q:Ending->World->Prop} (h:RoundIn Fence.wide m P l f tmps assign body w Q):RoundIn (Fence.wide.inRound l') m' P l f tmps assign body w Q:=
 ⟨h.1,fun c cs _=>h.2 c cs (fun d hd=>by simp [Fence.wide] at hd)⟩
abbrev enc2 (x:Int × Int):Array Value:=#[.int .i64 x.1,.int .i64 x.2]
theorem n0S {α:Type} {L:List α} {k:Nat} {p:α} (h:L[k]? = some p):L=L.take k++p :: L.drop (k+1)/\L.take k++[p]=L.take (k+1):=by
 obtain ⟨hk,rfl⟩:=List.getElem?_eq_some_iff.1 h;refine ⟨?_,?_⟩
 ·rw [List.getElem_cons_drop,List.take_append_drop]
 ·rw [List.take_succ_eq_append_getElem hk]
theorem j0Y {s:Mst} {x:Int} (h:kd (tgt s x)≠3):a0M s x=[]:=by unfold a0M;rw [if_neg h]
theorem l0Z {s:Mst} {x:Int} (h:kd (tgt s x)=3):(a0M s x).length=degN s x:=by unfold a0M;rw [if_pos h];simp
theorem n0X {s:Mst} {x:Int} (h:kd (tgt s x)=3) {k:Nat} (hk:k < degN s x):(a0M s x)[k]? = some ((k:Int),b0C (atN s x) (degN s x) k):=by
 unfold a0M;rw [if_pos h,List.getElem?_map,List.getElem?_range hk];rfl
def w0N (w:World) (B1 B2:Nat):Nat->Prop:=fun k=>k < w.heap.size∨k=B1∨k=B2
set_option maxHeartbeats 1000000 in
theorem u0A (w W:World) (hk:Kept w W) (b:Nat) (s:Mst) (hM:PM w b s) (ho:s.ok) (x:Int) (hx:WfH s x) (B1 B2:Nat) (h1:Boxed W B1 23 (.pointer (some ⟨b,0,none⟩))) (h2:Boxed W B2 2 (.int .i64 x)) :
  Iter Tryz.prog 177 #[.pointer (some ⟨B1,0,none⟩),.pointer (some ⟨B2,0,none⟩)] enc2 (a0M s x) (w0N w B1 B2) W:=by
 intro l O₀ J Jx hR gJ gJx hY h0;have hkA:∀ A,Td O₀ W A->Kept w A:=fun A t=>Td.trans hk t (fun _ e=>e) (fun i hi e=>hR i (.inl hi) e);have hcm:∀ A,Td O₀ W A->A.cell? ⟨B1,0,none⟩=some (.pointer (some ⟨b,0,none⟩)):=fun A t=>t.cell h1.cell (hR B1 (.inr (.inl rfl)));have c1:=h1.cell;have c2:=h2.cell;have HM:=gh hM;have HM0:=gh (hM.kept hk);have HO:=gh ho;have HX:=gh hx;have HY:=gh hY;have HK:=gh hkA;have HC:=gh hcm;have H0:=gh h0;obtain ⟨t,ht⟩:∃ t,tgt s x=t:=⟨_,rfl⟩;have HT:=gh ht;have HTI:Hid (I64 t):=gh (by rw [<- ht];exact p0S ho hx.i64)
 by_cases k3:kd t=3
 ·obtain ⟨p,hp⟩:∃ p,ad t=p:=⟨_,rfl⟩;have pr:=a0U t;rw [hp] at pr;obtain ⟨a,rfl⟩:∃ a:Nat,p=(a:Int):=⟨p.toNat,by omega⟩;have a2:(a:Int)<=65536:=pr.2;have hd:=hx.deg (by rw [ht];exact k3);rw [ht,hp] at hd;obtain ⟨d,hd'⟩:∃ d:Nat,s.look (a:Int)=(d:Int):=⟨(s.look a).toNat,by omega⟩;rw [hd'] at hd;obtain ⟨d2,d3⟩:=hd;have HP:=gh hp;have HD:=gh hd';have eA:atN s x=a:=by unfold atN;rw [ht,hp];omega
  have eD:degN s x=d:=by unfold degN;rw [ht,hp,hd'];omega
  have K3:=gh k3;have HLA:Hid (∀ k,k < d->(a0M s x)[k]? = some ((k:Int),b0C a d k)):=gh (fun k hk=>by
   have:=n0X (s:=s) (x:=x) (by rw [ht];exact k3) (k:=k) (by rw [eD];exact hk)
   rwa [eA,eD] at this)
  have HLL:Hid ((a0M s x).length=d):=gh (by rw [l0Z (by rw [ht];exact k3),eD]);clear hM ho hx hY hkA hcm h0 ht k3 hp pr hd' h1 h2 hk hR eA eD;refine (callsIn_wide (n:=10)).1 ?_;refine callsIn_of_wp Tryz.func177 rfl trivial ?_ rfl;simp only [Tryz.ntmps177,List.size_toArray,List.length_cons,List.length_nil,Nat.reduceAdd,Nat.reduceSub,Array.replicate_succ,Array.replicate_zero,List.push_toArray,List.append_toArray,List.nil_append,List.cons_append];gi_wp2_with (fail);refine ⟨trivial,?_⟩;refine (callsIn_wide.2 (g0A _ b s x t HM0.o HX.o.i64 HT.o)).mono ?_;rintro e w' ⟨rfl,rfl⟩;gi_wp2_with (fail);refine ⟨trivial,?_⟩;refine (callsIn_wide.2 (kk_p _ t 3 HTI.o K3.o)).mono ?_;rintro e w' ⟨rfl,rfl⟩;gi_wp2_with (fail);refine ⟨trivial,?_⟩;refine (callsIn_wide.2 (ak_p _ t a HTI.o HP.o)).mono ?_;rintro e w' ⟨rfl,rfl⟩;gi_wp2_with (fail);refine ⟨trivial,?_⟩;refine (callsIn_wide.2 (lk_p _ b s _ d HM0.o (by first | exact HD.o | simpa using HD.o))).mono ?_;rintro e w' ⟨rfl,rfl⟩;gi_wp2
  gi_loopw [21] (fun i wr=>∃ (k:Nat) (O:Nat->Prop),k<=d/\i=.int .i64 (k:Int)/\Hid (Sub O O₀ W.heap.size)/\Hid (Td O₀ W wr)/\Hid (J O ((a0M s x).take k) wr)) (fun i _=>d - (intOf i).toNat)
  case atStart=>exact ⟨0,O₀,by omega,by simp,gh (Sub.refl _ _),gh (Td.refl _ _),gh (by simpa using H0.o)⟩
  case round=>
   obtain ⟨k,O,hk,rfl,HS,HTT,HJ⟩:=hrel
   by_cases hkn:k < d
   ·have j1:(k:Int) < (d:Int):=by omega
    have hcz:=gh (c0A (n:=a) (d:=(d:Int)) (i:=k) (by omega) (by omega) (by omega) (by omega) (by omega) (by omega));obtain ⟨q1,q2⟩:=n0S (HLA.o k hkn);obtain ⟨fn,tmps,assign,body,hy,hRd⟩:=HY.o O ((a0M s x).take k) ((k:Int),b0C a d k) _ wr q1 HTT.o HS.o HJ.o;rw [q2] at hRd;have Q1:=gh q1;have HRd:=gh hRd;dsimp only [enc2,b0C] at hy;clear q1 q2 hRd;gi_wp2_with (fail);refine ⟨trivial,?_⟩;refine (callsIn_wide.2 (e0F _ a d k _ hcz.o)).mono ?_;rintro e w' ⟨rfl,rfl⟩;gi_wp2_with (fail);refine HRd.o.mono ?_;rintro e W3 ⟨O',hs3,ht3,⟨rfl,hj3⟩ | ⟨rfl,hj3⟩⟩
    ·have S3:=gh (hs3.trans HS.o HTT.o.size);have T3:=gh (HTT.o.sub ht3 HS.o);have J3:=gh hj3;clear hs3 ht3 hj3 hy HRd HY;gi_wp2;exact ⟨⟨k+1,O',by omega,by simp,S3,T3,J3⟩,by simp [intOf];omega⟩
    ·have S3:=gh (hs3.trans HS.o HTT.o.size);have T3:=gh (HTT.o.sub ht3 HS.o);have J3:=gh hj3;clear hs3 ht3 hj3 hy HRd HY;gi_wp2;refine bodyPost_ret (results_none rfl _ _ _) rfl ?_;exact ⟨⟨_,rfl⟩,O',S3.o,T3.o,.inr ⟨_,(a0M s x).drop (k+1),(List.take_append_drop _ _).symm,J3.o⟩⟩
   ·have hkn':k=d:=by omega
    subst hkn';have j1:¬ ((k:Int) < (k:Int)):=by omega
    gi_wp2
    go_end0
    exact ⟨⟨_,rfl⟩,O,HS.o,HTT.o,.inl (by have:=HJ.o;rwa [List.take_of_length_le (by rw [HLL.o];omega)] at this)⟩
 ·obtain ⟨j,hj⟩:∃ j,kd t=j:=⟨_,rfl⟩;have j3:j≠3:=by rw [<- hj];exact k3
  have HJJ:=gh hj;have g1:(j == 3)=false:=by simp [j3]
  have g2:(j != 3)=true:=by simp [j3]
  have HE:=gh (j0Y (s:=s) (x:=x) (by rw [ht];exact k3));clear hM ho hx hY hkA hcm h0 ht k3 h1 h2 hk hR hj j3;refine (callsIn_wide (n:=10)).1 ?_;refine callsIn_of_wp Tryz.func177 rfl trivial ?_ rfl;simp only [Tryz.ntmps177,List.size_toArray,List.length_cons,List.length_nil,Nat.reduceAdd,Nat.reduceSub,Array.replicate_succ,Array.replicate_zero,List.push_toArray,List.append_toArray,List.nil_append,List.cons_append];gi_wp2_with (fail);refine ⟨trivial,?_⟩;refine (callsIn_wide.2 (g0A _ b s x t HM0.o HX.o.i64 HT.o)).mono ?_;rintro e w' ⟨rfl,rfl⟩;gi_wp2_with (fail);refine ⟨trivial,?_⟩;refine (callsIn_wide.2 (kk_p _ t j HTI.o HJJ.o)).mono ?_;rintro e w' ⟨rfl,rfl⟩;gi_wp2;refine bodyPost_ret (results_none rfl _ _ _) rfl ?_;exact ⟨⟨_,rfl⟩,O₀,Sub.refl _ _,Td.refl _ _,.inl (by rw [HE.o];exact H0.o)⟩
end
section
open Go.Shelf
attribute [local go_sem] Oper.semAt_some
abbrev encS (x:Int × Int):Array Value:=#[.agg #[.int .i64 x.1,.int .i64 x.2]]
def Rose (J Jx:Inv (Int × Int)) (O:Nat->Prop) (A:World) (xs pre':List (Int × Int)) (e:Ending) (A':World):Prop:=
 ∃ O',Sub O' O A.heap.size/\Td O A A'/\((e=.returned (.bool true)/\J O' pre' A')∨(e=.returned (.bool false)/\∃ p r,xs=p++r/\Jx O' p A'))
def Rounds (l:Nat) (O₀:Nat->Prop) (J Jx:Inv (Int × Int)) (W:World) (xs:List (Int × Int)):Prop:=
 ∀ O pre x rest A,xs=pre++x :: rest->Td O₀ W A->Sub O O₀ W.heap.size->J O pre A->YieldAt Fence.wide 9 Tryz.prog l (encS x) A (p0M J Jx O (pre++[x]) A)
def oneF (s:Mst) (f:Nat) (p:Int × Int):List (Int × Int):=(p.2,s.logicZ p.2) :: a0L s f (s.logicZ p.2)
theorem a0Q (s:Mst) (f:Nat) (x:Int):a0L s (f+1) x=(a0M s x).flatMap (oneF s f):=rfl
def Mid (J:Inv (Int × Int)) (pre:List (Int × Int)) (F:Int × Int->List (Int × Int)) (n:Nat):Inv (Int × Int):=fun OO pre' A=>
 ∃ O,(∀ k,OO k↔O k∨k=n)/\¬ O n/\J O (pre++pre'.flatMap F) A/\Boxed A n 4 (.bool false)
def MidX (Jx:Inv (Int × Int)) (xs:List (Int × Int)) (n:Nat):Inv (Int × Int):=fun OO _ A=>
 ∃ O p r,(∀ k,OO k↔O k∨k=n)/\¬ O n/\xs=p++r/\Jx O p A/\Boxed A n 4 (.bool false)
theorem Mid.good {J:Inv (Int × Int)} (h:Good J) (pre:List (Int × Int)) (F:Int × Int->List (Int × Int)) (n:Nat):Good (Mid J pre F n):=by
 constructor
 ·rintro OO pre' A B ⟨O,e,h1,hj,hb⟩ ht;exact ⟨O,e,h1,h.abides _ _ _ _ hj (ht.mono fun k _ hk hn=>hk ((e k).2 (.inl hn))),ht.boxed hb (fun hn=>hn ((e n).2 (.inr rfl)))⟩
 ·rintro OO pre' A ⟨O,e,_,hj,hb⟩ k hk;rcases (e k).1 hk with hk | rfl
  ·exact h.within _ _ _ hj k hk
  ·exact hb.lt
theorem MidX.good {Jx:Inv (Int × Int)} (h:Good Jx) (xs:List (Int × Int)) (n:Nat):Good (MidX Jx xs n):=by
 constructor
 ·rintro OO pre' A B ⟨O,p,r,e,h1,hx,hj,hb⟩ ht;exact ⟨O,p,r,e,h1,hx,h.abides _ _ _ _ hj (ht.mono fun k _ hk hn=>hk ((e k).2 (.inl hn))),ht.boxed hb (fun hn=>hn ((e n).2 (.inr rfl)))⟩
 ·rintro OO pre' A ⟨O,p,r,e,_,_,hj,hb⟩ k hk;rcases (e k).1 hk with hk | rfl
  ·exact h.within _ _ _ hj k hk
  ·exact hb.lt
theorem Sub.more {O' O:Nat->Prop} {n m:Nat} (h:Sub O' O m) (k:n<=m):Sub O' O n:=fun i hi=>(h i hi).imp id (fun e=>Nat.le_trans k e)
theorem good_if {J:Inv (Int × Int)} (h:Good J) (c d:Code):Good (fun O pre A=>c=d/\J O pre A):=
 ⟨fun _ _ _ _ hj ht=>⟨hj.1,h.abides _ _ _ _ hj.2 ht⟩,fun _ _ _ hj=>h.within _ _ _ hj.2⟩
set_option maxHeartbeats 2000000 in
theorem k0X {w W:World} (hk:Kept w W) {b:Nat} {s:Mst} (hM:PM w b s) (ho:s.ok) {l:Nat} {O₀:Nat->Prop} {J Jx:Inv (Int × Int)} (gJ:Good J) (gJx:Good Jx) {xs:List (Int × Int)} (hN:∀ k,k < w.heap.size->¬ O₀ k) (hY:Rounds l O₀ J Jx W xs) :
  ∀ (f:Nat) (x:Int) (pre rest:List (Int × Int)) (O:Nat->Prop) (A:World),Wf s f x->xs=pre++(a0L s f x++rest)->Td O₀ W A->Sub O O₀ W.heap.size->J O pre A->
  Calls Tryz.prog 127 #[.pointer (some ⟨b,0,none⟩),.int .i64 x,.func (.yield l) #[] #[]] A (Rose J Jx O A xs (pre++a0L s f x))
 | 0,_,_,_,_,_,h,_,_,_,_=>h.elim
 | f+1,x,pre,rest,O,A,hw,hx,hA,hO,hj=>by
  have ih:=k0X hk hM ho gJ gJx hN hY f;obtain ⟨hwh,hwk⟩:=hw;rw [a0Q] at hx ⊢;have hkA:Kept w A:=Td.trans hk hA (fun _ e=>e) (fun i hi e=>hN i hi e);have hw0:=gJ.within _ _ _ hj;have hk_size:=hk.size;have HM:=gh hM;have HO:=gh ho;have HY:=gh hY;have IH:=gh ih;have HX:=gh hx;have HWK:=gh hwk;have HWH:=gh hwh;have HA:=gh hA;have HSO:=gh hO;have HKA:=gh hkA;have HJ:=gh hj;have HN:=gh hN;have HW0:=gh hw0;clear ih hx hwk hwh hA hO hj hkA hw0;refine c0L Tryz.func127 rfl ?_;simp only [Tryz.ntmps127,List.size_toArray,List.length_cons,List.length_nil,Nat.reduceAdd,Nat.reduceSub,Array.replicate_succ,Array.replicate_zero,List.push_toArray,List.append_toArray,List.nil_append,List.cons_append];go_wp2_with (fail);obtain ⟨n,hn⟩:∃ n,A.heap.size=n:=⟨_,rfl⟩;obtain ⟨W1,hW1⟩:∃ W1,((A.alloc (.cells #[.pointer (some ⟨b,0,none⟩)] 23)).alloc (.cells #[.func (.yield l) #[] #[]] 181)).alloc (.cells #[.bool false] 4)=W1:=⟨_,rfl⟩;have z1:W1.heap.size=n+3:=by rw [<- hW1];simp [hn]
  have t1:Kept A W1:=by
   rw [<- hW1];exact (((Kept.refl A).alloc _).alloc _).alloc _
  have bx:∀ (X:World) (T:TypeId) (v:Value) (m:Nat),X.heap.size=m->Boxed (X.alloc (.cells #[v] T)) m T v:=fun X T v m e=>by rw [<- e];exact Boxed.new X T v
  have bM:Boxed W1 n 23 (.pointer (some ⟨b,0,none⟩)):=by
   rw [<- hW1];exact ((bx A 23 _ n hn).alloc _).alloc _
  have bY:Boxed W1 (n+1) 181 (.func (.yield l) #[] #[]):=by
   rw [<- hW1];exact (bx _ 181 _ (n+1) (by simp [hn])).alloc _
  have bR:Boxed W1 (n+2) 4 (.bool false):=by
   rw [<- hW1];exact bx _ 4 _ (n+2) (by simp [hn])
  rw [hW1,hn];clear hW1 bx;refine (t0Z W1 b x).mono ?_;rintro e W2 ⟨B1,B2,rfl,t2,b3,b4,l3,l4⟩;have HN0:Hid (A.heap.size=n):=gh hn;have KA2:=gh (t1.trans t2);have KW2:=gh (HKA.o.trans KA2.o);have BM:=gh (t2.boxed bM id);have BY:=gh (t2.boxed bY id);have BR:=gh (t2.boxed bR id);have B3:=gh b3;have B4:=gh b4;have Z2:Hid (n+3<=W2.heap.size):=gh (by have:=t2.size;omega);have L3:Hid (n+3<=B1/\n+3<=B2):=gh (by omega);have HJ2:Hid (J O pre W2):=gh (gJ.abides _ _ _ _ HJ.o (KA2.o.mono fun _ _ h=>h.elim));have hOn:∀ k,O k->k < n:=fun k hk=>by have:=HW0.o k hk;have:=HN0.o;omega
  have HON:=gh hOn;clear hn z1 t1 bM bY bR t2 b3 b4 l3 l4 hOn;go_wp2_with (fail);refine j0S (gf:=177) rfl (enters_of Tryz.func177 (by kernel_rfl) rfl) (encs:=enc2) (xs:=a0M s x) (R:=w0N w B1 B2)
   (fun X hX=>u0A w X (KW2.o.trans hX) b s HM.o HO.o x HWH.o B1 B2 (hX.boxed B3.o id) (hX.boxed B4.o id)) (fun _=>rfl)
   (fun k=>O k∨k=n+2) (Mid J pre (oneF s f) (n+2)) (fun c OO pre' A'=>c=.ret/\MidX Jx xs (n+2) OO pre' A') ?hR (Mid.good gJ _ _ _) (fun c=>good_if (MidX.good gJx _ _) c .ret)
   ⟨O,fun _=>Iff.rfl,fun h=>by have:=HON.o _ h;omega,by simpa using HJ2.o,BR.o⟩ ?ab ?done ?stop
  case hR=>
   rintro k (hk | rfl | rfl)
   ·have h1:=KW2.o.size;have h2:=HKA.o.size;have h3:=HN0.o;refine ⟨by omega,?_⟩;rintro (h | rfl)
    ·rcases HSO.o k h with h | h
     ·exact HN.o k hk h
     ·have:=hk_size;omega
    ·omega
   ·have h1:=B3.o.lt;have h2:=L3.o;refine ⟨h1,?_⟩;rintro (h | h)
    ·have:=HON.o _ h;omega
    ·omega
   ·have h1:=B4.o.lt;have h2:=L3.o;refine ⟨h1,?_⟩;rintro (h | h)
    ·have:=HON.o _ h;omega
    ·omega
  case ab=>
   apply Exists.intro;refine ⟨?_,?_⟩
   ·intro l' p X K hK;gi_wp2;exact hK
   ·rintro l' OO pre' ⟨pi,sl⟩ rest' B hx' tB sB ⟨Oi,eO,nO,jB,rB⟩;obtain ⟨y,hy⟩:∃ y,s.logicZ sl=y:=⟨_,rfl⟩;have HYY:=gh hy;have hwf:Wf s f y:=by
     have:=HWK.o (pi,sl) (by rw [hx'];simp)
     rwa [hy] at this
    have HWF:=gh hwf;have hone:oneF s f (pi,sl)=(sl,y) :: a0L s f y:=by rw [oneF,hy]
    have HX1:Hid (xs=(pre++pre'.flatMap (oneF s f))++(sl,y) :: (a0L s f y++(rest'.flatMap (oneF s f)++rest))):=gh (by
     rw [HX.o,hx',List.flatMap_append,List.flatMap_cons,hone];simp)
    have HONE:=gh hone;have zA:=HN0.o;have zW:=HA.o.size;have nOn:∀ k,n<=k->k≠n+2->¬ (O k∨k=n+2):=fun k h1 h2 h=>by
     rcases h with h | h
     ·have:=HON.o _ h;omega
     ·exact h2 h
    have cM:=tB.cell BM.o.cell (nOn n (by omega) (by omega));have cY:=tB.cell BY.o.cell (nOn (n+1) (by omega) (by omega));have low:∀ i,i < W.heap.size->(O i∨i=n+2)->O₀ i:=fun i hi h=>by
     rcases h with h | h
     ·rcases HSO.o i h with h | h
      ·exact h
      ·omega
     ·omega
    have TAB:Hid (Td O₀ W B):=gh (Td.trans (Kept.behind HA.o KA2.o) tB (fun _ e=>e) low);have KB:Hid (Kept w B):=gh (Td.trans KW2.o tB (fun _ e=>e) (fun i hi h=>HN.o i hi (low i (by omega) h)));have SAB:Hid (Sub Oi O₀ W.heap.size):=gh (fun k hk=>by
     rcases sB k ((eO k).2 (.inl hk)) with (h | h) | h
     ·exact HSO.o k h
     ·exact .inr (by omega)
     ·exact .inr (by have:=KA2.o.size;omega))
    have NOI:Hid (∀ k,n<=k->k < n+2->¬ Oi k):=gh (fun k h1 h2 hk=>by
     rcases sB k ((eO k).2 (.inl hk)) with (h | h) | h
     ·have:=HON.o _ h;omega
     ·omega
     ·have:=Z2.o;omega)
    have MB:=gh (HM.o.kept KB.o);have inB:=gJ.within _ _ _ jB;have INB:=gh inB;have JB:=gh jB;have RB:=gh rB;have EO:=gh eO;have NO:=gh nO;have ltM:=BM.o.lt;have zB:=tB.size;have LTN:Hid (n+3<=B.heap.size):=gh (by have:=Z2.o;omega);clear hy hwf hone hx' tB sB jB rB eO nO nOn low inB ltM zB zA zW;gi_wp2_with (fail);refine ⟨trivial,?_⟩;refine (CallsIn.inRound l' (callsIn_wide.2 (r0A _ b s sl y MB.o HO.o HYY.o))).mono ?_;rintro e C ⟨rfl,kC⟩;have KC:=gh (Kept.alloc kC (.cells #[.int .i64 sl,.int .i64 y] 49));have cq0:(C.alloc (.cells #[.int .i64 sl,.int .i64 y] 49)).heap[C.heap.size]? = some (.cells #[.int .i64 sl,.int .i64 y] 49):=a0C _ _;have CQ:=gh cq0;have ZC:=gh kC.size;have cM2:=KC.o.cell cM id;have cY2:=KC.o.cell cY id;have jC:=gJ.abides _ _ _ _ JB.o (KC.o.mono fun _ _ h=>h.elim);obtain ⟨fn,tmps,assign,body,hyy,hRd⟩:=HY.o Oi (pre++pre'.flatMap (oneF s f)) (sl,y) _ _ HX1.o (Kept.behind TAB.o KC.o) SAB.o jC;have hRd':=fun m=>u0D (m':=m) (l':=l') hRd;dsimp only [encS] at hyy;clear hRd kC jC cq0;gi_wp2;refine (hRd' _).mono ?_;rintro e E ⟨O3,s3,t3,⟨rfl,j3⟩ | ⟨rfl,j3⟩⟩
    ·have nC:¬ Oi C.heap.size:=fun h=>by have:=INB.o _ h;have:=ZC.o;omega
     have cM3:=t3.cell cM2 (NOI.o n (by omega) (by omega));have cY3:=t3.cell cY2 (NOI.o (n+1) (by omega) (by omega));have cq:=t3.heap CQ.o nC;have cq1:E.cell? ⟨C.heap.size,1,none⟩=some (.int .i64 y):=by simp [World.cell?,cq]
     have TAC:Hid (Td O₀ W (C.alloc (.cells #[.int .i64 sl,.int .i64 y] 49))):=gh (Kept.behind TAB.o KC.o);have T3:=gh (TAC.o.sub t3 SAB.o);have S3:=gh (s3.trans SAB.o TAC.o.size);have TB3:=gh (Kept.then KC.o t3);have SB3:=gh (s3.more KC.o.size);have N3:Hid (¬ O3 (n+2)):=gh (fun h=>by
      rcases s3 _ h with h | h
      ·exact NO.o h
      ·have h1:=LTN.o;have h2:=KC.o.size;omega)
     have R3:Hid (Boxed E (n+2) 4 (.bool false)):=gh (t3.boxed (KC.o.boxed RB.o id) NO.o);have HX2:Hid (xs=(pre++pre'.flatMap (oneF s f))++[(sl,y)]++(a0L s f y++(rest'.flatMap (oneF s f)++rest))):=gh (by rw [HX1.o];simp);have J3:=gh j3;clear s3 t3 j3 cq hyy hRd' cM2 cY2 cM cY nC;gi_wp2_with (fail);refine ⟨trivial,?_⟩;refine (CallsIn.inRound l' (callsIn_wide.2 (IH.o y _ _ O3 E HWF.o HX2.o T3.o S3.o J3.o))).mono ?_;rintro e G ⟨O4,s4,t4,⟨rfl,j4⟩ | ⟨rfl,p4,r4,hx4,j4⟩⟩
     ·have F4:Hid (∃ O',Sub O' OO B.heap.size/\Td OO B G/\Mid J pre (oneF s f) (n+2) O' (pre'++[(pi,sl)]) G):=gh (by
       refine ⟨fun k=>O4 k∨k=n+2,?_,?_,O4,fun _=>Iff.rfl,?_,?_,?_⟩
       ·rintro k (h | rfl)
        ·rcases s4 k h with h | h
         ·rcases SB3.o k h with h | h
          ·exact .inl ((EO.o k).2 (.inl h))
          ·exact .inr h
         ·exact .inr (by have:=TB3.o.size;omega)
        ·exact .inl ((EO.o _).2 (.inr rfl))
       ·exact (TB3.o.sub t4 SB3.o).mono (fun k _ h=>(EO.o k).2 (.inl h))
       ·intro h;rcases s4 _ h with h | h
        ·exact N3.o h
        ·have h1:=LTN.o;have h2:=TB3.o.size;omega
       ·have:pre++List.flatMap (oneF s f) (pre'++[(pi,sl)])=pre++pre'.flatMap (oneF s f)++[(sl,y)]++a0L s f y:=by
         rw [List.flatMap_append,List.flatMap_cons,HONE.o];simp
        rw [this];exact j4
       ·exact t4.boxed R3.o N3.o)
      clear s4 t4 j4;gi_wp2;exact F4.o
     ·have F4:Hid (∃ O',Sub O' OO B.heap.size/\Td OO B (G.setCell ⟨n+2,0,none⟩ (.bool false))/\MidX Jx xs (n+2) O' (pre'++[(pi,sl)]) (G.setCell ⟨n+2,0,none⟩ (.bool false))):=gh (by
       have n4:¬ O4 (n+2):=by
        intro h;rcases s4 _ h with h | h
        ·exact N3.o h
        ·have h1:=LTN.o;have h2:=TB3.o.size;omega
       have tS:Td (fun k=>k=n+2) G (G.setCell ⟨n+2,0,none⟩ (.bool false)):=Td.setCell _ _ _ rfl;refine ⟨fun k=>O4 k∨k=n+2,?_,?_,O4,p4,r4,fun _=>Iff.rfl,n4,hx4,?_,?_⟩
       ·rintro k (h | rfl)
        ·rcases s4 k h with h | h
         ·rcases SB3.o k h with h | h
          ·exact .inl ((EO.o k).2 (.inl h))
          ·exact .inr h
         ·exact .inr (by have:=TB3.o.size;omega)
        ·exact .inl ((EO.o _).2 (.inr rfl))
       ·exact ((TB3.o.sub t4 SB3.o).mono (fun k _ h=>(EO.o k).2 (.inl h))).trans tS (fun _ h=>h) (fun k _ h=>(EO.o k).2 (.inr h))
       ·exact gJx.abides _ _ _ _ j4 (tS.mono fun k _ h hO=>n4 (by rw [<- h];exact hO))
       ·exact (t4.boxed R3.o N3.o).set _)
      have c6:=(t4.boxed R3.o N3.o).cell;have f6:=(t4.boxed R3.o N3.o).frozen;clear s4 t4 j4 hx4;gi_wp2;obtain ⟨O',q1,q2,q3⟩:=F4.o;exact ⟨O',q1,q2,rfl,q3⟩
    ·have N3:Hid (¬ O3 (n+2)):=gh (fun h=>by
      rcases s3 _ h with h | h
      ·exact NO.o h
      ·have h1:=LTN.o;have h2:=KC.o.size;omega)
     have R3:Hid (Boxed E (n+2) 4 (.bool false)):=gh (t3.boxed (KC.o.boxed RB.o id) NO.o);have F4:Hid (∃ O',Sub O' OO B.heap.size/\Td OO B (E.setCell ⟨n+2,0,none⟩ (.bool false))/\MidX Jx xs (n+2) O' (pre'++[(pi,sl)]) (E.setCell ⟨n+2,0,none⟩ (.bool false))):=gh (by
      have tS:Td (fun k=>k=n+2) E (E.setCell ⟨n+2,0,none⟩ (.bool false)):=Td.setCell _ _ _ rfl;refine ⟨fun k=>O3 k∨k=n+2,?_,?_,O3,_,_,fun _=>Iff.rfl,N3.o,(show xs=(pre++pre'.flatMap (oneF s f)++[(sl,y)])++(a0L s f y++(rest'.flatMap (oneF s f)++rest)) by rw [HX1.o];simp),?_,?_⟩
      ·rintro k (h | rfl)
       ·rcases s3 k h with h | h
        ·exact .inl ((EO.o k).2 (.inl h))
        ·exact .inr (by have:=KC.o.size;omega)
       ·exact .inl ((EO.o _).2 (.inr rfl))
      ·exact ((Kept.then KC.o t3).mono (fun k _ h=>(EO.o k).2 (.inl h))).trans tS (fun _ h=>h) (fun k _ h=>(EO.o k).2 (.inr h))
      ·exact gJx.abides _ _ _ _ j3 (tS.mono fun k _ h hO=>N3.o (by rw [<- h];exact hO))
      ·exact R3.o.set _)
     have c6:=R3.o.cell;have f6:=R3.o.frozen;clear s3 t3 j3 hyy hRd' cM2 cY2 cM cY;gi_wp2;refine ⟨trivial,?_⟩;gi_wp2;obtain ⟨O',q1,q2,q3⟩:=F4.o;exact ⟨O',q1,q2,rfl,q3⟩
  case done=>
   rintro D OO X hD nD tX sX ⟨Oi,eO,nO,jX,rX⟩ hK;have nD2:¬ (O D∨D=n+2):=by
    rintro (h | h)
    ·have:=HON.o _ h;have:=Z2.o;omega
    ·have:=Z2.o;omega
   have zX:=tX.size;have zA:=HN0.o;have RX:=gh rX;have c6:=rX.cell;have f6:=rX.frozen;have tS:Td (fun k=>k=n+2) X (X.setCell ⟨n+2,0,none⟩ (.bool true)):=Td.setCell _ _ _ rfl;have hK2:Hid ((X.setCell ⟨n+2,0,none⟩ (.bool true)).heap[D]? = some (.deferred (some []))):=gh (tS.heap hK (fun e=>nD2 (.inr e)));have nOD:¬ Oi D:=fun h=>nD ((eO D).2 (.inl h));have FIN:Hid (∀ X',Td (fun k=>k ∈ [D]) (X.setCell ⟨n+2,0,none⟩ (.bool true)) X'->X'.cell? ⟨n+2,0,none⟩=some (.bool true)/\Rose J Jx O A xs (pre++List.flatMap (oneF s f) (a0M s x)) (.returned (.bool true)) X'):=gh (fun X' hX'=>by
    have hDn:n+2 ∉ [D]:=by simp;intro e;exact nD2 (.inr e.symm)
    refine ⟨hX'.cell (rX.set (.bool true)).cell hDn,Oi,?_,?_,?_⟩
    ·intro k hk;rcases sX k ((eO k).2 (.inl hk)) with (h | rfl) | h
     ·exact .inl h
     ·exact absurd hk nO
     ·exact .inr (by have:=KA2.o.size;omega)
    ·have t0:Td O A X:=Td.trans KA2.o tX (fun _ h=>h.elim) (fun k hk h=>by
      rcases h with h | h
      ·exact h
      ·omega)
     exact (t0.trans tS (fun _ h=>h) (fun k hk h=>by omega)).trans hX' (fun _ h=>h) (fun k hk h=>by simp at h;have:=Z2.o;omega)
    ·have tj:Td (fun k=>¬ Oi k) X X':=(tS.mono (R':=fun k=>¬ Oi k) (fun k _ h hO=>nO (by rw [<- h];exact hO))).trans hX' (fun _ h=>h) (fun k _ h hO=>nOD (by simp at h;rw [<- h];exact hO));exact .inl ⟨rfl,gJ.abides _ _ _ _ jX tj⟩)
   clear hK rX tS tX sX jX eO nO nD nOD;go_wp2;refine a0X [D] _ ?_ ?_ ?_
   ·intro k hk;simp at hk;rw [hk];exact hK2.o
   ·simp
   ·intro X' hX';obtain ⟨q1,q2⟩:=FIN.o X' hX';exact ⟨.bool true,by simp [results,Tryz.results127,go_sem,q1],q2⟩
  case stop=>
   rintro D OO c pre' rest' X hD nD tX sX hx' ⟨rfl,Oi,p,r,eO,nO,hxx,jX,rX⟩ hK;have nD2:¬ (O D∨D=n+2):=by
    rintro (h | h)
    ·have:=HON.o _ h;have:=Z2.o;omega
    ·have:=Z2.o;omega
   have zX:=tX.size;have zA:=HN0.o;have RX:=gh rX;have c6:=rX.cell;have f6:=rX.frozen;have tS:Td (fun k=>k=n+2) X X:=Td.refl _ _;have hK2:Hid ((X).heap[D]? = some (.deferred (some []))):=gh (tS.heap hK (fun e=>nD2 (.inr e)));have nOD:¬ Oi D:=fun h=>nD ((eO D).2 (.inl h));have FIN:Hid (∀ X',Td (fun k=>k ∈ [D]) (X) X'->X'.cell? ⟨n+2,0,none⟩=some (.bool false)/\Rose J Jx O A xs (pre++List.flatMap (oneF s f) (a0M s x)) (.returned (.bool false)) X'):=gh (fun X' hX'=>by
    have hDn:n+2 ∉ [D]:=by simp;intro e;exact nD2 (.inr e.symm)
    refine ⟨hX'.cell rX.cell hDn,Oi,?_,?_,?_⟩
    ·intro k hk;rcases sX k ((eO k).2 (.inl hk)) with (h | rfl) | h
     ·exact .inl h
     ·exact absurd hk nO
     ·exact .inr (by have:=KA2.o.size;omega)
    ·have t0:Td O A X:=Td.trans KA2.o tX (fun _ h=>h.elim) (fun k hk h=>by
      rcases h with h | h
      ·exact h
      ·omega)
     exact (t0.trans tS (fun _ h=>h) (fun k hk h=>by omega)).trans hX' (fun _ h=>h) (fun k hk h=>by simp at h;have:=Z2.o;omega)
    ·have tj:Td (fun k=>¬ Oi k) X X':=(tS.mono (R':=fun k=>¬ Oi k) (fun k _ h hO=>nO (by rw [<- h];exact hO))).trans hX' (fun _ h=>h) (fun k _ h hO=>nOD (by simp at h;rw [<- h];exact hO));exact .inr ⟨rfl,p,r,hxx,gJx.abides _ _ _ _ jX tj⟩)
   clear hK rX tS tX sX jX eO nO nD nOD hxx hx';go_wp2;refine a0X [D] _ ?_ ?_ ?_
   ·intro k hk;simp at hk;rw [hk];exact hK2.o
   ·simp
   ·intro X' hX';obtain ⟨q1,q2⟩:=FIN.o X' hX';exact ⟨.bool false,by simp [results,Tryz.results127,go_sem,q1],q2⟩
end
section
open Go.Shelf
attribute [local go_sem] Oper.semAt_some
theorem p0W (w:World) (b:Nat) :
  Calls Tryz.prog 72 #[.pointer (some ⟨b,0,none⟩)] w fun e w'=>∃ B1,e=.returned (.func (.func 125) #[] #[.pointer (some ⟨B1,0,none⟩)])/\Kept w w'/\Boxed w' B1 23 (.pointer (some ⟨b,0,none⟩))/\w.heap.size<=B1:=by
 go_enter Tryz.func72,Tryz.ntmps72;go_wp2;go_ret;exact ⟨_,rfl,(Kept.refl w).alloc _,Boxed.new w 23 _,Nat.le_refl _⟩
theorem below_k (w:World) (b:Nat) (x:Int) :
  Calls Tryz.prog 123 #[.pointer (some ⟨b,0,none⟩),.int .i64 x] w fun e w'=>∃ B1 B2,e=.returned (.func (.func 152) #[] #[.pointer (some ⟨B1,0,none⟩),.pointer (some ⟨B2,0,none⟩)])/\Kept w w'/\Boxed w' B1 23 (.pointer (some ⟨b,0,none⟩))/\Boxed w' B2 2 (.int .i64 x)/\w.heap.size<=B1/\w.heap.size<=B2:=by
 go_enter Tryz.func123,Tryz.ntmps123;go_wp2;go_ret;refine ⟨_,_,rfl,((Kept.refl w).alloc _).alloc _,(Boxed.new w 23 _).alloc _,?_,Nat.le_refl _,by omega⟩
 have:=Boxed.new (w.alloc (.cells #[.pointer (some ⟨b,0,none⟩)] 23)) 2 (.int .i64 x)
 rwa [World.size_alloc] at this
def t0A (w:World) (B1:Nat):Nat->Prop:=fun k=>k < w.heap.size∨k=B1
theorem Rose.ends {J Jx:Inv (Int × Int)} {O₀ O:Nat->Prop} {W A A':World} {xs:List (Int × Int)} {e:Ending} (hA:Td O₀ W A) (hO:Sub O O₀ W.heap.size) (h:Rose J Jx O A xs xs e A') :
  (∃ v,e=.returned (.bool v))/\∃ O',Sub O' O₀ W.heap.size/\Td O₀ W A'/\(J O' xs A'∨∃ pre rest,xs=pre++rest/\Jx O' pre A'):=by
 obtain ⟨O',s',t',⟨rfl,j⟩ | ⟨rfl,p,r,hx,j⟩⟩:=h
 ·exact ⟨⟨_,rfl⟩,O',s'.trans hO hA.size,hA.sub t' hO,.inl j⟩
 ·exact ⟨⟨_,rfl⟩,O',s'.trans hO hA.size,hA.sub t' hO,.inr ⟨p,r,hx,j⟩⟩
theorem below_i (w W:World) (hk:Kept w W) (b:Nat) (s:Mst) (hM:PM w b s) (ho:s.ok) (f:Nat) (x:Int) (hw:Wf s f x) (B1 B2:Nat) (h1:Boxed W B1 23 (.pointer (some ⟨b,0,none⟩))) (h2:Boxed W B2 2 (.int .i64 x)) :
  Iter Tryz.prog 152 #[.pointer (some ⟨B1,0,none⟩),.pointer (some ⟨B2,0,none⟩)] encS (a0L s f x) (w0N w B1 B2) W:=by
 intro l O₀ J Jx hR gJ gJx hY h0;have c1:=h1.cell;have c2:=h2.cell;have HR:=gh (k0X hk hM ho gJ gJx (fun k hk=>hR k (.inl hk)) hY f x [] [] O₀ W hw (by simp) (Td.refl _ _) (Sub.refl _ _) h0);clear hk hM ho hw h1 h2 hR hY h0 gJ gJx;refine (callsIn_wide (n:=10)).1 ?_;refine callsIn_of_wp Tryz.func152 rfl trivial ?_ rfl;simp only [Tryz.ntmps152,List.size_toArray,List.length_cons,List.length_nil,Nat.reduceAdd,Nat.reduceSub,Array.replicate_succ,Array.replicate_zero,List.push_toArray,List.append_toArray,List.nil_append,List.cons_append];gi_wp2_with (fail);refine ⟨trivial,?_⟩;refine (callsIn_wide.2 HR.o).mono ?_;intro e A' hr;obtain ⟨⟨v,rfl⟩,he⟩:=Rose.ends (Td.refl O₀ W) (Sub.refl _ _) hr;have HE:=gh he;clear he hr HR;gi_wp2
 go_end0
 exact ⟨⟨_,rfl⟩,HE.o⟩
def b0K (s:Mst) (f:Nat):List (Int × Int):=(6,s.logicZ 6) :: a0L s f (s.logicZ 6)
set_option maxHeartbeats 1000000 in
theorem p0X (w W:World) (hk:Kept w W) (b:Nat) (s:Mst) (hM:PM w b s) (ho:s.ok) (f:Nat) (hw:Wf s f (s.logicZ 6)) (B1:Nat) (h1:Boxed W B1 23 (.pointer (some ⟨b,0,none⟩))) :
  Iter Tryz.prog 125 #[.pointer (some ⟨B1,0,none⟩)] encS (b0K s f) (t0A w B1) W:=by
 intro l O₀ J Jx hR gJ gJx hY h0;obtain ⟨y,hy⟩:∃ y,s.logicZ 6=y:=⟨_,rfl⟩;have hxs:b0K s f=(6,y) :: a0L s f y:=by unfold b0K;rw [hy]
 rw [hy] at hw;have c1:=h1.cell;have HM:=gh (hM.kept hk);have HO:=gh ho;have HYY:=gh hy;have HXS:=gh hxs;have HG:=gh (k0X hk hM ho gJ gJx (fun k hk=>hR k (.inl hk)) hY f y);have HW:=gh hw;have HY:=gh hY;have H0:=gh h0;have NB:Hid (¬ O₀ B1):=gh (hR B1 (.inr rfl));have IN0:=gh (gJ.within _ _ _ h0);have GJ:=gh gJ;have GJX:=gh gJx;clear hk hM ho hw h1 hR hY h0 hy hxs gJ gJx;refine (callsIn_wide (n:=10)).1 ?_;refine callsIn_of_wp Tryz.func125 rfl trivial ?_ rfl;simp only [Tryz.ntmps125,List.size_toArray,List.length_cons,List.length_nil,Nat.reduceAdd,Nat.reduceSub,Array.replicate_succ,Array.replicate_zero,List.push_toArray,List.append_toArray,List.nil_append,List.cons_append];gi_wp2_with (fail);refine ⟨trivial,?_⟩;refine (callsIn_wide.2 (r0A _ b s 6 y HM.o HO.o HYY.o)).mono ?_;rintro e C ⟨rfl,kC⟩;have KC:=gh (Kept.alloc kC (.cells #[.int .i64 6,.int .i64 y] 49));have CQ:Hid ((C.alloc (.cells #[.int .i64 6,.int .i64 y] 49)).heap[C.heap.size]? = some (.cells #[.int .i64 6,.int .i64 y] 49)):=gh (a0C _ _);have ZC:=gh kC.size;have cM2:=KC.o.cell c1 id;have jC:=GJ.o.abides _ _ _ _ H0.o (KC.o.mono fun _ _ h=>h.elim);have TC:Hid (Td O₀ W (C.alloc (.cells #[.int .i64 6,.int .i64 y] 49))):=gh (KC.o.mono fun _ _ h=>h.elim);obtain ⟨fn,tmps,assign,body,hyy,hRd⟩:=HY.o O₀ [] (6,y) (a0L s f y) _ HXS.o TC.o (Sub.refl _ _) jC;dsimp only [encS] at hyy;have HRd:=gh hRd;clear hRd kC jC;gi_wp2_with (fail);refine HRd.o.mono ?_;rintro e E ⟨O3,s3,t3,⟨rfl,j3⟩ | ⟨rfl,j3⟩⟩
 ·have nC:¬ O₀ C.heap.size:=fun h=>by have:=IN0.o _ h;have:=ZC.o;omega
  have cM3:=t3.cell cM2 NB.o;have cq:=t3.heap CQ.o nC;have cq1:E.cell? ⟨C.heap.size,1,none⟩=some (.int .i64 y):=by simp [World.cell?,cq]
  have T3:=gh (TC.o.sub t3 (Sub.refl _ _));have S3:=gh (s3.more TC.o.size);have J3:=gh j3;clear s3 t3 j3 cq hyy HRd cM2 c1 nC;gi_wp2_with (fail);refine ⟨trivial,?_⟩;refine (callsIn_wide.2 (HG.o ([]++[(6,y)]) [] O3 E HW.o (by rw [HXS.o];simp) T3.o S3.o J3.o)).mono ?_;intro e A' hr;rw [show []++[((6:Int),y)]++a0L s f y=b0K s f by rw [HXS.o];rfl] at hr;obtain ⟨⟨v,rfl⟩,he⟩:=Rose.ends T3.o S3.o hr;have HE:=gh he;clear he hr HG;gi_wp2
  go_end0
  exact ⟨⟨_,rfl⟩,HE.o⟩
 ·have T3:=gh (TC.o.sub t3 (Sub.refl _ _));have S3:=gh (s3.more TC.o.size);have J3:=gh j3;clear s3 t3 j3 hyy HRd cM2 c1;gi_wp2
  go_end0
  exact ⟨⟨_,rfl⟩,O3,S3.o,T3.o,.inr ⟨_,a0L s f y,by rw [HXS.o];rfl,J3.o⟩⟩
def h0Y (n:Nat) (T:TypeId) (v:Value):Inv (Int × Int):=fun O _ A=>(∀ k,O k↔k=n)/\Boxed A n T v
theorem h0Y.good (n:Nat) (T:TypeId) (v:Value):Good (h0Y n T v):=by
 constructor
 ·rintro O pre A B ⟨hO,hb⟩ ht;exact ⟨hO,ht.boxed hb (fun hn=>hn ((hO n).2 rfl))⟩
 ·rintro O pre A ⟨hO,hb⟩ k hk;rw [(hO k).1 hk];exact hb.lt
theorem j0O {α:Type} {J:Inv α} (h:Good J) (p:List α->Prop):Good (fun O pre A=>p pre/\J O pre A):=
 ⟨fun _ _ _ _ hj ht=>⟨hj.1,h.abides _ _ _ _ hj.2 ht⟩,fun _ _ _ hj=>h.within _ _ _ hj.2⟩
theorem o0X {α:Type} {J:Inv α} (h:Good J) (c d:Code):Good (fun O pre A=>c=d/\J O pre A):=
 ⟨fun _ _ _ _ hj ht=>⟨hj.1,h.abides _ _ _ _ hj.2 ht⟩,fun _ _ _ hj=>h.within _ _ _ hj.2⟩
end
section
def i0O (ops:Array Oper):Bool:=ops.all (fun o=>match o.op with | .defer _=>false | _=>true)
theorem s0O {ops:Array Oper} (h:i0O ops=true) {i:Nat} {o:Oper} (ho:ops[i]? = some o) (c:Call):o.op≠.defer c:=by
 intro e;obtain ⟨hi,e2⟩:=Array.getElem?_eq_some_iff.1 ho
 have:=(Array.all_eq_true.1 h) i hi
 rw [e2,e] at this;cases this
section
variable {P:Program} {ops:Array Oper} {Q:Exit->Act->World->Prop} {md:Region.Mode} {n:Nat}
theorem l0P {l i:Nat} {K:Act->World->Prop} {a:Act} {w:World} (hd:i0O ops=true) (h:wpOpIn Fence.wide n P ops Q i K a w):wpOpIn (Fence.wide.inRound l) n P ops Q i K a w:=by
 unfold wpOpIn at *;cases ho:ops[i]? with
 | none=>simpa [ho] using h
 | some o=>
  simp only [ho] at h ⊢
  split
  ·rename_i hw;rw [if_pos hw] at h;unfold Oper.wpIn at *;refine ⟨h.1,?_⟩;have h2:=h.2;rw [show Fence.wide.round=none from rfl,Oper.semAt_none] at h2;rw [Fence.inRound_round,Oper.semAt_some l _ o (s0O hd ho)];generalize (execOp a.eval o).run P w=r at *;cases r with
   | ok x w'=>cases x <;> exact h2
   | halt x w'=>cases x <;> exact h2
  ·rename_i hw;rw [if_neg hw] at h;exact h
theorem d0O {l:Nat} (hd:i0O ops=true):∀ (fuel:Nat) (listed:Array Bool) (a:Act) (w:World),wpAnyIn Fence.wide n P md ops Q fuel listed a w->wpAnyIn (Fence.wide.inRound l) n P md ops Q fuel listed a w
 | 0,_,_,_,h=>h
 | fuel+1,_,_,_,h=>⟨h.1,fun i hi=>wpOpIn_mono (fun a' w' h'=>d0O hd fuel _ a' w' h') (l0P hd (h.2 i hi))⟩
theorem i0M {l id:Nat} {a:Act} {w:World} (is:List Nat) (C:World->Prop) (hm:P.follows .mixedOrders=true) (hd:i0O ops=true)
  (hB:(Region.noSelect ops && is.length == ops.size && j0F .any ops is (Array.replicate ops.size false))=true) (hQ:∀ c a d v w,Q (.panic c) (Act.put a d v) w->Q (.panic c) a w)
  (hC:C w.drew) (h:b0M P ops Q C n is a w.drew):(Code.region id ops true).wpIn (Fence.wide.inRound l) n P Q a w:=by
 simp only [Bool.and_eq_true,beq_iff_eq] at hB
 have:=g0C (md:=.any) hB.1.1 hQ is _ a _ hC hB.2 h
 rw [hB.1.2] at this;exact wpIn_region_any hm (d0O hd _ _ _ _ (c0I _ _ _ _ this))
end
theorem f0U {P:Program} {ops:Array Oper} {Q:Exit->Act->World->Prop} {n l id:Nat} {a:Act} {w:World} (is:List Nat) (S:World->Prop) (hm:P.follows .mixedOrders=true) (hd:i0O ops=true)
  (hB:(Region.noSelect ops && is.length == ops.size && j0F .any ops is (Array.replicate ops.size false))=true)
  (hS:S w.drew) (h:Nonempty (Wd S)->b0M P ops (calm Q) (fun w'=>∃ x:Wd S,w'=x.w) n is a w.drew):(Code.region id ops true).wpIn (Fence.wide.inRound l) n P Q a w:=
 Go.wpIn_mono (i0M is _ hm hd hB (fun _ _ _ _ _ h=>h) (Wd.mem hS) (h ⟨⟨_,hS⟩⟩)) (fun _ _ _ h=>g0M h)
end
section
theorem t0C {P:Program} {α:Type} {n:Nat} {g:Operand} {ps:Array Tmp} {assign body:Code} {Q:Exit->Act->World->Prop} {a:Act} {w:World}
  {gf:Nat} {lb:Array Value} (hg:a.eval g=.func (.func gf) #[] lb) (eg:∀ args w,(callFunc gf args).run P w=.ok (.enter gf args) w)
  {encs:α->Array Value} {xs:List α} {R:Nat->Prop} (hit:∀ W,Td (fun _=>False) w W->Iter P gf lb encs xs R W) (hps:∀ x,(encs x).size=ps.size)
  (O₀:Nat->Prop) (I:Inv α) (Ix:Code->Inv α) (hR:∀ k,R k->k < w.heap.size/\¬ O₀ k) (hI:Good I) (hIx:∀ c,Good (Ix c)) (h0:I O₀ [] w) (cs:α->Array Value) (T:TypeId) (a₁:α->Nat->Act)
  (hassign:∀ (l:Nat) (x:α) (W:World) (m:Nat) (K:Act->World->Prop),W.heap.size=m->K (a₁ x m) (W.alloc (.cells (cs x) T))->
   assign.wpIn (Fence.wide.inRound l) 9 P (Exit.then K (fun _ _ _=>False)) { tmps:=(ps.zip (encs x)).foldl (fun t (p,v)=>t.setIfInBounds p v) a.tmps,defers:=[] } W)
  (hbody:∀ (l:Nat) (O:Nat->Prop) (pre:List α) (x:α) (rest:List α) (W:World) (m:Nat),xs=pre++x :: rest->Td O₀ w W->Sub O O₀ w.heap.size->I O pre W->W.heap[m]? = some (.cells (cs x) T)->¬ O m->w.heap.size<=m->
   body.wpIn (Fence.wide.inRound l) 9 P (h0Z I Ix O (pre++[x]) W) (a₁ x m) W)
  (hdone:∀ (D:Nat) (O:Nat->Prop) (W:World),w.heap.size<=D->¬ O D->Td O₀ w W->Sub O O₀ w.heap.size->I O xs W->W.heap[D]? = some (.deferred (some []))->
   Q .normal { a with defers:={ target:=.collected D,args:=#[] } :: a.defers } W)
  (hstop:∀ (D:Nat) (O:Nat->Prop) (c:Code) (pre rest:List α) (W:World),w.heap.size<=D->¬ O D->Td O₀ w W->Sub O O₀ w.heap.size->xs=pre++rest->Ix c O pre W->W.heap[D]? = some (.deferred (some []))->
   c.wpIn Fence.wide n P Q { a with defers:={ target:=.collected D,args:=#[] } :: a.defers } W) :
  (Code.rangeFunc g ps assign body).wpIn Fence.wide n P Q a w:=by
 refine wpIn_rangeFunc ?_;intro fn hfn;obtain ⟨rec,hrec⟩:∃ rec:LoopState->Option Code->Loop,rec=fun st pe=>{ state:=st,pending:=pe,fn,tmps:=a.tmps,params:=ps,assign,body,defers:=w.heap.size }:=⟨_,rfl⟩;obtain ⟨D,hD⟩:∃ D,w.heap.size=D:=⟨_,rfl⟩;obtain ⟨W1,hW1⟩:∃ W1,(w.alloc (.deferred (some []))).alloc (.loop (rec .ready none))=W1:=⟨_,rfl⟩;have t1:Td (fun _=>False) w W1:=by
  rw [<- hW1];exact (Td.alloc _ w _).trans (Td.alloc _ _ _) (fun _ h=>h) (fun _ _ h=>h)
 have z1:W1.heap.size=D+2:=by rw [<- hW1,World.size_alloc,World.size_alloc,hD]
 have hl1:W1.heap[D+1]? = some (.loop (rec .ready none)):=by
  rw [<- hW1,<- hD]
  have:=World.alloc_heap_new (w.alloc (.deferred (some []))) (.loop (rec .ready none))
  rwa [World.size_alloc] at this
 have hd1:W1.heap[D]? = some (.deferred (some [])):=by
  rw [<- hW1,<- hD];exact (Below.heap_alloc _ _ _ (by simp)).trans (World.alloc_heap_new w _)
 have w0:∀ k,O₀ k->k < D:=fun k hk=>by rw [<- hD];exact hI.within O₀ [] w h0 k hk
 have hi1:I O₀ [] W1:=hI.abides O₀ [] w W1 h0 (t1.mono fun _ _ h=>h.elim);have back:∀ {OO:Nat->Prop} {A:World},Td OO W1 A->(∀ k,OO k↔With O₀ D k)->Td O₀ w A:=fun {OO A} h e=>
  t1.trans h (fun _ h=>h.elim) (fun i hi hk=>by
   rcases (e i).1 hk with hk | rfl | rfl
   ·exact hk
   ·omega
   ·omega)
 have e0:∀ k,With O₀ D k↔With O₀ D k:=fun _=>Iff.rfl;refine ⟨D+1,[{ target:=.collected D,args:=#[] }],W1,{ target:=.fn (.func gf) lb,args:=#[.func (.yield (D+1)) #[] #[]] },W1,gf,
  #[.func (.yield (D+1)) #[] #[]]++lb,W1,?_,?_,fun _ _=>trivial,?_,fun h=>by simp [Fence.wide] at h,?_⟩
 ·rw [<- hW1,<- hD,hrec];exact run_enterLoop_outer _ _ _ _ _
 ·simp only [resolve,hg];simp [go_sem]
 ·simp [invoke,go_sem,eg]
 ·have hc:=hit W1 t1 (D+1) (With O₀ D) (j0G I D (.loop (rec .ready none))) (fun OO pre W=>∃ c,j0G (Ix c) D (.loop (rec .done (some c))) OO pre W)
   (fun k hk hO=>by
    obtain ⟨hk1,hk2⟩:=hR k hk;rcases hO with hO | rfl | rfl
    ·exact hk2 hO
    ·omega
    ·omega)
   (j0G.good hI D _) (Good.ex fun c=>j0G.good (hIx c) D _) ?_ ⟨O₀,e0,fun h=>by have:=w0 _ h;omega,fun h=>by have:=w0 _ h;omega,hi1,hl1,hd1⟩
  ·refine callsIn_wide.2 (hc.mono ?_);rintro e W2 ⟨⟨v,rfl⟩,OO,hsub,ht,hJ⟩;have tb:=back ht e0;rcases hJ with ⟨O,e,n1,n2,hi,hl,hd⟩ | ⟨pre,rest,hx,c,O,e,n1,n2,hi,hl,hd⟩
   ·obtain ⟨o,hr⟩:∃ o,(Instr.endLoop (D+1)).run P W2=.ok none (W2.putObj (D+1) o):=⟨_,by have:=run_endLoop (P:=P) hl (by rw [hrec];simp);rw [hrec] at this;exact this⟩;have hput:Td (fun k=>k=D+1) W2 (W2.putObj (D+1) o):=Td.putObj _ _ _ rfl;refine ⟨none,_,hr,?_⟩;refine hdone D O _ (by omega) n1 (tb.trans hput (fun _ h=>h) (fun i hi h=>by omega)) ?_ (hI.abides O xs W2 _ hi (hput.mono fun k _ hk hO=>n2 (by rw [<- hk];exact hO))) ((World.putObj_heap_other (by omega)).trans hd);intro k hk;rcases hsub k ((e k).2 (.inl hk)) with (h | rfl | rfl) | h
    ·exact .inl h
    ·exact (n1 hk).elim
    ·exact (n2 hk).elim
    ·exact .inr (by omega)
   ·obtain ⟨o,hr⟩:∃ o,(Instr.endLoop (D+1)).run P W2=.ok (some c) (W2.putObj (D+1) o):=⟨_,by have:=run_endLoop (P:=P) hl (by rw [hrec];simp);rw [hrec] at this;exact this⟩;have hput:Td (fun k=>k=D+1) W2 (W2.putObj (D+1) o):=Td.putObj _ _ _ rfl;refine ⟨some c,_,hr,?_⟩;refine hstop D O c pre rest _ (by omega) n1 (tb.trans hput (fun _ h=>h) (fun i hi h=>by omega)) ?_ hx ((hIx c).abides O pre W2 _ hi (hput.mono fun k _ hk hO=>n2 (by rw [<- hk];exact hO))) ((World.putObj_heap_other (by omega)).trans hd);intro k hk;rcases hsub k ((e k).2 (.inl hk)) with (h | rfl | rfl) | h
    ·exact .inl h
    ·exact (n1 hk).elim
    ·exact (n2 hk).elim
    ·exact .inr (by omega)
  ·-- one round
   rintro OO pre x rest A hx tA hsA ⟨O,e,n1,n2,hi,hl,hd⟩;have hlt:D+1 < A.heap.size:=(Array.getElem?_eq_some_iff.1 hl).1;have tb:=back tA e0;have sO:Sub O O₀ w.heap.size:=fun k hk=>by
    rcases hsA k ((e k).2 (.inl hk)) with (h | rfl | rfl) | h
    ·exact .inl h
    ·exact (n1 hk).elim
    ·exact (n2 hk).elim
    ·exact .inr (by omega)
   have hy:=run_yield (P:=P) (args:=encs x) hl (by rw [hrec];exact hps x);rw [hrec] at hy;have hlA:(A.alloc (.cells (cs x) T)).heap[D+1]? = some (.loop (rec .ready none)):=(Below.heap_alloc A _ _ hlt).trans hl;refine ⟨fn,_,assign,body,hy,roundIn_of_wpIn hfn (hassign _ x A _ _ rfl ⟨_,run_beginRound hlA (by rw [hrec]),?_⟩)⟩;clear hy;obtain ⟨A1,hA1⟩:∃ A1,(A.alloc (.cells (cs x) T)).putObj (D+1) (.loop { rec .ready none with state:=.busy })=A1:=⟨_,rfl⟩;rw [hA1];have hput:Td (fun k=>k=D+1) A A1:=by rw [<- hA1];exact (Td.alloc (fun _=>False) A _).trans (Td.putObj (R:=fun k=>k=D+1) _ _ _ rfl) (fun _ h=>h.elim) (fun _ _ h=>h)
   have hl2:A1.heap[D+1]? = some (.loop { rec .ready none with state:=.busy }):=by rw [<- hA1];exact World.putObj_heap_same (by rw [World.size_alloc];omega)
   have hd2:A1.heap[D]? = some (.deferred (some [])):=by rw [<- hA1];exact (World.putObj_heap_other (by omega)).trans ((Below.heap_alloc A _ _ (by omega)).trans hd)
   have zA:A1.heap.size=A.heap.size+1:=by rw [<- hA1];simp
   have hm1:A1.heap[A.heap.size]? = some (.cells (cs x) T):=by rw [<- hA1];exact (World.putObj_heap_other (by omega)).trans (World.alloc_heap_new A _)
   have nOA:¬ O A.heap.size:=fun h=>by have:=hI.within _ _ _ hi _ h;omega
   have zwA:=tb.size;have hi2:I O pre A1:=hI.abides O pre A A1 hi (hput.mono fun k _ hk hO=>n2 (by rw [<- hk];exact hO));have fin:∀ (jump:Option Code) (B:World),Td O A1 B->
     (Instr.endRound (D+1) jump).run P B=.ok (.bool jump.isNone) (B.putObj (D+1) (.loop (rec (if jump.isNone then .ready else .done) jump)))/\
     (B.putObj (D+1) (.loop (rec (if jump.isNone then .ready else .done) jump))).heap[D+1]? = some (.loop (rec (if jump.isNone then .ready else .done) jump))/\
     (B.putObj (D+1) (.loop (rec (if jump.isNone then .ready else .done) jump))).heap[D]? = some (.deferred (some []))/\
     Td OO A (B.putObj (D+1) (.loop (rec (if jump.isNone then .ready else .done) jump))):=fun jump B tB=>by
    have hl3:=tB.heap hl2 n2;have hd3:=tB.heap hd2 n1;have hr:=run_endRound (P:=P) jump hl3;rw [hrec] at hr ⊢;refine ⟨hr,World.putObj_heap_same (Array.getElem?_eq_some_iff.1 hl3).1,(World.putObj_heap_other (by omega)).trans hd3,?_⟩;refine (hput.trans (tB.trans (Td.putObj (R:=fun k=>k=D+1) B (D+1) _ rfl) (R'':=OO) (fun k hk=>(e k).2 (.inl hk)) (fun k _ hk=>(e k).2 (.inr (.inr hk)))) (fun k hk=>(e k).2 (.inr (.inr hk))) (fun _ _ h=>h))
   have fol:∀ {O':Nat->Prop} {J':Inv α} {o:Obj} {B:World} {ys:List α},Good J'->Sub O' O A1.heap.size->Td O A1 B->J' O' ys B->(∀ k,O' k->k < B.heap.size)->
     (B.putObj (D+1) o).heap[D+1]? = some o->(B.putObj (D+1) o).heap[D]? = some (.deferred (some []))->Sub (With O' D) OO A.heap.size/\j0G J' D o (With O' D) ys (B.putObj (D+1) o):=fun {O' J' o B ys} gJ s' tB hj wi q1 q2=>by
    have m1:¬ O' D:=fun h=>(s' D h).elim n1 (fun h'=>by omega);have m2:¬ O' (D+1):=fun h=>(s' (D+1) h).elim n2 (fun h'=>by omega);refine ⟨fun k hk=>?_,O',fun _=>Iff.rfl,m1,m2,gJ.abides O' ys B _ hj ((Td.putObj (R:=fun k=>k=D+1) B (D+1) o rfl).mono fun k _ hk hO=>m2 (by rw [<- hk];exact hO)),q1,q2⟩;rcases hk with hk | rfl | rfl
    ·exact (s' k hk).imp (fun h=>(e k).2 (.inl h)) (fun h=>by omega)
    ·exact .inl ((e _).2 (.inr (.inl rfl)))
    ·exact .inl ((e _).2 (.inr (.inr rfl)))
   refine wpIn_mono (hbody _ O pre x rest A1 A.heap.size hx (tb.trans hput (fun _ h=>h) (fun i hi h=>by omega)) sO hi2 hm1 nOA zwA) ?_;rintro ex a3 B hp;cases ex with
   | normal=>
    obtain ⟨O',s',tB,hj⟩:=hp;obtain ⟨hr,q1,q2,q3⟩:=fin none B tB;obtain ⟨f1,f2⟩:=fol hI s' tB hj (hI.within _ _ _ hj) q1 q2;exact ⟨_,_,hr,With O' D,f1,q3,.inl ⟨rfl,f2⟩⟩
   | ret=>
    obtain ⟨O',s',tB,hj⟩:=hp;obtain ⟨hr,q1,q2,q3⟩:=fin (some .ret) B tB;obtain ⟨f1,f2⟩:=fol (hIx _) s' tB hj ((hIx _).within _ _ _ hj) q1 q2;exact ⟨_,_,hr,With O' D,f1,q3,.inr ⟨rfl,_,f2⟩⟩
   | exit id=>
    obtain ⟨O',s',tB,hj⟩:=hp;obtain ⟨hr,q1,q2,q3⟩:=fin (some (.exit id)) B tB;obtain ⟨f1,f2⟩:=fol (hIx _) s' tB hj ((hIx _).within _ _ _ hj) q1 q2;exact ⟨_,_,hr,With O' D,f1,q3,.inr ⟨rfl,_,f2⟩⟩
   | goto t=>
    obtain ⟨O',s',tB,hj⟩:=hp;obtain ⟨hr,q1,q2,q3⟩:=fin (some (.goto t)) B tB;obtain ⟨f1,f2⟩:=fol (hIx _) s' tB hj ((hIx _).within _ _ _ hj) q1 q2;exact ⟨_,_,hr,With O' D,f1,q3,.inr ⟨rfl,_,f2⟩⟩
   | panic ch=>exact hp.elim
   | outgrown=>exact hp.elim
theorem h0F {P:Program} {α:Type} {g:Operand} {ps:Array Tmp} {assign body:Code} {Q:Exit->Act->World->Prop} {a:Act} {w:World}
  {gf:Nat} {lb:Array Value} (hg:a.eval g=.func (.func gf) #[] lb) (eg:∀ args w,(callFunc gf args).run P w=.ok (.enter gf args) w)
  {encs:α->Array Value} {xs:List α} {R:Nat->Prop} (hit:∀ W,Td (fun _=>False) w W->Iter P gf lb encs xs R W) (hps:∀ x,(encs x).size=ps.size)
  (O₀:Nat->Prop) (I:Inv α) (Ix:Code->Inv α) (hR:∀ k,R k->k < w.heap.size/\¬ O₀ k) (hI:Good I) (hIx:∀ c,Good (Ix c)) (h0:I O₀ [] w) (cs:α->Array Value) (T:TypeId)
  (hab:∃ a₁:α->Nat->Act,(∀ (l:Nat) (x:α) (W:World) (m:Nat) (K:Act->World->Prop),W.heap.size=m->K (a₁ x m) (W.alloc (.cells (cs x) T))->
    assign.wpIn (Fence.wide.inRound l) 9 P (Exit.then K (fun _ _ _=>False)) { tmps:=(ps.zip (encs x)).foldl (fun t (p,v)=>t.setIfInBounds p v) a.tmps,defers:=[] } W)/\
   (∀ (l:Nat) (O:Nat->Prop) (pre:List α) (x:α) (rest:List α) (W:World) (m:Nat),xs=pre++x :: rest->Td O₀ w W->Sub O O₀ w.heap.size->I O pre W->W.heap[m]? = some (.cells (cs x) T)->¬ O m->w.heap.size<=m->
    body.wpIn (Fence.wide.inRound l) 9 P (h0Z I Ix O (pre++[x]) W) (a₁ x m) W))
  (hdone:∀ (D:Nat) (O:Nat->Prop) (W:World),w.heap.size<=D->¬ O D->Td O₀ w W->Sub O O₀ w.heap.size->I O xs W->W.heap[D]? = some (.deferred (some []))->
   Q .normal { a with defers:={ target:=.collected D,args:=#[] } :: a.defers } W)
  (hstop:∀ (D:Nat) (O:Nat->Prop) (c:Code) (pre rest:List α) (W:World),w.heap.size<=D->¬ O D->Td O₀ w W->Sub O O₀ w.heap.size->xs=pre++rest->Ix c O pre W->W.heap[D]? = some (.deferred (some []))->
   c.wp P Q { a with defers:={ target:=.collected D,args:=#[] } :: a.defers } W) :
  (Code.rangeFunc g ps assign body).wp P Q a w:=by
 obtain ⟨a₁,h1,h2⟩:=hab;exact (wpIn_wide (n:=9)).1 (t0C hg eg hit hps O₀ I Ix hR hI hIx h0 cs T a₁ h1 h2 hdone (fun D O c pre rest W q1 q2 q3 q4 q5 q6 q7=>wpIn_wide.2 (hstop D O c pre rest W q1 q2 q3 q4 q5 q6 q7)))
end
section
open Go.Shelf
end
namespace Pt
open Go
def gapZ (a b:Int):Int:=if b < a then 0 else b - a
def shareZ (p w n:Int):Int:=if 1<=w/\1<=n/\n<=65536 then min p w * n / w else 0
def sqN:Nat->Nat
 | 0=>0
 | n+1=>if (sqN n+1) * (sqN n+1)<=n+1 then sqN n+1 else sqN n
def b0H (n:Int):Int:=(sqN n.toNat:Int)
theorem m0X (n:Nat):sqN n * sqN n<=n/\n < (sqN n+1) * (sqN n+1):=by
 induction n with
 | zero=>simp [sqN]
 | succ n ih=>
  obtain ⟨h1,h2⟩:=ih;unfold sqN
  split
  ·rename_i h;refine ⟨h,?_⟩;generalize sqN n=r at h1 h2 h;have e:(r+1+1) * (r+1+1)=(r+1) * (r+1)+2 * r+3:=by
    simp only [Nat.mul_add,Nat.add_mul];omega
   omega
  ·rename_i h;exact ⟨by omega,by omega⟩
theorem g0W {a b:Int} (ha:0<=a) (h:a<=b):a * a<=b * b:=by
 have h1:a * a<=a * b:=Int.mul_le_mul_of_nonneg_left h ha;have h2:a * b<=b * b:=Int.mul_le_mul_of_nonneg_right h (by omega);omega
theorem c0Z {a b:Int} (hb:0<=b) (h:a * a < b * b):a < b:=by
 rcases Int.lt_or_le a b with g | g
 ·exact g
 ·have:=g0W hb g
  omega
theorem f0T {n:Int} (h:0<=n):0<=b0H n/\b0H n * b0H n<=n/\n < (b0H n+1) * (b0H n+1):=by
 obtain ⟨h1,h2⟩:=m0X n.toNat;unfold b0H;refine ⟨by omega,?_,?_⟩
 ·rw [<- Int.natCast_mul];omega
 ·have e:((sqN n.toNat:Int)+1) * ((sqN n.toNat:Int)+1)=(((sqN n.toNat+1) * (sqN n.toNat+1):Nat):Int):=by
   rw [Int.natCast_mul,Int.natCast_add];rfl
  rw [e];omega
theorem k0B {n r:Int} (hr:0<=r) (h1:r * r<=n) (h2:n < (r+1) * (r+1)):b0H n=r:=by
 have hn:0<=n:=Int.le_trans (Int.mul_nonneg hr hr) h1;obtain ⟨g0,g1,g2⟩:=f0T hn;have a1:=c0Z (a:=r) (b:=b0H n+1) (by omega) (by omega);have a2:=c0Z (a:=b0H n) (b:=r+1) (by omega) (by omega);omega
theorem o0C {n:Int} (h:n < 1):b0H n=0:=by
 have e:n.toNat=0:=by omega
 unfold b0H;rw [e];rfl
theorem le_quo {n t:Int} (ht:0 < t):t<=n / t↔t * t<=n:=Int.le_ediv_iff_mul_le ht
end Pt
namespace Pt
open Go.ChangeShapes Go.WideShapes Go.ChangeAt Go.RowKit
theorem wrap_same {a:Int} (h:-9223372036854775808<=a) (h':a<=9223372036854775807):wrap64 a=a:=by
 unfold wrap64;omega
theorem gh {p:Prop} (h:p):Hid p:=h
theorem d0Z (k:Nat):(2:Int) ^ k=((2 ^ k:Nat):Int):=by rw [Int.natCast_pow];rfl
theorem r0G {k:Nat} (h:k<=62):wrap64 ((2:Int) ^ k)=((2 ^ k:Nat):Int):=by
 have h1:2 ^ k<=2 ^ 62:=Nat.pow_le_pow_right (by omega) h;have h0:1<=2 ^ k:=Nat.one_le_two_pow;rw [d0Z,wrap_same (by omega) (by omega)]
theorem u0E {k:IntKind} {a b:Int} (h:a=b):Ending.returned (.int k a)=.returned (.int k b):=by rw [h]
end Pt
namespace Pt
open Go
def degZ (n:Int):Int:=if 2<=n/\n<=16384 then max 2 (b0H n) else 0
def a0T (n:Int):Int:=n / degZ n
def b0I (n:Int):Int:=n % degZ n
def sizeZ (n i:Int):Int:=if 0<=i/\i < degZ n then (if i < b0I n then a0T n+1 else a0T n) else 0
def aheadZ (n i:Int):Int:=i * a0T n+min i (b0I n)
def fromZ (n i:Int):Int:=if 0<=i/\i < degZ n then aheadZ n i else 0
def limZ (n:Int):Int:=if 0<=n/\n<=16384 then n / 4+2 else 0
def celF:Nat->Int->Int
 | 0,n=>if n=0 then 1 else 0
 | f+1,n=>if n < 0∨16384 < n then 0 else if n < 2 then n+1 else
   4+degZ n * 2+(degZ n - b0I n) * celF f (a0T n)+b0I n * celF f (a0T n+1)
def celZ (n:Int):Int:=celF n.toNat n
theorem j0R {n:Int} (h:n < 2∨16384 < n):degZ n=0:=by
 unfold degZ;rw [if_neg (by omega)]
theorem n0P {n:Int} (h:2<=n) (h':n<=16384):degZ n=max 2 (b0H n):=by
 unfold degZ;rw [if_pos ⟨h,h'⟩]
theorem i0J {n:Int} (h:2<=n) (h':n<=16384):1<=b0H n/\b0H n<=128/\b0H n < n:=by
 obtain ⟨g0,g1,g2⟩:=f0T (n:=n) (by omega);have a:=c0Z (a:=b0H n) (b:=129) (by omega) (by omega);have b:1<=b0H n:=by
  rcases Int.lt_or_le (b0H n) 1 with k | k
  ·have e:b0H n=0:=by omega
   rw [e] at g2;omega
  ·exact k
 refine ⟨b,by omega,?_⟩;rcases Int.lt_or_le (b0H n) 2 with k | k
 ·omega
 ·have c:b0H n * 2<=b0H n * b0H n:=Int.mul_le_mul_of_nonneg_left k (by omega);omega
theorem deg_bound {n:Int} (h:2<=n) (h':n<=16384):2<=degZ n/\degZ n<=128/\degZ n<=n:=by
 have:=i0J h h'
 rw [n0P h h'];omega
theorem deg_nat (n:Int):0<=degZ n/\degZ n<=128:=by
 by_cases c:2<=n/\n<=16384
 ·have:=deg_bound c.1 c.2;omega
 ·rw [j0R (by omega)];omega
theorem deg_pos {n:Int} (h:0 < degZ n):2<=n/\n<=16384:=by
 by_cases c:2<=n/\n<=16384
 ·exact c
 ·rw [j0R (by omega)] at h;omega
theorem c0V {n:Int} (h:0 < degZ n):degZ n * a0T n+b0I n=n/\0<=b0I n/\b0I n < degZ n:=by
 unfold a0T b0I;have a:=Int.mul_ediv_add_emod n (degZ n);have b:=Int.emod_nonneg n (show degZ n≠0 by omega);have c:=Int.emod_lt_of_pos n h;omega
theorem d0L {n:Int} (h:0 < degZ n):1<=a0T n/\a0T n < n/\a0T n<=8192/\(0 < b0I n->a0T n+1 < n):=by
 obtain ⟨h1,h2⟩:=deg_pos h;obtain ⟨d1,d2,d3⟩:=deg_bound h1 h2;obtain ⟨s1,s2,s3⟩:=c0V h;have a:1<=a0T n:=by
  unfold a0T;exact (Int.le_ediv_iff_mul_le h).mpr (by omega)
 have b:2 * a0T n<=degZ n * a0T n:=Int.mul_le_mul_of_nonneg_right d1 (by omega);omega
theorem size_none {n i:Int} (h:i < 0∨degZ n<=i):sizeZ n i=0:=by
 unfold sizeZ;rw [if_neg (by omega)]
theorem o0A {n i:Int} (h0:0<=i) (h1:i < degZ n) (h:i < b0I n):sizeZ n i=a0T n+1:=by
 unfold sizeZ;rw [if_pos ⟨h0,h1⟩,if_pos h]
theorem o0B {n i:Int} (h0:0<=i) (h1:i < degZ n) (h:b0I n<=i):sizeZ n i=a0T n:=by
 unfold sizeZ;rw [if_pos ⟨h0,h1⟩,if_neg (by omega)]
theorem i0F {n i:Int} (h0:0<=i) (h1:i < degZ n):(i < b0I n/\sizeZ n i=a0T n+1)∨(b0I n<=i/\sizeZ n i=a0T n):=by
 rcases Int.lt_or_le i (b0I n) with k | k
 ·exact Or.inl ⟨k,o0A h0 h1 k⟩
 ·exact Or.inr ⟨k,o0B h0 h1 k⟩
theorem size_bound {n i:Int} (h0:0<=i) (h1:i < degZ n):1<=sizeZ n i/\sizeZ n i < n:=by
 obtain ⟨e1,e2,e3,e4⟩:=d0L (n:=n) (by omega);rcases i0F h0 h1 with ⟨k,e⟩ | ⟨k,e⟩ <;> rw [e]
 ·have:=e4 (by omega);omega
 ·omega
theorem ahead_zero {n:Int} (h:0 < degZ n):aheadZ n 0=0:=by
 have:=c0V h
 unfold aheadZ;omega
theorem ahead_step {n i:Int} (h0:0<=i) (h1:i < degZ n):aheadZ n (i+1)=aheadZ n i+sizeZ n i:=by
 have e:(i+1) * a0T n=i * a0T n+a0T n:=by rw [Int.add_mul,Int.one_mul]
 unfold aheadZ;rw [e];rcases i0F h0 h1 with ⟨k,e⟩ | ⟨k,e⟩ <;> rw [e] <;> omega
theorem ahead_end {n:Int} (h:0 < degZ n):aheadZ n (degZ n)=n:=by
 obtain ⟨s1,s2,s3⟩:=c0V h;unfold aheadZ;omega
theorem ahead_bound {n i:Int} (h0:0<=i) (h1:i<=degZ n) (h:0 < degZ n):0<=i * a0T n/\i * a0T n<=16384/\0<=aheadZ n i/\aheadZ n i<=16384:=by
 obtain ⟨s1,s2,s3⟩:=c0V h;have d:=deg_pos h;obtain ⟨e1,e2,e3,e4⟩:=d0L h;have a:0<=i * a0T n:=Int.mul_nonneg h0 (by omega);have b:i * a0T n<=degZ n * a0T n:=Int.mul_le_mul_of_nonneg_right h1 (by omega);unfold aheadZ;omega
theorem from_none {n i:Int} (h:i < 0∨degZ n<=i):fromZ n i=0:=by
 unfold fromZ;rw [if_neg (by omega)]
theorem from_some {n i:Int} (h0:0<=i) (h1:i < degZ n):fromZ n i=aheadZ n i:=by
 unfold fromZ;rw [if_pos ⟨h0,h1⟩]
theorem p0J (f:Nat):∀ n:Int,n.toNat<=f->celF f n=celF n.toNat n:=by
 induction f using Nat.strongRecOn with
 | _ f ih=>
  intro n hn;have key:∀ g:Nat,n.toNat<=g->(∀ m:Int,m.toNat < n.toNat->celF (g - 1) m=celZ m)->celF g n=if n < 0∨16384 < n then 0 else if n < 2 then n+1 else
   4+degZ n * 2+(degZ n - b0I n) * celZ (a0T n)+(if b0I n=0 then 0 else b0I n * celZ (a0T n+1)):=by
   intro g hg hm;cases g with
   | zero=>
    unfold celF
    by_cases c:n=0
    ·rw [if_pos c,if_neg (by omega),if_pos (by omega),c];rfl
    ·rw [if_neg c,if_pos (by omega)]
   | succ g=>
    unfold celF
    by_cases c:n < 0∨16384 < n
    ·rw [if_pos c,if_pos c]
    ·by_cases c2:n < 2
     ·rw [if_neg c,if_neg c,if_pos c2,if_pos c2]
     ·rw [if_neg c,if_neg c,if_neg c2,if_neg c2];have d:=deg_bound (n:=n) (by omega) (by omega);obtain ⟨e1,e2,e3,e4⟩:=d0L (n:=n) (by omega);have m1:=hm (a0T n) (by omega);simp only [Nat.add_sub_cancel] at m1;rw [m1]
      by_cases c3:b0I n=0
      ·rw [if_pos c3,c3,Int.zero_mul]
      ·have s:=c0V (n:=n) (by omega)
       have:=e4 (by omega)
       have m2:=hm (a0T n+1) (by omega);simp only [Nat.add_sub_cancel] at m2;rw [if_neg c3,m2]
  rcases Nat.lt_or_ge n.toNat f with k | k
  ·rw [key f hn (fun m hm=>ih (f - 1) (by omega) m (by omega)),key n.toNat (Nat.le_refl _) (fun m hm=>ih (n.toNat - 1) (by omega) m (by omega))]
  ·have:n.toNat=f:=by omega
   rw [this]
theorem h0X {n:Int} (h:n < 0∨16384 < n):celZ n=0:=by
 unfold celZ;cases k:n.toNat with
 | zero=>unfold celF;rw [if_neg (by omega)]
 | succ f=>unfold celF;rw [if_pos h]
theorem cel_few {n:Int} (h:0<=n) (h':n < 2):celZ n=n+1:=by
 unfold celZ;cases k:n.toNat with
 | zero=>unfold celF;rw [if_pos (by omega)];omega
 | succ f=>unfold celF;rw [if_neg (by omega),if_pos (by omega)]
theorem s0B {n:Int} (h:0 < degZ n):celZ n=4+degZ n * 2+(degZ n - b0I n) * celZ (a0T n)+b0I n * celZ (a0T n+1):=by
 have p:=deg_pos h;obtain ⟨e1,e2,e3,e4⟩:=d0L h;obtain ⟨f,hf⟩:∃ f,n.toNat=f+1:=⟨n.toNat - 1,by omega⟩;have e:celZ n=celF (f+1) n:=by unfold celZ;rw [hf]
 rw [e];unfold celF;rw [if_neg (by omega),if_neg (by omega),p0J f _ (by omega),show celF (a0T n).toNat (a0T n)=celZ (a0T n) from rfl]
 by_cases c3:b0I n=0
 ·rw [c3,Int.zero_mul,Int.zero_mul]
 ·have s:=c0V h
  have:=e4 (by omega)
  rw [p0J f _ (by omega)];rfl
theorem w0C {n:Int} (h:1<=n):0<=celZ n/\celZ n<=10 * n - 8:=by
 suffices H:∀ (f:Nat) (n:Int),1<=n->n.toNat<=f->0<=celZ n/\celZ n<=10 * n - 8 from H n.toNat n h (Nat.le_refl _)
 intro f
 induction f with
 | zero=>intro n h hn;omega
 | succ f ih=>
  intro n h hn
  by_cases c:16384 < n
  ·rw [h0X (Or.inr c)];omega
  ·by_cases c2:n < 2
   ·rw [cel_few (by omega) c2];omega
   ·have d:=deg_bound (n:=n) (by omega) (by omega);obtain ⟨e1,e2,e3,e4⟩:=d0L (n:=n) (by omega);obtain ⟨s1,s2,s3⟩:=c0V (n:=n) (by omega);have i1:=ih (a0T n) (by omega) (by omega);have a1:0<=(degZ n - b0I n) * celZ (a0T n):=Int.mul_nonneg (by omega) (by omega);have a2:(degZ n - b0I n) * celZ (a0T n)<=(degZ n - b0I n) * (10 * a0T n - 8):=Int.mul_le_mul_of_nonneg_left (by omega) (by omega);have a3:0<=b0I n * celZ (a0T n+1)/\b0I n * celZ (a0T n+1)<=b0I n * (10 * (a0T n+1) - 8):=by
     by_cases c3:b0I n=0
     ·rw [c3,Int.zero_mul,Int.zero_mul];omega
     ·have:=e4 (by omega)
      have i2:=ih (a0T n+1) (by omega) (by omega);exact ⟨Int.mul_nonneg (by omega) (by omega),Int.mul_le_mul_of_nonneg_left (by omega) (by omega)⟩
    have a4:(degZ n - b0I n) * (10 * a0T n - 8)=10 * (degZ n * a0T n) - 8 * degZ n - 10 * (b0I n * a0T n)+8 * b0I n:=by
     simp only [Int.sub_mul,Int.mul_sub,Int.mul_left_comm _ (10:Int)];omega
    have a5:b0I n * (10 * (a0T n+1) - 8)=10 * (b0I n * a0T n)+2 * b0I n:=by
     have:10 * (a0T n+1) - 8=10 * a0T n+2:=by omega
     rw [this,Int.mul_add,Int.mul_left_comm];omega
    rw [s0B (by omega)];omega
theorem cel_nat (n:Int):0<=celZ n/\celZ n<=163832:=by
 by_cases c:n < 0∨16384 < n
 ·rw [h0X c];omega
 ·by_cases c2:n < 2
  ·rw [cel_few (by omega) c2];omega
  ·have:=w0C (n:=n) (by omega);omega
def csZ (n i:Int):Int:=if i<=b0I n then i * celZ (a0T n+1) else b0I n * celZ (a0T n+1)+(i - b0I n) * celZ (a0T n)
theorem cs_zero {n:Int} (h:0 < degZ n):csZ n 0=0:=by
 have:=c0V h
 unfold csZ;rw [if_pos (by omega),Int.zero_mul]
theorem cs_step {n i:Int} (h0:0<=i) (h1:i < degZ n):csZ n (i+1)=csZ n i+celZ (sizeZ n i):=by
 unfold csZ;rcases i0F h0 h1 with ⟨k,e⟩ | ⟨k,e⟩
 ·rw [if_pos (by omega),if_pos (by omega),e,Int.add_mul,Int.one_mul]
 ·rw [if_neg (by omega),e]
  by_cases g:i<=b0I n
  ·have:i=b0I n:=by omega
   have e2:i+1 - b0I n=1:=by omega
   rw [if_pos g,e2,Int.one_mul,this]
  ·have e2:i+1 - b0I n=(i - b0I n)+1:=by omega
   rw [if_neg g,e2,Int.add_mul,Int.one_mul];omega
theorem cs_end {n:Int} (h:0 < degZ n):celZ n=4+degZ n * 2+csZ n (degZ n):=by
 have:=c0V h
 unfold csZ;rw [if_neg (by omega),s0B h];omega
theorem cs_nat {n i:Int} (h:0 < degZ n) (h0:0<=i) (h1:i<=degZ n):0<=csZ n i/\csZ n i<=41940992:=by
 have k0:=cel_nat (a0T n);have k1:=cel_nat (a0T n+1);have d:=deg_nat n;have m:=c0V h;unfold csZ
 split
 ·have a:0<=i * celZ (a0T n+1):=Int.mul_nonneg h0 k1.1;have b:i * celZ (a0T n+1)<=128 * 163832:=Int.mul_le_mul (by omega) k1.2 k1.1 (by omega);omega
 ·have a:0<=b0I n * celZ (a0T n+1):=Int.mul_nonneg (by omega) k1.1;have b:b0I n * celZ (a0T n+1)<=128 * 163832:=Int.mul_le_mul (by omega) k1.2 k1.1 (by omega);have a':0<=(i - b0I n) * celZ (a0T n):=Int.mul_nonneg (by omega) k0.1;have b':(i - b0I n) * celZ (a0T n)<=128 * 163832:=Int.mul_le_mul (by omega) k0.2 k0.1 (by omega);omega
end Pt
namespace Pt
open Go
theorem wide {n K:Int} (h:2<=n) (h':n<=16384) (hK:2<=K) (hn:n<=(K - 1) * K):n<=degZ n * K:=by
 obtain ⟨r1,r2,r3⟩:=i0J h h';obtain ⟨g0,g1,g2⟩:=f0T (n:=n) (by omega);obtain ⟨d1,d2,d3⟩:=deg_bound h h';have dr:b0H n<=degZ n:=by rw [n0P h h'];omega
 have a:b0H n * K<=degZ n * K:=Int.mul_le_mul_of_nonneg_right dr (by omega);rcases Int.lt_or_le (b0H n) (K - 1) with k | k
 ·have b:b0H n * (b0H n+2)<=b0H n * K:=Int.mul_le_mul_of_nonneg_left (by omega) (by omega);have c:(b0H n+1) * (b0H n+1)=b0H n * (b0H n+2)+1:=by
   simp only [Int.add_mul,Int.mul_add];omega
  omega
 ·have b:(K - 1) * K<=b0H n * K:=Int.mul_le_mul_of_nonneg_right (by omega) (by omega);omega
theorem cel_is_0:celZ 0=1:=rfl
end Pt
namespace Pt
open Go.ChangeShapes Go.WideShapes Go.ChangeAt Go.RowKit
theorem may_yes (n:Int) (h:0<=n) (h':n<=16384) (w:World) :
  Calls Tryz.prog 176 #[.int .i64 n] w fun e w'=>e=.returned (.bool true)/\w=w':=by
 go_enter Tryz.func176,Tryz.ntmps176;go_wp2;go_ret;exact ⟨rfl,rfl⟩
theorem may_no (n:Int) (h:n < 0∨16384 < n) (w:World) :
  Calls Tryz.prog 176 #[.int .i64 n] w fun e w'=>e=.returned (.bool false)/\w=w':=by
 rcases h with h | h
 ·go_enter Tryz.func176,Tryz.ntmps176;go_wp2;go_ret;exact ⟨rfl,rfl⟩
 ·go_enter Tryz.func176,Tryz.ntmps176;go_wp2;go_ret;exact ⟨congrArg (fun b=>Ending.returned (.bool b)) (decide_eq_false (by omega)),rfl⟩
theorem lim_c (n:Int) (hn:(Lit.int .i64 n).wf=true) (w:World) :
  Calls Tryz.prog 148 #[.int .i64 n] w fun e w'=>e=.returned (.int .i64 (limZ n))/\w=w':=by
 have hn':=bounds_i64 hn;clear hn
 by_cases c:n < 0∨16384 < n
 ·have hc:=may_no n c;have e:limZ n=0:=by unfold limZ;rw [if_neg (by omega)]
  rw [e];clear e;go_enter Tryz.func148,Tryz.ntmps148;go_wp2_with (go_at_call 176;refine (hc _).mono ?_;rintro e w' ⟨rfl,rfl⟩);go_ret;exact ⟨rfl,rfl⟩
 ·have hc:=may_yes n (by omega) (by omega);have e:limZ n=n / 4+2:=by unfold limZ;rw [if_pos (by omega)]
  rw [e];clear e;go_enter Tryz.func148,Tryz.ntmps148;go_wp2_with (go_at_call 176;refine (hc _).mono ?_;rintro e w' ⟨rfl,rfl⟩);go_ret;exact ⟨rfl,rfl⟩
theorem lim_r (n:Int) (hn:(Lit.int .i64 n).wf=true) (w:World) :
  Calls Tryz.prog 198 #[.int .i64 n] w fun e w'=>e=.returned (.int .i64 (limZ n))/\w=w':=by
 have hn':=bounds_i64 hn;clear hn
 by_cases c:n < 0
 ·have e:limZ n=0:=by unfold limZ;rw [if_neg (by omega)]
  rw [e];clear e;go_enter Tryz.func198,Tryz.ntmps198;go_wp2;go_ret;exact ⟨rfl,rfl⟩
 ·by_cases c2:16384 < n
  ·have e:limZ n=0:=by unfold limZ;rw [if_neg (by omega)]
   rw [e];clear e;go_enter Tryz.func198,Tryz.ntmps198;go_wp2;go_ret;exact ⟨rfl,rfl⟩
  ·have e:limZ n=n / 4+2:=by unfold limZ;rw [if_pos (by omega)]
   rw [e];clear e;go_enter Tryz.func198,Tryz.ntmps198;go_wp2;go_ret;exact ⟨rfl,rfl⟩
end Pt
section
open Go.Shelf
attribute [local go_sem] Oper.semAt_some
def g0X (s:Mst) (x:Int) (p:Int × Int):Bool:=(x == p.2) || (x == tgt s p.2)
def d0D (s:Mst) (x:Int):Bool:=b0A s && (b0K s (fuel s)).any (g0X s x)
def calmW (s:Mst) (x:Int):Bool:=if kd x=4 then false else if kd x=3 then (!(s.look (ad x+2) == 1) && decide (s.look (ad x+3) < Pt.limZ (s.look (ad x+1)))) else true
def i0Q (s:Mst) (p:Int × Int):Bool:=!(kd (s.look p.1) == 5) && calmW s p.2
def w0D (s:Mst):Bool:=b0A s && (b0K s (fuel s)).all (i0Q s)
theorem i0D {s:Mst} (ho:s.ok):∀ (f:Nat) (x:Int),∀ p ∈ a0L s f x,I64 p.2
 | 0,_,_,h=>by cases h
 | f+1,x,p,h=>by
  rw [a0Q,List.mem_flatMap] at h;obtain ⟨q,_,hq⟩:=h;rcases List.mem_cons.1 hq with rfl | hq
  ·exact ho.logic _
  ·exact i0D ho f _ p hq
theorem l0V {s:Mst} (ho:s.ok) (f:Nat):∀ p ∈ b0K s f,I64 p.2:=by
 intro p h;rcases List.mem_cons.1 h with rfl | h
 ·exact ho.logic _
 ·exact i0D ho f _ p h
theorem r0O (w:World) (b:Nat) (s:Mst) (x:Int) (r:Bool) (h:PM w b s) (ho:s.ok) (hx:I64 x) (e1:calmW s x=r) :
  Calls Tryz.prog 115 #[.pointer (some ⟨b,0,none⟩),.int .i64 x] w fun e w'=>e=.returned (.bool r)/\w=w':=by
 have H:=gh h;have HX:=gh hx;obtain ⟨k,hk⟩:∃ k,kd x=k:=⟨_,rfl⟩;obtain ⟨p,hp⟩:∃ p,ad x=p:=⟨_,rfl⟩;have kr:=a0U x;rw [hp] at kr;obtain ⟨p0,p1⟩:=kr;have HK:=gh hk;have HP:=gh hp;have e2:r=if k=4 then false else if k=3 then (!(s.look (p+2) == 1) && decide (s.look (p+3) < Pt.limZ (s.look (p+1)))) else true:=by rw [<- e1,calmW,hk,hp]
 by_cases k4:k=4
 ·have HR:Hid (r=false):=gh (by rw [e2,if_pos k4]);subst k4;clear h hx hk hp e1 e2;go_enter Tryz.func115,Tryz.ntmps115;go_wp2_with (fail);refine (ak_p _ x p HX.o HP.o).mono ?_;rintro e w' ⟨rfl,rfl⟩;go_wp2_with (fail);refine (kk_p _ x 4 HX.o HK.o).mono ?_;rintro e w' ⟨rfl,rfl⟩;go_wp2;go_ret;exact ⟨by rw [HR.o];rfl,rfl⟩
 by_cases k3:k=3
 ·obtain ⟨z1,hz1⟩:∃ z,s.look (p+1)=z:=⟨_,rfl⟩;obtain ⟨z2,hz2⟩:∃ z,s.look (p+2)=z:=⟨_,rfl⟩;obtain ⟨z3,hz3⟩:∃ z,s.look (p+3)=z:=⟨_,rfl⟩;obtain ⟨m,hm⟩:∃ m,Pt.limZ z1=m:=⟨_,rfl⟩;have HB1:Hid (I64 z1):=gh (by rw [<- hz1];exact ho.look _);have HZ1:=gh hz1;have HZ2:=gh hz2;have HZ3:=gh hz3;have HM:Hid (∀ W,Calls Tryz.prog 148 #[.int .i64 z1] W fun e w'=>e=.returned (.int .i64 m)/\W=w'):=gh (fun W=>by
   refine (Pt.lim_c z1 HB1.o.wf W).mono ?_;rw [<- hm];rintro e w' ⟨rfl,rfl⟩;exact ⟨rfl,rfl⟩)
  have E2:Hid (r=(!(z2 == 1) && decide (z3 < m))):=gh (by rw [e2,if_neg k4,if_pos k3,hz1,hz2,hz3,hm]);subst k3;clear h hx hk hp e1 e2 hz1 hz2 hz3 hm k4
  by_cases y2:z2=1
  ·subst y2;have HR:Hid (r=false):=gh (by rw [E2.o];rfl);go_enter Tryz.func115,Tryz.ntmps115;go_wp2_with (fail);refine (ak_p _ x p HX.o HP.o).mono ?_;rintro e w' ⟨rfl,rfl⟩;go_wp2_with (fail);refine (kk_p _ x 3 HX.o HK.o).mono ?_;rintro e w' ⟨rfl,rfl⟩;go_wp2_with (fail);refine (lk_p _ b s (p+1) z1 H.o HZ1.o).mono ?_;rintro e w' ⟨rfl,rfl⟩;go_wp2_with (fail);refine (HM.o _).mono ?_;rintro e w' ⟨rfl,rfl⟩;go_wp2_with (fail);refine (lk_p _ b s (p+2) 1 H.o HZ2.o).mono ?_;rintro e w' ⟨rfl,rfl⟩;go_wp2;go_ret;exact ⟨by rw [HR.o];rfl,rfl⟩
  ·have g1:(z2 == 1)=false:=by simp [y2]
   have g2:(z2 != 1)=true:=by simp [y2]
   clear y2
   by_cases y3:z3 < m
   ·have HR:Hid (r=true):=gh (by rw [E2.o,g1];simp [y3]);go_enter Tryz.func115,Tryz.ntmps115;go_wp2_with (fail);refine (ak_p _ x p HX.o HP.o).mono ?_;rintro e w' ⟨rfl,rfl⟩;go_wp2_with (fail);refine (kk_p _ x 3 HX.o HK.o).mono ?_;rintro e w' ⟨rfl,rfl⟩;go_wp2_with (fail);refine (lk_p _ b s (p+1) z1 H.o HZ1.o).mono ?_;rintro e w' ⟨rfl,rfl⟩;go_wp2_with (fail);refine (HM.o _).mono ?_;rintro e w' ⟨rfl,rfl⟩;go_wp2_with (fail);refine (lk_p _ b s (p+2) z2 H.o HZ2.o).mono ?_;rintro e w' ⟨rfl,rfl⟩;go_wp2_with (fail);refine (lk_p _ b s (p+3) z3 H.o HZ3.o).mono ?_;rintro e w' ⟨rfl,rfl⟩;go_wp2;go_ret;exact ⟨by rw [HR.o];rfl,rfl⟩
   ·have HR:Hid (r=false):=gh (by rw [E2.o,g1];simp [y3]);have y3':decide (z3 < m)=false:=by simp [y3]
    have y4:m<=z3:=by omega
    clear y3;go_enter Tryz.func115,Tryz.ntmps115;go_wp2_with (fail);refine (ak_p _ x p HX.o HP.o).mono ?_;rintro e w' ⟨rfl,rfl⟩;go_wp2_with (fail);refine (kk_p _ x 3 HX.o HK.o).mono ?_;rintro e w' ⟨rfl,rfl⟩;go_wp2_with (fail);refine (lk_p _ b s (p+1) z1 H.o HZ1.o).mono ?_;rintro e w' ⟨rfl,rfl⟩;go_wp2_with (fail);refine (HM.o _).mono ?_;rintro e w' ⟨rfl,rfl⟩;go_wp2_with (fail);refine (lk_p _ b s (p+2) z2 H.o HZ2.o).mono ?_;rintro e w' ⟨rfl,rfl⟩;go_wp2_with (fail);refine (lk_p _ b s (p+3) z3 H.o HZ3.o).mono ?_;rintro e w' ⟨rfl,rfl⟩;go_wp2;go_ret;exact ⟨by rw [HR.o];rfl,rfl⟩
 ·have HR:Hid (r=true):=gh (by rw [e2,if_neg k4,if_neg k3]);have g1:(k == 4)=false:=by simp [k4]
  have g2:(k == 3)=false:=by simp [k3]
  clear h hx hk hp e1 e2 k4 k3;go_enter Tryz.func115,Tryz.ntmps115;go_wp2_with (fail);refine (ak_p _ x p HX.o HP.o).mono ?_;rintro e w' ⟨rfl,rfl⟩;go_wp2_with (fail);refine (kk_p _ x k HX.o HK.o).mono ?_;rintro e w' ⟨rfl,rfl⟩;go_wp2;go_ret;exact ⟨by rw [HR.o];rfl,rfl⟩
set_option maxHeartbeats 2000000 in
theorem e0P (w:World) (b:Nat) (s:Mst) (x:Int) (h:PM w b s) (ho:s.ok) (hx:I64 x) (r:Bool) (e1:d0D s x=r) :
  Calls Tryz.prog 67 #[.pointer (some ⟨b,0,none⟩),.int .i64 x] w fun e w'=>e=.returned (.bool r)/\Kept w w':=by
 have H:=gh h;have HO:=gh ho;have HX:=gh hx;clear hx;obtain ⟨n,hn⟩:∃ n,w.heap.size=n:=⟨_,rfl⟩;obtain ⟨W1,hW1⟩:∃ W1,((w.alloc (.cells #[.pointer (some ⟨b,0,none⟩)] 23)).alloc (.cells #[.int .i64 x] 2)).alloc (.cells #[.bool false] 4)=W1:=⟨_,rfl⟩;have z1:W1.heap.size=n+3:=by rw [<- hW1];simp [hn]
 have t1:Kept w W1:=by
  rw [<- hW1];exact (((Kept.refl w).alloc _).alloc _).alloc _
 have bx:∀ (X:World) (T:TypeId) (v:Value) (m:Nat),X.heap.size=m->Boxed (X.alloc (.cells #[v] T)) m T v:=fun X T v m e=>by rw [<- e];exact Boxed.new X T v
 have bM:Boxed W1 n 23 (.pointer (some ⟨b,0,none⟩)):=by
  rw [<- hW1];exact ((bx w 23 _ n hn).alloc _).alloc _
 have bX:Boxed W1 (n+1) 2 (.int .i64 x):=by
  rw [<- hW1];exact (bx _ 2 _ (n+1) (by simp [hn])).alloc _
 have bR:Boxed W1 (n+2) 4 (.bool false):=by
  rw [<- hW1];exact bx _ 4 _ (n+2) (by simp [hn])
 have K1:=gh t1;have HN0:=gh hn;have Z1:=gh z1;obtain ⟨q,hq⟩:∃ q,b0A s=q:=⟨_,rfl⟩;have HQ:=gh hq;have BM:=gh bM;have BX:=gh bX;have BR:=gh bR;have c0:=bM.cell;have cR:=bR.cell;have fR:=bR.frozen;have HE:Hid (d0D s x=r):=gh e1;clear h ho e1 t1 bx bM bX bR hq z1;refine c0L Tryz.func67 rfl ?_;simp only [Tryz.ntmps67,List.size_toArray,List.length_cons,List.length_nil,Nat.reduceAdd,Nat.reduceSub,Array.replicate_succ,Array.replicate_zero,List.push_toArray,List.append_toArray,List.nil_append,List.cons_append];go_wp2_with (fail);clear hW1 hn;refine (i0E W1 b s (H.o.kept K1.o) HO.o q HQ.o).mono ?_;rintro e W2 ⟨rfl,k2⟩;have K2:=gh (K1.o.trans k2);have BM2:=gh (k2.boxed BM.o id);have BX2:=gh (k2.boxed BX.o id);have BR2:=gh (k2.boxed BR.o id);have c0:=BM2.o.cell;have cR:=BR2.o.cell;have fR:=BR2.o.frozen;have Z2:Hid (n+3<=W2.heap.size):=gh (by have:=k2.size;have:=Z1.o;omega);clear k2;cases q with
 | false=>
  have HR:Hid (r=false):=gh (by rw [<- HE.o,d0D,HQ.o];rfl);have tS:Td (fun k=>k=n+2) W2 (W2.setCell ⟨n+2,0,none⟩ (.bool false)):=Td.setCell _ _ _ rfl;have KS:=gh (K2.o.did (by have:=HN0.o;omega) tS);have CS:=gh (BR2.o.set (.bool false)).cell;clear tS;go_wp2;refine a0X [] _ ?_ ?_ ?_
  ·intro k hk;cases hk
  ·simp
  ·intro X' hX';have q1:=hX'.cell CS.o (by simp);exact ⟨.bool false,by simp [results,Tryz.results67,go_sem,q1],by rw [HR.o],KS.o.trans (hX'.mono fun _ _ h=>by cases h)⟩
 | true=>
  have hWf:=j0T HO.o HQ.o;have HWF:=gh hWf;have HE2:Hid ((b0K s (fuel s)).any (g0X s x)=r):=gh (by rw [<- HE.o,d0D,HQ.o];rfl);clear hWf;go_wp2_with (fail);refine (p0W W2 b).mono ?_;rintro e W3 ⟨B1,rfl,k3,b1,l1⟩;have K3:=gh (K2.o.trans k3);have BM3:=gh (k3.boxed BM2.o id);have BX3:=gh (k3.boxed BX2.o id);have BR3:=gh (k3.boxed BR2.o id);have BS3:=gh b1;have L1:Hid (n+3<=B1):=gh (by have:=Z2.o;omega);have Z3:Hid (n+3<=W3.heap.size):=gh (by have:=k3.size;have:=Z2.o;omega);clear k3 b1 l1 c0 cR fR;go_wp2_with (fail);refine h0F (gf:=125) rfl (enters_of Tryz.func125 (by kernel_rfl) rfl) (encs:=encS) (xs:=b0K s (fuel s)) (R:=t0A w B1)
   (fun X hX=>p0X w X (K3.o.trans hX) b s H.o HO.o (fuel s) HWF.o B1 (hX.boxed BS3.o id)) (fun _=>rfl)
   (fun k=>k=n+2) (fun O pre A=>(∀ p ∈ pre,g0X s x p=false)/\h0Y (n+2) 4 (.bool false) O pre A) (fun c O pre A=>c=.ret/\(∃ p ∈ pre,g0X s x p=true)/\h0Y (n+2) 4 (.bool true) O pre A) ?hR
   (j0O (h0Y.good _ _ _) _) (fun c=>o0X (j0O (h0Y.good _ _ _) _) c .ret) ⟨(by intro p hp;cases hp),fun _=>Iff.rfl,BR3.o⟩ (fun p=>#[.int .i64 p.1,.int .i64 p.2]) 49 ?ab ?done ?stop
  case hR=>
   rintro k (hk | rfl)
   ·have h1:=K3.o.size;have h2:=HN0.o;exact ⟨by omega,by omega⟩
   ·have h1:=BS3.o.lt;have h2:=L1.o;exact ⟨h1,by omega⟩
  case ab=>
   apply Exists.intro;refine ⟨?_,?_⟩
   ·intro l' p X m K hm hK;gi_wp2;exact hK
   ·rintro l' O pre ⟨sl,y⟩ rest B m hx' tB sB ⟨hpre,hO,rB⟩ hm nOm _;have HOO:=gh hO;have HPRE:=gh hpre;have KB:=gh (K3.o.did (by have:=HN0.o;omega) tB);have MB:=gh (H.o.kept KB.o);have cM:=(tB.boxed BM3.o (by omega)).cell;have cX:=(tB.boxed BX3.o (by omega)).cell;have HYI:Hid (I64 y):=gh (l0V HO.o (fuel s) (sl,y) (by rw [hx'];simp));have RB:=gh rB;have cq0:B.heap[m]? = some (.cells #[.int .i64 sl,.int .i64 y] 49):=hm;have GO:Hid (∀ X,Kept B X->g0X s x (sl,y)=false->∃ O',Sub O' O B.heap.size/\Td O B X/\(∀ p ∈ pre++[(sl,y)],g0X s x p=false)/\h0Y (n+2) 4 (.bool false) O' (pre++[(sl,y)]) X):=gh (fun X kX hm=>by
     refine ⟨O,Sub.refl _ _,kX.mono (fun _ _ h=>h.elim),?_,HOO.o,kX.boxed RB.o id⟩;intro p hp;rcases List.mem_append.1 hp with hp | hp
     ·exact HPRE.o p hp
     ·simp at hp;rw [hp];exact hm)
    have OUT:Hid (∀ X,Kept B X->g0X s x (sl,y)=true->∃ O',Sub O' O B.heap.size/\Td O B (X.setCell ⟨n+2,0,none⟩ (.bool true))/\(∃ p ∈ pre++[(sl,y)],g0X s x p=true)/\h0Y (n+2) 4 (.bool true) O' (pre++[(sl,y)]) (X.setCell ⟨n+2,0,none⟩ (.bool true))):=gh (fun X kX hm=>by
     have tS:Td (fun k=>k=n+2) X (X.setCell ⟨n+2,0,none⟩ (.bool true)):=Td.setCell _ _ _ rfl;refine ⟨O,Sub.refl _ _,(Td.trans kX tS (fun _ h=>h.elim) (fun k _ h=>(HOO.o k).2 h)),⟨(sl,y),by simp,hm⟩,HOO.o,(kX.boxed RB.o id).set _⟩)
    clear hx' tB sB hpre hO rB hm nOm;obtain ⟨V,hV⟩:∃ V,B.drew=V:=⟨_,rfl⟩;have kV:Kept B V:=by rw [<- hV];exact Kept.drew _
    have KBV:=gh kV;have x0:∀ u:Wd (fun U=>U=V),u.w.cell? ⟨n,0,none⟩=some (.pointer (some ⟨b,0,none⟩)):=fun u=>by rw [u.ok];exact KBV.o.cell cM id
    have x1:∀ u:Wd (fun U=>U=V),u.w.cell? ⟨n+1,0,none⟩=some (.int .i64 x):=fun u=>by rw [u.ok];exact KBV.o.cell cX id
    have x2:∀ u:Wd (fun U=>U=V),u.w.cell? ⟨m,1,none⟩=some (.int .i64 y):=fun u=>by
     rw [u.ok];refine kV.cell ?_ id;simp [World.cell?,cq0]
    have RV:=gh (kV.boxed RB.o id);have KV:=gh kV;have HV:=gh hV;have c6:=RV.o.cell;have f6:=RV.o.frozen;clear cM cX cq0 hV kV;obtain ⟨t,ht⟩:∃ t,tgt s y=t:=⟨_,rfl⟩;have HT:=gh ht
    by_cases xy:x=y
    ·subst xy;have MM:Hid (g0X s x (sl,x)=true):=gh (by simp [g0X]);clear ht;gi_wp2_with (fail);refine f0U [0,1,2,3,4,5,6,7,8,9,10,11] (fun U=>U=V) (by kernel_rfl) (by kernel_rfl) (by kernel_rfl) HV.o (fun _=>?_);rw [HV.o]
     repeat (refine pq rfl rfl ?_;go_big_quiet_step (fail);refine wpQuiet_nil ?_)
     refine ps rfl rfl rfl (Wd.mem rfl) ?_
     go_big_quiet_skip
     refine wpQuiet_nil ?_
     repeat (refine pq rfl rfl ?_;go_big_quiet_step (fail);refine wpQuiet_nil ?_)
     refine a0J ?_;gi_wp2;obtain ⟨O',q1,q2,q3,q4⟩:=OUT.o V KV.o MM.o;exact ⟨O',q1,q2,rfl,q3,q4⟩
    ·have g1:(x == y)=false:=by simp [xy]
     by_cases xt:x=t
     ·have MM:Hid (g0X s x (sl,y)=true):=gh (by simp [g0X,ht,xt]);subst xt;clear ht xy;gi_wp2_with (fail);refine f0U [0,1,2,3,4,5,6,7,8,9,10,11] (fun U=>U=V) (by kernel_rfl) (by kernel_rfl) (by kernel_rfl) HV.o (fun _=>?_);rw [HV.o]
      repeat (refine pq rfl rfl ?_;go_big_quiet_step (fail);refine wpQuiet_nil ?_)
      refine pl rfl rfl ?_;gi_wp2_with (fail);refine ⟨trivial,?_⟩;refine (callsIn_wide.2 (g0A _ b s y x (MB.o.kept KBV.o) HYI.o HT.o)).mono ?_;rintro e U ⟨rfl,rfl⟩;gi_wp2_with (fail);refine ⟨Wd.mem rfl,?_⟩
      repeat (refine pq rfl rfl ?_;go_big_quiet_step (fail);refine wpQuiet_nil ?_)
      refine a0J ?_;gi_wp2;obtain ⟨O',q1,q2,q3,q4⟩:=OUT.o V KV.o MM.o;exact ⟨O',q1,q2,rfl,q3,q4⟩
     ·have g2:(x == t)=false:=by simp [xt]
      have MM:Hid (g0X s x (sl,y)=false):=gh (by simp [g0X,ht,xt,xy]);clear ht xy xt;gi_wp2_with (fail);refine f0U [0,1,2,3,4,5,6,7,8,9,10,11] (fun U=>U=V) (by kernel_rfl) (by kernel_rfl) (by kernel_rfl) HV.o (fun _=>?_);rw [HV.o]
      repeat (refine pq rfl rfl ?_;go_big_quiet_step (fail);refine wpQuiet_nil ?_)
      refine pl rfl rfl ?_;gi_wp2_with (fail);refine ⟨trivial,?_⟩;refine (callsIn_wide.2 (g0A _ b s y t (MB.o.kept KBV.o) HYI.o HT.o)).mono ?_;rintro e U ⟨rfl,rfl⟩;gi_wp2_with (fail);refine ⟨Wd.mem rfl,?_⟩
      repeat (refine pq rfl rfl ?_;go_big_quiet_step (fail);refine wpQuiet_nil ?_)
      refine a0J ?_;gi_wp2;exact GO.o V KV.o MM.o
  case done=>
   rintro D O X hD nD tX sX ⟨hpre,hO,rX⟩ hK;have HR:Hid (r=false):=gh (by rw [<- HE2.o];exact List.any_eq_false.2 (fun p hp=>by simp [hpre p hp]));have nD2:D≠n+2:=by have:=Z3.o;omega
   have c6:=rX.cell;have f6:=rX.frozen;have tS:Td (fun k=>k=n+2) X (X.setCell ⟨n+2,0,none⟩ (.bool false)):=Td.setCell _ _ _ rfl;have hK2:Hid ((X.setCell ⟨n+2,0,none⟩ (.bool false)).heap[D]? = some (.deferred (some []))):=gh (tS.heap hK nD2);have CS:Hid ((X.setCell ⟨n+2,0,none⟩ (.bool false)).cell? ⟨n+2,0,none⟩=some (.bool false)):=gh (rX.set (.bool false)).cell;have KX:Hid (Kept w (X.setCell ⟨n+2,0,none⟩ (.bool false))):=gh ((K3.o.did (by have:=HN0.o;omega) tX).did (by have:=HN0.o;omega) tS);clear hK rX tS tX sX hO nD;go_wp2;refine a0X [D] _ ?_ ?_ ?_
   ·intro k hk;simp at hk;rw [hk];exact hK2.o
   ·simp
   ·intro X' hX';have q1:=hX'.cell CS.o (by simp;omega);exact ⟨.bool false,by simp [results,Tryz.results67,go_sem,q1],by rw [HR.o],KX.o.own (fun i hi=>by simp at hi;have:=K3.o.size;omega) hX'⟩
  case stop=>
   rintro D O c pre rest X hD nD tX sX hx' ⟨rfl,⟨p,hp,hm⟩,hO,rX⟩ hK;have HR:Hid (r=true):=gh (by rw [<- HE2.o];exact List.any_eq_true.2 ⟨p,by rw [hx'];exact List.mem_append_left _ hp,hm⟩);have nD2:D≠n+2:=by have:=Z3.o;omega
   have c6:=rX.cell;have f6:=rX.frozen;have tS:Td (fun k=>k=n+2) X X:=Td.refl _ _;have hK2:Hid (X.heap[D]? = some (.deferred (some []))):=gh (tS.heap hK nD2);have CS:Hid (X.cell? ⟨n+2,0,none⟩=some (.bool true)):=gh rX.cell;have KX:Hid (Kept w X):=gh ((K3.o.did (by have:=HN0.o;omega) tX).did (by have:=HN0.o;omega) tS);clear hK rX tS tX sX hO nD;go_wp2;refine a0X [D] _ ?_ ?_ ?_
   ·intro k hk;simp at hk;rw [hk];exact hK2.o
   ·simp
   ·intro X' hX';have q1:=hX'.cell CS.o (by simp;omega);exact ⟨.bool true,by simp [results,Tryz.results67,go_sem,q1],by rw [HR.o],KX.o.own (fun i hi=>by simp at hi;have:=K3.o.size;omega) hX'⟩
set_option maxHeartbeats 2000000 in
theorem calm_p (w:World) (b:Nat) (s:Mst) (h:PM w b s) (ho:s.ok) (r:Bool) (e1:w0D s=r) :
  Calls Tryz.prog 62 #[.pointer (some ⟨b,0,none⟩)] w fun e w'=>e=.returned (.bool r)/\Kept w w':=by
 have H:=gh h;have HO:=gh ho;obtain ⟨n,hn⟩:∃ n,w.heap.size=n:=⟨_,rfl⟩;obtain ⟨W1,hW1⟩:∃ W1,(w.alloc (.cells #[.pointer (some ⟨b,0,none⟩)] 23)).alloc (.cells #[.bool false] 4)=W1:=⟨_,rfl⟩;have z1:W1.heap.size=n+2:=by rw [<- hW1];simp [hn]
 have t1:Kept w W1:=by
  rw [<- hW1];exact ((Kept.refl w).alloc _).alloc _
 have bx:∀ (X:World) (T:TypeId) (v:Value) (m:Nat),X.heap.size=m->Boxed (X.alloc (.cells #[v] T)) m T v:=fun X T v m e=>by rw [<- e];exact Boxed.new X T v
 have bM:Boxed W1 n 23 (.pointer (some ⟨b,0,none⟩)):=by
  rw [<- hW1];exact (bx w 23 _ n hn).alloc _
 have bR:Boxed W1 (n+1) 4 (.bool false):=by
  rw [<- hW1];exact bx _ 4 _ (n+1) (by simp [hn])
 have K1:=gh t1;have HN0:=gh hn;have Z1:=gh z1;obtain ⟨q,hq⟩:∃ q,b0A s=q:=⟨_,rfl⟩;have HQ:=gh hq;have BM:=gh bM;have BR:=gh bR;have c0:=bM.cell;have cR:=bR.cell;have fR:=bR.frozen;have HE:Hid (w0D s=r):=gh e1;clear h ho e1 t1 bx bM bR hq z1;refine c0L Tryz.func62 rfl ?_;simp only [Tryz.ntmps62,List.size_toArray,List.length_cons,List.length_nil,Nat.reduceAdd,Nat.reduceSub,Array.replicate_succ,Array.replicate_zero,List.push_toArray,List.append_toArray,List.nil_append,List.cons_append];go_wp2_with (fail);clear hW1 hn;refine (i0E W1 b s (H.o.kept K1.o) HO.o q HQ.o).mono ?_;rintro e W2 ⟨rfl,k2⟩;have K2:=gh (K1.o.trans k2);have BM2:=gh (k2.boxed BM.o id);have BR2:=gh (k2.boxed BR.o id);have c0:=BM2.o.cell;have cR:=BR2.o.cell;have fR:=BR2.o.frozen;have Z2:Hid (n+2<=W2.heap.size):=gh (by have:=k2.size;have:=Z1.o;omega);clear k2;cases q with
 | false=>
  have HR:Hid (r=false):=gh (by rw [<- HE.o,w0D,HQ.o];rfl);have tS:Td (fun k=>k=n+1) W2 (W2.setCell ⟨n+1,0,none⟩ (.bool false)):=Td.setCell _ _ _ rfl;have KS:=gh (K2.o.did (by have:=HN0.o;omega) tS);have CS:=gh (BR2.o.set (.bool false)).cell;clear tS;go_wp2;refine a0X [] _ ?_ ?_ ?_
  ·intro k hk;cases hk
  ·simp
  ·intro X' hX';have q1:=hX'.cell CS.o (by simp);exact ⟨.bool false,by simp [results,Tryz.results62,go_sem,q1],by rw [HR.o],KS.o.trans (hX'.mono fun _ _ h=>by cases h)⟩
 | true=>
  have hWf:=j0T HO.o HQ.o;have HWF:=gh hWf;have HE2:Hid ((b0K s (fuel s)).all (i0Q s)=r):=gh (by rw [<- HE.o,w0D,HQ.o];rfl);clear hWf;go_wp2_with (fail);refine (p0W W2 b).mono ?_;rintro e W3 ⟨B1,rfl,k3,b1,l1⟩;have K3:=gh (K2.o.trans k3);have BM3:=gh (k3.boxed BM2.o id);have BR3:=gh (k3.boxed BR2.o id);have BS3:=gh b1;have L1:Hid (n+2<=B1):=gh (by have:=Z2.o;omega);have Z3:Hid (n+2<=W3.heap.size):=gh (by have:=k3.size;have:=Z2.o;omega);clear k3 b1 l1 c0 cR fR;go_wp2_with (fail);refine h0F (gf:=125) rfl (enters_of Tryz.func125 (by kernel_rfl) rfl) (encs:=encS) (xs:=b0K s (fuel s)) (R:=t0A w B1)
   (fun X hX=>p0X w X (K3.o.trans hX) b s H.o HO.o (fuel s) HWF.o B1 (hX.boxed BS3.o id)) (fun _=>rfl)
   (fun k=>k=n+1) (fun O pre A=>(∀ p ∈ pre,i0Q s p=true)/\h0Y (n+1) 4 (.bool false) O pre A) (fun c O pre A=>c=.ret/\(∃ p ∈ pre,i0Q s p=false)/\h0Y (n+1) 4 (.bool false) O pre A) ?hR
   (j0O (h0Y.good _ _ _) _) (fun c=>o0X (j0O (h0Y.good _ _ _) _) c .ret) ⟨(by intro p hp;cases hp),fun _=>Iff.rfl,BR3.o⟩ (fun p=>#[.int .i64 p.1,.int .i64 p.2]) 49 ?ab ?done ?stop
  case hR=>
   rintro k (hk | rfl)
   ·have h1:=K3.o.size;have h2:=HN0.o;exact ⟨by omega,by omega⟩
   ·have h1:=BS3.o.lt;have h2:=L1.o;exact ⟨h1,by omega⟩
  case ab=>
   apply Exists.intro;refine ⟨?_,?_⟩
   ·intro l' p X m K hm hK;gi_wp2;exact hK
   ·rintro l' O pre ⟨sl,y⟩ rest B m hx' tB sB ⟨hpre,hO,rB⟩ hm nOm _;have HOO:=gh hO;have HPRE:=gh hpre;have KB:=gh (K3.o.did (by have:=HN0.o;omega) tB);have MB:=gh (H.o.kept KB.o);have cM:=(tB.boxed BM3.o (by omega)).cell;have HYI:Hid (I64 y):=gh (l0V HO.o (fuel s) (sl,y) (by rw [hx'];simp));have RB:=gh rB;have cq0:B.heap[m]? = some (.cells #[.int .i64 sl,.int .i64 y] 49):=hm;have GO:Hid (∀ X,Kept B X->i0Q s (sl,y)=true->∃ O',Sub O' O B.heap.size/\Td O B X/\(∀ p ∈ pre++[(sl,y)],i0Q s p=true)/\h0Y (n+1) 4 (.bool false) O' (pre++[(sl,y)]) X):=gh (fun X kX hm=>by
     refine ⟨O,Sub.refl _ _,kX.mono (fun _ _ h=>h.elim),?_,HOO.o,kX.boxed RB.o id⟩;intro p hp;rcases List.mem_append.1 hp with hp | hp
     ·exact HPRE.o p hp
     ·simp at hp;rw [hp];exact hm)
    have OUT:Hid (∀ X,Kept B X->i0Q s (sl,y)=false->∃ O',Sub O' O B.heap.size/\Td O B (X.setCell ⟨n+1,0,none⟩ (.bool false))/\(∃ p ∈ pre++[(sl,y)],i0Q s p=false)/\h0Y (n+1) 4 (.bool false) O' (pre++[(sl,y)]) (X.setCell ⟨n+1,0,none⟩ (.bool false))):=gh (fun X kX hm=>by
     have tS:Td (fun k=>k=n+1) X (X.setCell ⟨n+1,0,none⟩ (.bool false)):=Td.setCell _ _ _ rfl;refine ⟨O,Sub.refl _ _,(Td.trans kX tS (fun _ h=>h.elim) (fun k _ h=>(HOO.o k).2 h)),⟨(sl,y),by simp,hm⟩,HOO.o,(kX.boxed RB.o id).set _⟩)
    clear hx' tB sB hpre hO rB hm nOm;have cq1:B.cell? ⟨m,0,none⟩=some (.int .i64 sl):=by simp [World.cell?,cq0]
    have cq2:B.cell? ⟨m,1,none⟩=some (.int .i64 y):=by simp [World.cell?,cq0]
    have c6:=RB.o.cell;have f6:=RB.o.frozen;obtain ⟨z,hz⟩:∃ z,s.look sl=z:=⟨_,rfl⟩;obtain ⟨k,hk⟩:∃ k,kd z=k:=⟨_,rfl⟩;obtain ⟨v,hv⟩:∃ v,calmW s y=v:=⟨_,rfl⟩;have HZ:=gh hz;have HK:=gh hk;have HVV:=gh hv;have HZI:Hid (I64 z):=gh (by rw [<- hz];exact HO.o.look _);have MC:=MB;have MM:Hid (i0Q s (sl,y)=(!(k == 5) && v)):=gh (by simp only [i0Q,hz,hk,hv]);clear cq0 hz hk hv
    by_cases k5:k=5
    ·subst k5;have M2:Hid (i0Q s (sl,y)=false):=gh (by rw [MM.o];rfl);gi_wp2_with (fail);refine ⟨trivial,?_⟩;refine (CallsIn.inRound l' (callsIn_wide.2 (lk_p _ b s sl z MC.o HZ.o))).mono ?_;rintro e U ⟨rfl,rfl⟩;gi_wp2_with (fail);refine ⟨trivial,?_⟩;refine (CallsIn.inRound l' (callsIn_wide.2 (kk_p _ z 5 HZI.o HK.o))).mono ?_;rintro e U ⟨rfl,rfl⟩;gi_wp2;refine ⟨trivial,?_⟩;gi_wp2;obtain ⟨O',q1,q2,q3,q4⟩:=OUT.o _ (Kept.refl _) M2.o;exact ⟨O',q1,q2,rfl,q3,q4⟩
    ·have g1:(k == 5)=false:=by simp [k5]
     clear k5;cases v with
     | true=>
      have M2:Hid (i0Q s (sl,y)=true):=gh (by rw [MM.o,g1];rfl);gi_wp2_with (fail);refine ⟨trivial,?_⟩;refine (CallsIn.inRound l' (callsIn_wide.2 (lk_p _ b s sl z MC.o HZ.o))).mono ?_;rintro e U ⟨rfl,rfl⟩;gi_wp2_with (fail);refine ⟨trivial,?_⟩;refine (CallsIn.inRound l' (callsIn_wide.2 (kk_p _ z k HZI.o HK.o))).mono ?_;rintro e U ⟨rfl,rfl⟩;gi_wp2_with (fail);refine ⟨trivial,?_⟩;refine (CallsIn.inRound l' (callsIn_wide.2 (r0O _ b s y _ MC.o HO.o HYI.o HVV.o))).mono ?_;rintro e U ⟨rfl,rfl⟩;gi_wp2;exact GO.o _ (Kept.refl _) M2.o
     | false=>
      have M2:Hid (i0Q s (sl,y)=false):=gh (by rw [MM.o,g1];rfl);gi_wp2_with (fail);refine ⟨trivial,?_⟩;refine (CallsIn.inRound l' (callsIn_wide.2 (lk_p _ b s sl z MC.o HZ.o))).mono ?_;rintro e U ⟨rfl,rfl⟩;gi_wp2_with (fail);refine ⟨trivial,?_⟩;refine (CallsIn.inRound l' (callsIn_wide.2 (kk_p _ z k HZI.o HK.o))).mono ?_;rintro e U ⟨rfl,rfl⟩;gi_wp2_with (fail);refine ⟨trivial,?_⟩;refine (CallsIn.inRound l' (callsIn_wide.2 (r0O _ b s y _ MC.o HO.o HYI.o HVV.o))).mono ?_;rintro e U ⟨rfl,rfl⟩;gi_wp2;obtain ⟨O',q1,q2,q3,q4⟩:=OUT.o _ (Kept.refl _) M2.o;exact ⟨O',q1,q2,rfl,q3,q4⟩
  case done=>
   rintro D O X hD nD tX sX ⟨hpre,hO,rX⟩ hK;have HR:Hid (r=true):=gh (by rw [<- HE2.o];exact List.all_eq_true.2 hpre);have nD2:D≠n+1:=by have:=Z3.o;omega
   have c6:=rX.cell;have f6:=rX.frozen;have tS:Td (fun k=>k=n+1) X (X.setCell ⟨n+1,0,none⟩ (.bool true)):=Td.setCell _ _ _ rfl;have hK2:Hid ((X.setCell ⟨n+1,0,none⟩ (.bool true)).heap[D]? = some (.deferred (some []))):=gh (tS.heap hK nD2);have CS:Hid ((X.setCell ⟨n+1,0,none⟩ (.bool true)).cell? ⟨n+1,0,none⟩=some (.bool true)):=gh (rX.set (.bool true)).cell;have KX:Hid (Kept w (X.setCell ⟨n+1,0,none⟩ (.bool true))):=gh ((K3.o.did (by have:=HN0.o;omega) tX).did (by have:=HN0.o;omega) tS);clear hK rX tS tX sX hO nD;go_wp2;refine a0X [D] _ ?_ ?_ ?_
   ·intro k hk;simp at hk;rw [hk];exact hK2.o
   ·simp
   ·intro X' hX';have q1:=hX'.cell CS.o (by simp;omega);exact ⟨.bool true,by simp [results,Tryz.results62,go_sem,q1],by rw [HR.o],KX.o.own (fun i hi=>by simp at hi;have:=K3.o.size;omega) hX'⟩
  case stop=>
   rintro D O c pre rest X hD nD tX sX hx' ⟨rfl,⟨p,hp,hm⟩,hO,rX⟩ hK;have HR:Hid (r=false):=gh (by rw [<- HE2.o];exact List.all_eq_false.2 ⟨p,by rw [hx'];exact List.mem_append_left _ hp,by simp [hm]⟩);have nD2:D≠n+1:=by have:=Z3.o;omega
   have c6:=rX.cell;have f6:=rX.frozen;have tS:Td (fun k=>k=n+1) X X:=Td.refl _ _;have hK2:Hid (X.heap[D]? = some (.deferred (some []))):=gh (tS.heap hK nD2);have CS:Hid (X.cell? ⟨n+1,0,none⟩=some (.bool false)):=gh rX.cell;have KX:Hid (Kept w X):=gh ((K3.o.did (by have:=HN0.o;omega) tX).did (by have:=HN0.o;omega) tS);clear hK rX tS tX sX hO nD;go_wp2;refine a0X [D] _ ?_ ?_ ?_
   ·intro k hk;simp at hk;rw [hk];exact hK2.o
   ·simp
   ·intro X' hX';have q1:=hX'.cell CS.o (by simp;omega);exact ⟨.bool false,by simp [results,Tryz.results62,go_sem,q1],by rw [HR.o],KX.o.own (fun i hi=>by simp at hi;have:=K3.o.size;omega) hX'⟩
end
section
theorem m0I {N:Nat} {t:Tk} {a:Nat}:∀ (n:Nat),a+n<=N->f0E t a n=true->b0J N (b0S t a n)+n<=b0J N t
 | 0,_,_=>by rw [g0B];exact Nat.le_refl _
 | n+1,h,hf=>by
  rw [d0K] at hf;simp only [Bool.and_eq_true] at hf;have ih:=m0I (N:=N) (t:=t) (a:=a) n (by omega) hf.1;have h1:b0J N (b0S t a (n+1)) < b0J N (b0S t a n):=by
   refine m0N _ _ ?_ N (a+n) (by omega) ?_ ?_
   ·intro j hj;simp only [b0S,Bool.not_or,Bool.and_eq_true] at hj ⊢;refine ⟨hj.1,?_⟩
    have:=hj.2
    simp only [Bool.not_eq_true',decide_eq_false_iff_not] at this ⊢;omega
   ·simp [b0S]
   ·have:=hf.2
    rw [m0W];exact this
  omega
theorem l0T {N:Nat} {t u:Tk} {a n:Nat} (h:a0Y N t a n=some u):b0J N u+n<=b0J N t:=by
 unfold a0Y at h
 split at h
 ·rename_i c;simp only [Bool.and_eq_true,decide_eq_true_eq] at c;simp only [Option.some.injEq] at h;subst h;exact m0I n c.1.2 c.2
 ·cases h
theorem c0R {s:Mst}:∀ {f g:Nat} {x:Int},Wf s f x->f<=g->a0L s g x=a0L s f x
 | 0,_,_,h,_=>h.elim
 | f+1,0,_,_,h=>absurd h (by omega)
 | f+1,g+1,x,h,hg=>by
  rw [a0Q,a0Q];unfold oneF
  have:∀ (L:List (Int × Int)),(∀ p ∈ L,Wf s f (s.logicZ p.2))->L.flatMap (fun p=>(p.2,s.logicZ p.2) :: a0L s g (s.logicZ p.2))=L.flatMap (fun p=>(p.2,s.logicZ p.2) :: a0L s f (s.logicZ p.2)):=by
   intro L
   induction L with
   | nil=>intro _;rfl
   | cons p L ih=>
    intro hL;rw [List.flatMap_cons,List.flatMap_cons,ih (fun q hq=>hL q (List.mem_cons_of_mem _ hq)),c0R (hL p List.mem_cons_self) (by omega)]
  exact this _ h.2
theorem l0Y {s:Mst} {x:Int} (h:kd (tgt s x)=3):a0M s (tgt s x)=a0M s x:=by
 unfold a0M degN atN;rw [t0K h]
theorem Wf.down {s:Mst} (ho:s.ok) {f:Nat} {x:Int} (h:Wf s f x) (h3:kd (tgt s x)=3):Wf s f (tgt s x):=by
 obtain ⟨g,rfl,h1,h2⟩:=h.pos;refine ⟨⟨p0S ho h1.i64,?_,?_⟩,?_⟩
 ·rw [t0K h3];exact h1.deg
 ·intro h4;rw [h3] at h4;cases h4
 ·rw [l0Y h3];exact h2
theorem c0W {s:Mst} {f:Nat} {x:Int} (h3:kd (tgt s x)=3):a0L s f (tgt s x)=a0L s f x:=by
 cases f with
 | zero=>rfl
 | succ f=>rw [a0Q,a0Q,l0Y h3]
theorem c0Q {s:Mst} {f:Nat} {x:Int} (h3:kd (tgt s x)≠3):a0L s f x=[]:=by
 cases f with
 | zero=>rfl
 | succ f=>rw [a0Q,j0Y h3];rfl
theorem l0F {s:Mst} {f a d:Nat} {lo hi:Int} (ih:∀ (x lo hi:Int) (t u:Tk),I64 x->sndW s f x lo hi t=some u->(a0L s f x).length+b0J (s.xs.length+1) u<=b0J (s.xs.length+1) t) (ho:s.ok) :
  ∀ (n:Nat) (t u:Tk),a0R (kidG s (sndW s f) a d lo hi) n t=some u->(((List.range n).map (fun i:Nat=>((i:Int),b0C a d i))).flatMap (oneF s f)).length+b0J (s.xs.length+1) u<=n+b0J (s.xs.length+1) t
 | 0,t,u,h=>by simp [a0R] at h;subst h;simp
 | n+1,t,u,h=>by
  rw [a0R,Option.bind_eq_some_iff] at h;obtain ⟨v,h1,h2⟩:=h;have i1:=l0F ih ho n t v h1;unfold kidG a0G at h2
  split at h2
  ·have i2:=ih _ _ _ _ _ (ho.logic _) h2;rw [List.range_succ,List.map_append,List.flatMap_append,List.length_append];simp only [List.map_cons,List.map_nil,List.flatMap_cons,List.flatMap_nil,List.append_nil,oneF,List.length_cons] at i1 ⊢;omega
  ·cases h2
theorem g0V {s:Mst} (ho:s.ok):∀ (f:Nat) (x lo hi:Int) (t u:Tk),I64 x->sndW s f x lo hi t=some u->(a0L s f x).length+b0J (s.xs.length+1) u<=b0J (s.xs.length+1) t
 | 0,_,_,_,_,_,_,h=>by cases h
 | f+1,x,lo,hi,t,u,hx,h=>by
  have ih:=g0V ho f;have hm:=d0Q s (f+1) x lo hi t u h;have hwf:=d0P ho (f+1) x lo hi t u hx h;rw [b0Y] at h;have plain:kd x≠3->kd x≠4->(a0L s (f+1) x).length+b0J (s.xs.length+1) u<=b0J (s.xs.length+1) t:=fun h3 h4=>by
   rw [c0Q (by rw [tgt,if_neg h4];exact h3)];simpa using hm
  split at h
  ·rename_i k;exact plain (by omega) (by omega)
  ·split at h
   ·rename_i k;exact plain (by omega) (by omega)
   ·split at h
    ·rename_i k3;have e:tgt s x=x:=by rw [tgt,if_neg (by omega)]
     have ha:=a0U x;have ea:(((ad x).toNat:Nat):Int)=ad x:=by omega
     unfold a0W at h;rw [ea] at h
     split at h
     ·cases h
     ·rename_i hd;rw [Option.bind_eq_some_iff] at h;obtain ⟨t1,h1,h2⟩:=h
      split at h2
      ·have c1:=l0T h1;have c2:=l0F ih ho _ _ _ h2;have e3:a0M s x=(List.range (s.look (ad x)).toNat).map (fun i:Nat=>((i:Int),b0C (ad x).toNat (s.look (ad x)).toNat i)):=by
        unfold a0M degN atN;rw [e,if_pos k3]
       rw [a0Q,e3];omega
      ·cases h2
    ·split at h
     ·rename_i k4
      split at h
      ·rename_i k3;rw [Option.bind_eq_some_iff] at h;obtain ⟨t1,h1,h2⟩:=h;have c1:=l0T h1;have e:tgt s x=s.look (ad x):=by rw [tgt,if_pos k4]
       have hw2:=d0P ho f _ _ _ _ _ (ho.look _) h2;have c2:=ih _ _ _ _ _ (ho.look _) h2;rw [<- c0W (by rw [e];exact k3),e,c0R hw2 (by omega)];omega
      ·cases h
     ·cases h
theorem i0C {s:Mst} (ho:s.ok) (h:b0A s=true):(b0K s (fuel s)).length<=70000:=by
 unfold b0A at h;simp only [Bool.and_eq_true] at h;have h4:=h.2;cases e:a0G s (sndW s (fuel s)) 6 (-9223372036854775808) 9223372036854775807 e0G with
 | none=>rw [e] at h4;cases h4
 | some u=>
  unfold a0G at e
  split at e
  ·have:=g0V ho _ _ _ _ _ _ (ho.logic _) e
   have h1:=h0T (s.xs.length+1) e0G;have h2:=ho.2;unfold b0K;rw [List.length_cons];omega
  ·cases e
def p0L (s:Mst) (x:Int):Prop:=1<=kd x/\kd x<=4/\(kd x=3->d0U s (ad x).toNat=true)
theorem h0G {s:Mst}:∀ (f:Nat) (x lo hi:Int) (t u:Tk),sndW s f x lo hi t=some u->p0L s x
 | 0,_,_,_,_,_,h=>by cases h
 | f+1,x,lo,hi,t,u,h=>by
  rw [b0Y] at h
  split at h
  ·rename_i k;exact ⟨by omega,by omega,fun h'=>by omega⟩
  ·split at h
   ·rename_i k;exact ⟨by omega,by omega,fun h'=>by omega⟩
   ·split at h
    ·rename_i k;refine ⟨by omega,by omega,fun _=>?_⟩;unfold a0W at h
     split at h
     ·cases h
     ·rw [Option.bind_eq_some_iff] at h;obtain ⟨t1,_,h2⟩:=h
      split at h2
      ·rename_i c;simp only [Bool.and_eq_true] at c;exact c.2
      ·cases h2
    ·split at h
     ·rename_i k;exact ⟨by omega,by omega,fun h'=>by omega⟩
     ·cases h
theorem q0Z {s:Mst} (ho:s.ok):∀ (f:Nat) (x lo hi:Int) (t u:Tk),I64 x->sndW s f x lo hi t=some u->∀ p ∈ a0L s f x,p0L s p.2/\p.2=s.logicZ p.1
 | 0,_,_,_,_,_,_,h=>by cases h
 | f+1,x,lo,hi,t,u,hx,h=>by
  have ih:=q0Z ho f;have kids:∀ (a d n:Nat) (lo hi:Int) (t u:Tk),a0R (kidG s (sndW s f) a d lo hi) n t=some u->∀ p ∈ ((List.range n).map (fun i:Nat=>((i:Int),b0C a d i))).flatMap (oneF s f),p0L s p.2/\p.2=s.logicZ p.1:=by
   intro a d n lo hi t u hc p hp;rw [List.mem_flatMap] at hp;obtain ⟨q,hq,hp⟩:=hp;rw [List.mem_map] at hq;obtain ⟨i,hi',rfl⟩:=hq;simp only [List.mem_range] at hi';obtain ⟨l,h',t',u',h3⟩:=p0I hc i hi';unfold oneF at hp;rcases List.mem_cons.1 hp with rfl | hp
   ·exact ⟨h0G f _ _ _ _ _ h3,rfl⟩
   ·exact ih _ _ _ _ _ (ho.logic _) h3 p hp
  rw [b0Y] at h;have plain:kd x≠3->kd x≠4->∀ p ∈ a0L s (f+1) x,p0L s p.2/\p.2=s.logicZ p.1:=fun h3 h4 p hp=>by
   rw [c0Q (by rw [tgt,if_neg h4];exact h3)] at hp;cases hp
  split at h
  ·rename_i k;exact plain (by omega) (by omega)
  ·split at h
   ·rename_i k;exact plain (by omega) (by omega)
   ·split at h
    ·rename_i k3;have e:tgt s x=x:=by rw [tgt,if_neg (by omega)]
     have ha:=a0U x;have ea:(((ad x).toNat:Nat):Int)=ad x:=by omega
     unfold a0W at h;rw [ea] at h
     split at h
     ·cases h
     ·rw [Option.bind_eq_some_iff] at h;obtain ⟨t1,h1,h2⟩:=h
      split at h2
      ·have e3:a0M s x=(List.range (s.look (ad x)).toNat).map (fun i:Nat=>((i:Int),b0C (ad x).toNat (s.look (ad x)).toNat i)):=by
        unfold a0M degN atN;rw [e,if_pos k3]
       rw [a0Q,e3];exact kids _ _ _ _ _ _ _ h2
      ·cases h2
    ·split at h
     ·rename_i k4
      split at h
      ·rename_i k3;rw [Option.bind_eq_some_iff] at h;obtain ⟨t1,h1,h2⟩:=h;have e:tgt s x=s.look (ad x):=by rw [tgt,if_pos k4]
       have hw2:=d0P ho f _ _ _ _ _ (ho.look _) h2;rw [<- c0W (by rw [e];exact k3),e,c0R hw2 (by omega)];exact ih _ _ _ _ _ (ho.look _) h2
      ·cases h
     ·cases h
theorem t0U {s:Mst} (ho:s.ok) (h:b0A s=true):∀ p ∈ b0K s (fuel s),p0L s p.2/\p.2=s.logicZ p.1:=by
 unfold b0A at h;simp only [Bool.and_eq_true] at h;have h4:=h.2;cases e:a0G s (sndW s (fuel s)) 6 (-9223372036854775808) 9223372036854775807 e0G with
 | none=>rw [e] at h4;cases h4
 | some u=>
  unfold a0G at e
  split at e
  ·intro p hp;rcases List.mem_cons.1 hp with rfl | hp
   ·exact ⟨h0G _ _ _ _ _ _ e,rfl⟩
   ·exact q0Z ho _ _ _ _ _ _ (ho.logic _) e p hp
  ·cases e
end
section
def flat:List (Int × Int)->List Value
 | []=>[]
 | p :: xs=>.int .i64 p.1 :: .int .i64 p.2 :: flat xs
theorem b0G:(xs ys:List (Int × Int))->flat (xs++ys)=flat xs++flat ys
 | [],_=>rfl
 | p :: xs,ys=>by simp [flat,b0G xs ys]
theorem b0Q:(xs:List (Int × Int))->(flat xs).length=xs.length * 2
 | []=>rfl
 | p :: xs=>by simp [flat,b0Q xs];omega
theorem q0T:{xs:List (Int × Int)}->{j:Nat}->{p:Int × Int}->xs[j]? = some p->(flat xs)[j * 2]? = some (.int .i64 p.1)/\(flat xs)[j * 2+1]? = some (.int .i64 p.2)
 | x :: xs,0,p,h=>by
  obtain rfl:x=p:=by simpa using h
  exact ⟨rfl,rfl⟩
 | x :: xs,j+1,p,h=>by
  have:=q0T (xs:=xs) (j:=j) (p:=p) (by simpa using h)
  rw [show (j+1) * 2=j * 2+1+1 by omega];simpa [flat] using this
theorem v0V:{xs:List (Int × Int)}->{j:Nat}->{u:Value}->(flat xs)[j]? = some u->∃ i p,xs[i]? = some p/\((j=i * 2/\u=.int .i64 p.1)∨(j=i * 2+1/\u=.int .i64 p.2))
 | x :: _,0,u,h=>⟨0,x,rfl,.inl ⟨rfl,by simpa [flat] using h.symm⟩⟩
 | x :: _,1,u,h=>⟨0,x,rfl,.inr ⟨rfl,by simpa [flat] using h.symm⟩⟩
 | x :: xs,j+2,u,h=>by
  obtain ⟨i,p,h1,h2⟩:=v0V (xs:=xs) (j:=j) (u:=u) (by simpa [flat] using h);refine ⟨i+1,p,by simpa using h1,?_⟩;rcases h2 with ⟨e,h⟩ | ⟨e,h⟩
  ·exact .inl ⟨by omega,h⟩
  ·exact .inr ⟨by omega,h⟩
theorem c0M:(xs:List (Int × Int))->∀ u ∈ flat xs,u.oneCell'=true
 | []=>by simp [flat]
 | p :: xs=>by
  intro u hu;simp only [flat,List.mem_cons] at hu;rcases hu with rfl | rfl | hu
  ·rfl
  ·rfl
  ·exact c0M xs u hu
def a0P (w:World) (a:Option Addr) (xs:List (Int × Int)):Prop:=
 xs=[]∨∃ bl off,a=some ⟨bl,off,none⟩/\∀ j p,xs[j]? = some p->w.cell? ⟨bl,off+j * 2,none⟩=some (.int .i64 p.1)/\w.cell? ⟨bl,off+(j * 2+1),none⟩=some (.int .i64 p.2)
theorem a0P.turned {w w':World} {a:Option Addr} {xs:List (Int × Int)} (h:a0P w a xs) {R:Nat->Prop} (ht:Td R w w') (hR:∀ k,k < w.heap.size->(∃ ad,a=some ad/\ad.block=k)->¬ R k):a0P w' a xs:=by
 rcases h with h | ⟨bl,off,rfl,h⟩
 ·exact .inl h
 ·refine .inr ⟨bl,off,rfl,fun j p hp=>?_⟩;have hc:=h j p hp;have hn:=hR bl (World.block_lt_of_cell? _ _ hc.1) ⟨_,rfl,rfl⟩;exact ⟨ht.cell hc.1 hn,ht.cell hc.2 hn⟩
theorem a0P.kept {w w':World} {a:Option Addr} {xs:List (Int × Int)} (h:a0P w a xs) (ht:Kept w w'):a0P w' a xs:=h.turned ht (fun _ _ _ e=>e)
theorem a0P.at {w:World} {a:Option Addr} {xs:List (Int × Int)} (h:a0P w a xs) {j:Nat} {p:Int × Int} (hp:xs[j]? = some p):∃ bl off,a=some ⟨bl,off,none⟩/\bl < w.heap.size/\w.cell? ⟨bl,off+j * 2,none⟩=some (.int .i64 p.1)/\w.cell? ⟨bl,off+(j * 2+1),none⟩=some (.int .i64 p.2):=by
 rcases h with h | ⟨bl,off,ha,hc⟩
 ·rw [h] at hp;simp at hp
 ·exact ⟨bl,off,ha,World.block_lt_of_cell? _ _ (hc j p hp).1,hc j p hp⟩
theorem a0P.news {w:World} {bl off:Nat} {xs:List (Int × Int)} (h:∀ j p,xs[j]? = some p->w.cell? ⟨bl,off+j * 2,none⟩=some (.int .i64 p.1)/\w.cell? ⟨bl,off+(j * 2+1),none⟩=some (.int .i64 p.2)) :
  ∀ (j:Nat) (u:Value),(flat xs)[j]? = some u->w.cell? ((⟨bl,off,none⟩:Addr).add j)=some u:=by
 intro j u hu;obtain ⟨i,p,h1,⟨rfl,rfl⟩ | ⟨rfl,rfl⟩⟩:=v0V hu
 ·rcases i with _ | i
  ·simpa [Addr.add] using (h 0 p h1).1
  ·exact (h (i+1) p h1).1
 ·exact (h i p h1).2
abbrev PRow (w:World) (n₀:Nat) (E:TypeId) (v:Value) (xs:List (Int × Int)):Prop:=w.ownsRow n₀ E 2 v xs.length (flat xs)
theorem PRow.reads {w:World} {n₀:Nat} {E:TypeId} {v:Value} {xs:List (Int × Int)} (h:PRow w n₀ E v xs):∃ a cap,v=.slice a xs.length cap/\a0P w a xs/\xs.length<=cap/\cap<=maxLen/\(a=none->cap=0)/\∀ ad,a=some ad->n₀<=ad.block:=by
 rcases h.2 with ⟨rfl,h0⟩ | ⟨g,cap,cur,rfl,hg,_,hc,hm,_⟩
 ·obtain rfl:=List.length_eq_zero_iff.1 h0;exact ⟨none,0,rfl,.inl rfl,Nat.le_refl _,Nat.zero_le _,fun _=>rfl,fun _ e=>by cases e⟩
 ·refine ⟨_,cap,rfl,.inr ⟨g,0,rfl,fun j p hp=>?_⟩,hc,hm,fun e=>(by cases e),fun ad e=>by cases e;exact hg⟩;have hj:=(List.getElem?_eq_some_iff.1 hp).1;rw [Nat.zero_add,Nat.zero_add,h.cellAt (j * 2) (by omega),h.cellAt (j * 2+1) (by omega)];exact q0T hp
theorem PRow.turned {w w':World} {n₀:Nat} {E:TypeId} {v:Value} {xs:List (Int × Int)} (h:PRow w n₀ E v xs) {R:Nat->Prop} (ht:Td R w w') (hn:∀ g,v.ownBlock=some g->¬ R g):PRow w' n₀ E v xs:=by
 obtain ⟨h1,h2⟩:=h;refine ⟨h1,?_⟩;rcases h2 with h2 | ⟨g,cap,cur,rfl,hg,hh,r⟩
 ·exact .inl h2
 ·exact .inr ⟨g,cap,cur,rfl,hg,ht.heap hh (hn g rfl),r⟩
theorem PRow.kept {w w':World} {n₀:Nat} {E:TypeId} {v:Value} {xs:List (Int × Int)} (h:PRow w n₀ E v xs) (ht:Kept w w'):PRow w' n₀ E v xs:=h.turned ht (fun _ _ e=>e)
theorem PRow.low {w:World} {n₀ m:Nat} {E:TypeId} {v:Value} {xs:List (Int × Int)} (h:PRow w n₀ E v xs) (hm:m<=n₀):PRow w m E v xs:=by
 obtain ⟨h1,h2⟩:=h;refine ⟨h1,?_⟩;rcases h2 with h2 | ⟨g,cap,cur,rfl,hg,r⟩
 ·exact .inl h2
 ·exact .inr ⟨g,cap,cur,rfl,Nat.le_trans hm hg,r⟩
theorem PRow.nil (w:World) (n₀:Nat) (E:TypeId):PRow w n₀ E (.slice none 0 0) []:=⟨rfl,.inl ⟨rfl,rfl⟩⟩
structure PT (S E:TypeId):Prop where
 under:Tryz.prog.underlying S=some (.slice E)
 info:(Tryz.prog.info? E).map (fun i=>(i.zero,i.size,i.bytes))=some (some (.agg #[.int .i64 0,.int .i64 0]),2,16)
theorem ptS:PT 44 49:=⟨Tryz.underlying44,by kernel_rfl⟩
theorem ptP:PT 36 43:=⟨Tryz.underlying36,by kernel_rfl⟩
theorem n0W {w:World} {m:Nat} {x y:Int} {E:TypeId} (h:w.heap[m]? = some (.cells #[.int .i64 x,.int .i64 y] E)):∀ (j:Nat) (u:Value),(flat [(x,y)])[j]? = some u->w.cell? ((⟨m,0,none⟩:Addr).add j)=some u:=by
 refine a0P.news (fun j p hp=>?_);rcases j with _ | j
 ·simp at hp;subst hp;simp [World.cell?,h]
 ·simp at hp
section
variable {S E:TypeId} {w:World} {ops:Array Oper} {rest:List Oper} {o:Oper} {a:Act} {Q:Exit->Act->World->Prop}
theorem b0F (pt:PT S E) (hgd:o.guard=none) (s x:Operand) (ho:o.op=.call { callee:=.builtin .append,args:=#[s,x],argTypes:=#[S,S] })
  (base:Nat) (v:Value) (xs ys:List (Int × Int)) (hs:a.eval s=v) (hown:PRow w base E v xs) (m:Nat) (p q:Int) (hx:a.eval x=.slice (some ⟨m,0,none⟩) 1 1) (hc:w.heap[m]? = some (.cells #[.int .i64 p,.int .i64 q] E))
  (hl:xs.length<=1000000) (hbase:base<=w.heap.size) (hy:ys=xs++[(p,q)])
  (h:∀ v' w',PRow w' base E v' ys->w.grownBy w' v.ownBlock->(v'.ownBlock=v.ownBlock∨v'.ownBlock=some w.heap.size)->wpList Tryz.prog ops Q rest (a.put o.dst v') w'):wpList Tryz.prog ops Q (o :: rest) a w:=by
 obtain ⟨i0,hi,hz0,hz1,hz2⟩:=info_parts pt.info;refine wpList_append_own_at w hgd s x S ho base E i0 _ 2 16 pt.under hi hz0 hz1 hz2 rfl (by decide) v xs.length (flat xs) hs hown ⟨m,0,none⟩ 1 1 (flat [(p,q)]) hx rfl (n0W hc) (c0M _) (by unfold maxLen;omega) (by omega) hbase ?_;intro v' w' h1 h2 _ h4;refine h v' w' ?_ h2 h4;rw [hy];show World.ownsRow _ _ _ _ _ (xs++[(p,q)]).length (flat (xs++[(p,q)]));rw [List.length_append,b0G];exact h1
theorem g0O {F:Fence} {nF:Nat} (pt:PT S E) (hgd:o.guard=none) (s x:Operand) (ho:o.op=.call { callee:=.builtin .append,args:=#[s,x],argTypes:=#[S,S] })
  (base:Nat) (v:Value) (xs ys:List (Int × Int)) (hs:a.eval s=v) (hown:PRow w base E v xs) (m:Nat) (p q:Int) (hx:a.eval x=.slice (some ⟨m,0,none⟩) 1 1) (hc:w.heap[m]? = some (.cells #[.int .i64 p,.int .i64 q] E))
  (hl:xs.length<=1000000) (hbase:base<=w.heap.size) (hy:ys=xs++[(p,q)])
  (h:∀ v' w',PRow w' base E v' ys->w.grownBy w' v.ownBlock->(v'.ownBlock=v.ownBlock∨v'.ownBlock=some w.heap.size)->wpListIn F nF Tryz.prog ops Q rest (a.put o.dst v') w'):wpListIn F nF Tryz.prog ops Q (o :: rest) a w:=by
 obtain ⟨i0,hi,hz0,hz1,hz2⟩:=info_parts pt.info;refine wpListIn_append_own_at w hgd s x S ho base E i0 _ 2 16 pt.under hi hz0 hz1 hz2 rfl (by decide) v xs.length (flat xs) hs hown ⟨m,0,none⟩ 1 1 (flat [(p,q)]) hx rfl (n0W hc) (c0M _) (by unfold maxLen;omega) (by omega) hbase ?_;intro v' w' h1 h2 _ h4;refine h v' w' ?_ h2 h4;rw [hy];show World.ownsRow _ _ _ _ _ (xs++[(p,q)]).length (flat (xs++[(p,q)]));rw [List.length_append,b0G];exact h1
theorem g0R (pt:PT S E) (hgd:o.guard=none) (s x:Operand) (ho:o.op=.call { callee:=.builtin .append,args:=#[s,x],argTypes:=#[S,S] })
  (base:Nat) (v:Value) (xs zs ys:List (Int × Int)) (hs:a.eval s=v) (hown:PRow w base E v xs) (aw:Option Addr) (M cw:Nat) (hM:zs.length=M) (hx:a.eval x=.slice aw M cw) (hr:a0P w aw zs) (h0:aw=none->cw=0)
  (hl:xs.length+zs.length<=1000000) (hbase:base<=w.heap.size) (hy:ys=xs++zs)
  (h:∀ v' w',PRow w' base E v' ys->w.grownBy w' v.ownBlock->(v'.ownBlock=v.ownBlock∨v'.ownBlock=some w.heap.size)->wpList Tryz.prog ops Q rest (a.put o.dst v') w'):wpList Tryz.prog ops Q (o :: rest) a w:=by
 obtain ⟨i0,hi,hz0,hz1,hz2⟩:=info_parts pt.info;have fin:∀ v' w',w'.ownsRow base E 2 v' (xs.length+zs.length) (flat xs++flat zs)->PRow w' base E v' ys:=fun v' w' h1=>by
  rw [hy];show World.ownsRow _ _ _ _ _ (xs++zs).length (flat (xs++zs));rw [List.length_append,b0G];exact h1
 subst hM;cases aw with
 | none=>
  have e0:zs=[]:=by
   rcases hr with e | ⟨_,_,e,_⟩
   ·exact e
   ·cases e
  subst e0;obtain rfl:=h0 rfl;refine wpList_plain hgd fun K hK=>?_;have hrun:=run_append_owned_none (P:=Tryz.prog) (w:=w) base S o.type E i0 2 pt.under hi v xs.length (flat xs) hown;unfold Oper.wp execOp;simp only [ho,resolve,invoke,builtin,Sem.run_bind,Sem.run_pure,Result.andThen_ok,List.map_toArray,List.map_cons,List.map_nil,hs,hx,List.length_nil,hrun];exact hK _ _ (h v w (by rw [hy,List.append_nil];exact hown) (World.grownBy.refl _ _) (.inl rfl))
 | some ad=>
  by_cases e0:zs=[]
  ·subst e0;exact wpList_append_own_at w hgd s x S ho base E i0 _ 2 16 pt.under hi hz0 hz1 hz2 rfl (by decide) v xs.length (flat xs) hs hown ad 0 cw [] hx rfl (by simp) (by simp) (by simp at hl;unfold maxLen;omega) (by simp at hl;omega) hbase (fun v' w' h1 h2 _ h4=>h v' w' (fin v' w' (by simpa [flat] using h1)) h2 h4)
  ·obtain ⟨bl,off,e,hrow⟩:∃ bl off,some ad=some ⟨bl,off,none⟩/\∀ j p,zs[j]? = some p->w.cell? ⟨bl,off+j * 2,none⟩=some (.int .i64 p.1)/\w.cell? ⟨bl,off+(j * 2+1),none⟩=some (.int .i64 p.2):=by
    rcases hr with e | h
    ·exact (e0 e).elim
    ·exact h
   obtain rfl:ad=⟨bl,off,none⟩:=Option.some.inj e;exact wpList_append_own_at w hgd s x S ho base E i0 _ 2 16 pt.under hi hz0 hz1 hz2 rfl (by decide) v xs.length (flat xs) hs hown ⟨bl,off,none⟩ zs.length cw (flat zs) hx (b0Q _) (a0P.news hrow) (c0M _) (by unfold maxLen;omega) (by omega) hbase (fun v' w' h1 h2 _ h4=>h v' w' (fin v' w' h1) h2 h4)
end
theorem o0G {w0 w w1:World} {E:TypeId} {v:Value} {xs:List (Int × Int)} (k:Kept w0 w) (hr:PRow w w0.heap.size E v xs) (hg:w.grownBy w1 v.ownBlock):Kept w0 w1:=
 k.own (O:=fun j=>v.ownBlock=some j) (fun i e=>(hr.lt i e).1) (Td.of_grownBy (R:=fun j=>v.ownBlock=some j) hg (fun _ h=>h))
structure Pst (S E:TypeId) (w:World) (n₀ b:Nat) (v:Value) (xs:List (Int × Int)):Prop where
 le:n₀<=b
 box:Boxed w b S v
 row:PRow w n₀ E v xs
namespace Pst
variable {S E:TypeId} {w w':World} {n₀ b:Nat} {v:Value} {xs:List (Int × Int)}
theorem turned (h:Pst S E w n₀ b v xs) {R:Nat->Prop} (ht:Td R w w') (hn:∀ k,Foot b v k->¬ R k):Pst S E w' n₀ b v xs:=
 ⟨h.le,ht.boxed h.box (hn b (.inl rfl)),h.row.turned ht (fun g hg=>hn g (.inr hg))⟩
theorem kept (h:Pst S E w n₀ b v xs) (ht:Kept w w'):Pst S E w' n₀ b v xs:=h.turned ht (fun _ _ e=>e)
theorem lt (h:Pst S E w n₀ b v xs):∀ k,Foot b v k->n₀<=k/\k < w.heap.size:=by
 rintro k (rfl | hk)
 ·exact ⟨h.le,h.box.lt⟩
 ·exact h.row.lt k hk
end Pst
def Grew (S E:TypeId) (n₀ b:Nat) (v:Value) (ys:List (Int × Int)) (w w':World):Prop:=
 ∃ v',Pst S E w' n₀ b v' ys/\Td (Foot b v) w w'/\∀ k,Foot b v' k->Foot b v k∨w.heap.size<=k
theorem grew_of {S E:TypeId} {w w1:World} {n₀ b:Nat} {v v':Value} {xs ys:List (Int × Int)} {tmp:Obj} (hSE:S≠E) (hn:n₀<=w.heap.size) (h:Pst S E w n₀ b v xs)
  (hown:PRow w1 n₀ E v' ys) (hgrow:(w.alloc tmp).grownBy w1 v.ownBlock) (hnew:v'.ownBlock=v.ownBlock∨v'.ownBlock=some (w.alloc tmp).heap.size) :
  Boxed w1 b S v/\Grew S E n₀ b v ys w (w1.setCell ⟨b,0,none⟩ v'):=by
 obtain ⟨hv1,hv2,hr2,hk2,hb2⟩:=h.box.appended hSE h.row hn h.le hown hgrow;refine ⟨hv1,v',⟨h.le,hv2,hr2⟩,?_,?_⟩
 ·have h1:Td (Foot b v) w (w.alloc tmp):=Td.alloc _ _ _;have h2:Td (Foot b v) (w.alloc tmp) w1:=Td.of_grownBy hgrow (fun k hk=>.inr hk);have h3:Td (Foot b v) w1 (w1.setCell ⟨b,0,none⟩ v'):=Td.setCell _ _ _ (.inl rfl);exact (h1.trans h2 (fun _ h=>h) (fun _ _ h=>h)).trans h3 (fun _ h=>h) (fun _ _ h=>h)
 ·rintro k (rfl | hk)
  ·exact .inl (.inl rfl)
  ·rcases hnew with e | e
   ·exact .inl (.inr (by rw [<- e];exact hk))
   ·right
    rw [e] at hk;simp at hk;omega
def Coll (S E:TypeId) (n₀ b:Nat) (f:List (Int × Int)->List (Int × Int)):Inv (Int × Int):=fun O pre A=>∃ v,(∀ j,O j↔Foot b v j)/\Pst S E A n₀ b v (f pre)
theorem Coll.good (S E:TypeId) (n₀ b:Nat) (f:List (Int × Int)->List (Int × Int)):Good (Coll S E n₀ b f):=by
 constructor
 ·rintro O pre A B ⟨v,hO,hp⟩ ht;exact ⟨v,hO,hp.turned ht (fun k hk hn=>hn ((hO k).2 hk))⟩
 ·rintro O pre A ⟨v,hO,hp⟩ k hk;exact (hp.lt k ((hO k).1 hk)).2
theorem Coll.next {S E:TypeId} {n₀ b:Nat} {f:List (Int × Int)->List (Int × Int)} {O:Nat->Prop} {pre ys:List (Int × Int)} {v:Value} {A A':World} (hO:∀ j,O j↔Foot b v j) (h:Grew S E n₀ b v ys A A') (e:f pre=ys) :
  ∃ O',Sub O' O A.heap.size/\Td O A A'/\Coll S E n₀ b f O' pre A':=by
 obtain ⟨v',hp,ht,hs⟩:=h;refine ⟨Foot b v',fun k hk=>(hs k hk).imp (fun h=>(hO k).2 h) id,ht.mono (fun k _ hk=>(hO k).2 hk),v',fun _=>Iff.rfl,by rw [e];exact hp⟩
theorem g0I {α:Type}:Good (fun (_:Nat->Prop) (_:List α) (_:World)=>False):=⟨fun _ _ _ _ h _=>h,fun _ _ _ h=>h.elim⟩
end
section
open Go.Shelf
attribute [local go_sem] Oper.semAt_some
def d0F (E:TypeId) (xs:List (Int × Int)) (w:World) (e:Ending) (w':World):Prop:=∃ v,e=.returned v/\PRow w' w.heap.size E v xs/\Kept w w'
set_option maxHeartbeats 1000000 in
theorem q0X (w W:World) (hk:Kept w W) (b:Nat) (s:Mst) (hM:PM w b s) (ho:s.ok) (f:Nat) (hw:Wf s f (s.logicZ 6)) (hl:(b0K s f).length<=70000) (B1:Nat) (h1:Boxed W B1 23 (.pointer (some ⟨b,0,none⟩))) :
  Calls Tryz.prog 124 #[.slice none 0 0,.func (.func 125) #[] #[.pointer (some ⟨B1,0,none⟩)]] W (d0F 49 (b0K s f) W):=by
 obtain ⟨n,hn⟩:∃ n,W.heap.size=n:=⟨_,rfl⟩;have t2:Kept W (W.alloc (.cells #[.slice none 0 0] 44)):=(Kept.refl W).alloc _;have hP:Pst 44 49 (W.alloc (.cells #[.slice none 0 0] 44)) n n (.slice none 0 0) []:=⟨Nat.le_refl _,by rw [<- hn];exact Boxed.new W 44 _,PRow.nil _ _ _⟩;have HP:=gh hP;have BB:=gh (t2.boxed h1 id);have K2:=gh (hk.trans t2);have T2:=gh t2;have HM:=gh hM;have HO:=gh ho;have HW:=gh hw;have HL:=gh hl;have zw:=hk.size;have HB1:=gh h1.lt;have HN:=gh hn;clear hP h1 hk t2 hM ho hw hl;refine c0L Tryz.func124 rfl ?_;simp only [Tryz.ntmps124,List.size_toArray,List.length_cons,List.length_nil,Nat.reduceAdd,Nat.reduceSub,Array.replicate_succ,Array.replicate_zero,List.push_toArray,List.append_toArray,List.nil_append,List.cons_append];go_wp2_with (fail);obtain ⟨W2,hW2⟩:∃ W2,W.alloc (.cells #[.slice none 0 0] 44)=W2:=⟨_,rfl⟩;have z2:W2.heap.size=n+1:=by rw [<- hW2];simp [hn]
 rw [hW2] at HP BB K2 T2 ⊢;clear hW2 hn;have HZ2:=gh z2;clear z2;refine h0F (gf:=125) rfl (enters_of Tryz.func125 (by kernel_rfl) rfl) (encs:=encS) (xs:=b0K s f) (R:=t0A w B1)
  (fun X hX=>p0X w X (K2.o.trans hX) b s HM.o HO.o f HW.o B1 (hX.boxed BB.o id)) (fun _=>rfl)
  (Foot n (.slice none 0 0)) (Coll 44 49 n n id) (fun _ _ _ _=>False) ?hR (Coll.good _ _ _ _ _) (fun _=>g0I) ⟨_,fun _=>Iff.rfl,HP.o⟩ (fun p=>#[.int .i64 p.1,.int .i64 p.2]) 49 ?ab ?done (fun _ _ _ _ _ _ _ _ _ _ _ h=>h.elim)
 case hR=>
  rintro k (hk | rfl)
  ·have h2:=HN.o;have h3:=HZ2.o;refine ⟨by omega,?_⟩;rintro (h | h)
   ·omega
   ·simp [Value.ownBlock] at h
  ·have h2:=HN.o;have h3:=HB1.o;have h4:=HZ2.o;refine ⟨by omega,?_⟩;rintro (h | h)
   ·omega
   ·simp [Value.ownBlock] at h
 case ab=>
  apply Exists.intro;refine ⟨?_,?_⟩
  ·intro l' p X m K hm hK;gi_wp2;exact hK
  ·rintro l' O pre ⟨sl,y⟩ rest B m hx' tB sB ⟨v,hO,hp⟩ hm nOm hWm;have hpl:pre.length<=70000:=by
    have:=congrArg List.length hx'
    simp at this
    have:=HL.o
    omega
   have zB:=tB.size;have z2:=HZ2.o;have cX:=hp.box.cell;have cm0:B.cell? ⟨m,0,none⟩=some (.int .i64 sl):=by simp [World.cell?,hm]
   have cm1:B.cell? ⟨m,1,none⟩=some (.int .i64 y):=by simp [World.cell?,hm]
   have HOO:=gh hO;have HPP:=gh hp;have hrow:=gh (PRow.kept hp.row (Kept.alloc (Kept.refl B) (.cells #[.int .i64 sl,.int .i64 y] 49)));have hnw:(B.alloc (.cells #[.int .i64 sl,.int .i64 y] 49)).heap[B.heap.size]? = some (.cells #[.int .i64 sl,.int .i64 y] 49):=a0C _ _;have HNW:=gh hnw;clear hx' tB sB hO hp hm nOm hWm hnw;gi_wp2_with (gi_at_builtin;refine Stop.out ?_);refine ⟨?_⟩;refine g0O ptS rfl _ _ rfl n v (id pre) (pre++[(sl,y)]) rfl hrow.o B.heap.size sl y rfl HNW.o (by show pre.length<=1000000;omega) (by simp;omega) rfl ?_;intro v' A1 hown hgrow hat;obtain ⟨a',cap',hv',_⟩:=hown.reads;obtain ⟨M,hMM⟩:∃ M,(pre++[(sl,y)]).length=M:=⟨_,rfl⟩;rw [hMM] at hv';clear hMM;subst hv';obtain ⟨hb1,hg⟩:=grew_of (tmp:=.cells #[.int .i64 sl,.int .i64 y] 49) (by decide) (by omega) HPP.o hown hgrow (by simpa using hat);have hc1:=hb1.cell;have hf1:=hb1.frozen;have HG:=gh hg;clear hg hown hgrow hat cX;gi_wp2;exact Coll.next HOO.o HG.o rfl
 case done=>
  rintro D O X hD nD tX sX ⟨v,hO,hp⟩ hK;have cX:=hp.box.cell;have HK:=gh hK;have HPP:=gh hp;have nD2:¬ Foot n v D:=fun h=>nD ((hO D).2 h);have ND:=gh nD2;have zX:=tX.size;have z2:=HZ2.o;have hn:=HN.o;have KX:Hid (Kept W X):=gh (T2.o.own (O:=Foot n (.slice none 0 0)) (fun i hi=>by
   rcases hi with h | h
   ·omega
   ·simp [Value.ownBlock] at h) tX)
  clear hK hp hO nD tX sX nD2 hn;go_wp2;refine a0X [D] X ?_ ?_ ?_
  ·intro k hk;simp at hk;rw [hk];exact HK.o
  ·simp
  ·intro X' hX';refine ⟨_,results_tmp rfl _ _ _,v,rfl,?_,?_⟩
   ·rw [HN.o];exact HPP.o.row.turned hX' (fun g hg h=>ND.o (.inr (by simp at h;rw [<- h];exact hg)))
   ·have:=HN.o
    exact KX.o.own (fun i hi=>by simp at hi;omega) hX'
theorem t0T (w:World) (b:Nat) (s:Mst) (h:PM w b s) (ho:s.ok) (xs:List (Int × Int)) (e1:(if b0A s=true then b0K s (fuel s) else [])=xs) :
  Calls Tryz.prog 19 #[.pointer (some ⟨b,0,none⟩)] w (d0F 49 xs w):=by
 have H:=gh h;have HO:=gh ho;obtain ⟨q,hq⟩:∃ q,b0A s=q:=⟨_,rfl⟩;have HQ:=gh hq;rw [hq] at e1;cases q with
 | false=>
  have HX:Hid (xs=[]):=gh (by rw [<- e1];rfl);clear h ho hq e1;go_enter Tryz.func19,Tryz.ntmps19;go_wp2_with (fail);refine (i0E _ b s H.o HO.o false HQ.o).mono ?_;rintro e W2 ⟨rfl,k2⟩;have K2:=gh k2;clear k2;go_wp2;go_ret;exact ⟨_,rfl,by rw [HX.o];exact PRow.nil _ _ _,K2.o⟩
 | true=>
  have HX:Hid (xs=b0K s (fuel s)):=gh (by rw [<- e1];rfl);clear h ho hq e1;go_enter Tryz.func19,Tryz.ntmps19;go_wp2_with (fail);refine (i0E _ b s H.o HO.o true HQ.o).mono ?_;rintro e W2 ⟨rfl,k2⟩;have K2:=gh k2;clear k2;go_wp2_with (fail);refine (p0W W2 b).mono ?_;rintro e W3 ⟨B1,rfl,k3,b1,l1⟩;have K3:=gh (K2.o.trans k3);have BB:=gh b1;clear k3 b1 l1;go_wp2_with (fail);refine (show Calls Tryz.prog 71 #[.func (.func 125) #[] #[.pointer (some ⟨B1,0,none⟩)]] W3 (d0F 49 (b0K s (fuel s)) W3) from ?_).mono ?_
  ·have HS:=gh (q0X w W3 K3.o b s H.o HO.o (fuel s) (j0T HO.o HQ.o) (i0C HO.o HQ.o) B1 BB.o);go_enter Tryz.func71,Tryz.ntmps71;go_wp2_with (fail);refine HS.o.mono ?_;rintro e W4 ⟨v,rfl,hr,k4⟩;have HR:=gh hr;have K4:=gh k4;clear hr k4 HS;go_wp2;go_ret;exact ⟨_,rfl,HR.o,K4.o⟩
  ·rintro e W4 ⟨v,rfl,hr,k4⟩;have HR:=gh (hr.low K3.o.size);have K4:=gh (K3.o.trans k4);clear hr k4;go_wp2;go_ret;exact ⟨_,rfl,by rw [HX.o];exact HR.o,K4.o⟩
end
section
open Go.Shelf
attribute [local go_sem] Oper.semAt_some
def c0E (s:Mst) (x:Int):List (Int × Int):=if kd x=2 then [(s.look (ad x),s.look (ad x+1))] else []
theorem k0N (s:Mst) (x:Int):(c0E s x).length<=1:=by unfold c0E;split <;> simp
def a0V (s:Mst) (f:Nat) (x:Int):List (Int × Int):=c0E s x++(a0L s f x).flatMap (fun p=>c0E s p.2)
def d0H (s:Mst) (x:Int):List (Int × Int):=if d0D s x=true then a0V s (fuel s) x else []
theorem m0G (s:Mst) (L:List (Int × Int)):(L.flatMap (fun p=>c0E s p.2)).length<=L.length:=by
 induction L with
 | nil=>simp
 | cons p L ih=>
  have:=k0N s p.2
  rw [List.flatMap_cons,List.length_append,List.length_cons];omega
def AppPost (W:World) (n₀:Nat) (v:Value) (ys:List (Int × Int)) (e:Ending) (W':World):Prop:=
 ∃ v',e=.returned v'/\PRow W' n₀ 43 v' ys/\Td (fun k=>v.ownBlock=some k) W W'/\(v'.ownBlock=v.ownBlock∨∃ k,v'.ownBlock=some k/\W.heap.size<=k)
theorem j0D (W:World) (b:Nat) (s:Mst) (x:Int) (n₀:Nat) (v:Value) (xs ys:List (Int × Int)) (h:PM W b s) (hx:I64 x) (hr:PRow W n₀ 43 v xs) (hl:xs.length<=1000000) (hn:n₀<=W.heap.size) (e1:ys=xs++c0E s x) :
  Calls Tryz.prog 122 #[v,.pointer (some ⟨b,0,none⟩),.int .i64 x] W (AppPost W n₀ v ys):=by
 have H:=gh h;have HX:=gh hx;have HR:=gh hr;have HL:=gh hl;have HN:=gh hn;obtain ⟨k,hk⟩:∃ k,kd x=k:=⟨_,rfl⟩;obtain ⟨p,hp⟩:∃ p,ad x=p:=⟨_,rfl⟩;have pr:=a0U x;rw [hp] at pr;obtain ⟨p0,p1⟩:=pr;have HK:=gh hk;have HP:=gh hp;obtain ⟨la,lc,hv,_⟩:=hr.reads;obtain ⟨M,hM⟩:∃ M,xs.length=M:=⟨_,rfl⟩;rw [hM] at hv
 by_cases k2:k=2
 ·obtain ⟨z,hz⟩:∃ z,s.look p=z:=⟨_,rfl⟩;obtain ⟨u,hu⟩:∃ u,s.look (p+1)=u:=⟨_,rfl⟩;have HZ:=gh hz;have HU:=gh hu;have HE:Hid (ys=xs++[(z,u)]):=gh (by rw [e1,c0E,if_pos (by rw [hk];exact k2),hp,hz,hu]);subst hv k2;clear h hx hr hl hn hk hp e1 hM hz hu;go_enter Tryz.func122,Tryz.ntmps122;go_wp2_with (fail);refine (kk_p _ x 2 HX.o HK.o).mono ?_;rintro e w' ⟨rfl,rfl⟩;go_wp2_with (fail);refine (ak_p _ x p HX.o HP.o).mono ?_;rintro e w' ⟨rfl,rfl⟩;go_wp2_with (fail);refine (lk_p _ b s _ z H.o (by first | exact HZ.o | simpa using HZ.o)).mono ?_;rintro e w' ⟨rfl,rfl⟩;go_wp2_with (fail);refine (lk_p _ b s (p+1) u H.o HU.o).mono ?_;rintro e w' ⟨rfl,rfl⟩;go_wp2_with (at_builtin;refine Stop.out ?_);refine ⟨?_⟩;have HRA:=gh (HR.o.kept (Kept.alloc (Kept.refl W) (.cells #[.int .i64 z,.int .i64 u] 43)));have HNW:Hid ((W.alloc (.cells #[.int .i64 z,.int .i64 u] 43)).heap[W.heap.size]? = some (.cells #[.int .i64 z,.int .i64 u] 43)):=gh (a0C _ _);refine b0F ptP rfl _ _ rfl n₀ _ xs ys rfl HRA.o W.heap.size z u rfl HNW.o HL.o (by have:=HN.o;simp;omega) HE.o ?_;intro v1 W1 hown hg hat;have T1:Hid (Td (fun k=>(Value.slice la M lc).ownBlock=some k) W W1):=gh ((Td.alloc (fun _=>False) W _).trans (Td.of_grownBy (R:=fun k=>(Value.slice la M lc).ownBlock=some k) hg (fun _ h=>h)) (fun _ h=>h.elim) (fun _ _ h=>h));have HR1:=gh hown;have HAT:Hid (v1.ownBlock=(Value.slice la M lc).ownBlock∨∃ k,v1.ownBlock=some k/\W.heap.size<=k):=gh (by
   rcases hat with h | h
   ·exact .inl h
   ·exact .inr ⟨_,h,by simp⟩)
  clear hown hg hat HRA HNW;go_wp2;go_ret;exact ⟨_,rfl,HR1.o,T1.o,HAT.o⟩
 ·have HE:Hid (ys=xs):=gh (by rw [e1,c0E,if_neg (by rw [hk];exact k2),List.append_nil]);have g1:(k == 2)=false:=by simp [k2]
  have g2:(k != 2)=true:=by simp [k2]
  subst hv;clear h hx hr hl hn hk hp e1 hM k2;go_enter Tryz.func122,Tryz.ntmps122;go_wp2_with (fail);refine (kk_p _ x k HX.o HK.o).mono ?_;rintro e w' ⟨rfl,rfl⟩;go_wp2;go_ret;exact ⟨_,rfl,by rw [HE.o];exact HR.o,Td.refl _ _,.inl rfl⟩
theorem grew_set {W W':World} {n₀ b:Nat} {v v':Value} {xs ys:List (Int × Int)} (h:Pst 36 43 W n₀ b v xs) (hr:PRow W' n₀ 43 v' ys) (ht:Td (fun k=>v.ownBlock=some k) W W') (hnew:v'.ownBlock=v.ownBlock∨∃ k,v'.ownBlock=some k/\W.heap.size<=k) :
  Boxed W' b 36 v/\Grew 36 43 n₀ b v ys W (W'.setCell ⟨b,0,none⟩ v'):=by
 have nb:v.ownBlock≠some b:=by
  intro e;rcases h.row.2 with ⟨rfl,_⟩ | ⟨g,cap,cur,rfl,_,hg,_⟩
  ·simp [Value.ownBlock] at e
  ·obtain rfl:g=b:=by simpa [Value.ownBlock] using e
   have:=(show W.heap[g]? = _ from h.box).symm.trans hg
   simp at this
 have nb':v'.ownBlock≠some b:=by
  rcases hnew with e | ⟨k,e,hk⟩
  ·rw [e];exact nb
  ·rw [e]
   have:=h.box.lt
   intro e';cases e';omega
 have hb:Boxed W' b 36 v:=ht.boxed h.box (fun e=>nb e);have tS:Td (fun k=>k=b) W' (W'.setCell ⟨b,0,none⟩ v'):=Td.setCell _ _ _ rfl;refine ⟨hb,v',⟨h.le,hb.set v',hr.turned tS (fun g hg e=>nb' (by rw [hg,e]))⟩,?_,?_⟩
 ·exact (ht.mono (fun k _ e=>.inr e)).trans tS (fun _ e=>e) (fun k _ e=>.inl e)
 ·rintro k (rfl | hk)
  ·exact .inl (.inl rfl)
  ·rcases hnew with e | ⟨j,e,hj⟩
   ·exact .inl (.inr (by rw [<- e];exact hk))
   ·rw [e] at hk;cases hk;exact .inr hj
set_option maxHeartbeats 1000000 in
theorem i0V (w:World) (b:Nat) (s:Mst) (h:PM w b s) (ho:s.ok) (f:Nat) (x:Int) (hw:Wf s f x) (hl:(a0L s f x).length<=70000) (zs:List (Int × Int)) (e1:a0V s f x=zs) :
  Calls Tryz.prog 68 #[.pointer (some ⟨b,0,none⟩),.int .i64 x] w (d0F 43 zs w):=by
 obtain ⟨n,hn⟩:∃ n,w.heap.size=n:=⟨_,rfl⟩;obtain ⟨W1,hW1⟩:∃ W1,w.alloc (.cells #[.pointer (some ⟨b,0,none⟩)] 23)=W1:=⟨_,rfl⟩;have t1:Kept w W1:=by rw [<- hW1];exact (Kept.refl w).alloc _
 have z1:W1.heap.size=n+1:=by rw [<- hW1];simp [hn]
 have bM:Boxed W1 n 23 (.pointer (some ⟨b,0,none⟩)):=by rw [<- hW1,<- hn];exact Boxed.new w 23 _
 have K1:=gh t1;have BM:=gh bM;have c0:=bM.cell;have H:=gh h;have HO:=gh ho;have HW:=gh hw;have HX:=gh (hw.pos.elim fun _ h=>h.2.1.i64);have HL:=gh hl;have HN:=gh hn;have Z1:=gh z1;have HE:=gh e1;clear t1 bM h ho hw hl e1 z1;refine c0L Tryz.func68 rfl ?_;simp only [Tryz.ntmps68,List.size_toArray,List.length_cons,List.length_nil,Nat.reduceAdd,Nat.reduceSub,Array.replicate_succ,Array.replicate_zero,List.push_toArray,List.append_toArray,List.nil_append,List.cons_append];go_wp2_with (fail);clear hW1 hn;refine (j0D W1 b s x n (.slice none 0 0) [] (c0E s x) (H.o.kept K1.o) HX.o (PRow.nil _ _ _) (by simp) (by have:=Z1.o;omega) rfl).mono ?_;rintro e W2 ⟨v2,rfl,r2,t2,_⟩;have k2:Kept W1 W2:=t2.mono (fun k _ e=>by simp [Value.ownBlock] at e);obtain ⟨la,lc,hv,_⟩:=r2.reads;obtain ⟨M,hM⟩:∃ M,(c0E s x).length=M:=⟨_,rfl⟩;rw [hM] at hv;subst hv;clear hM;obtain ⟨W3,hW3⟩:∃ W3,W2.alloc (.cells #[.slice la M lc] 36)=W3:=⟨_,rfl⟩;obtain ⟨m,hm⟩:∃ m,W2.heap.size=m:=⟨_,rfl⟩;have t3:Kept W2 W3:=by rw [<- hW3];exact (Kept.refl W2).alloc _
 have P3:Hid (Pst 36 43 W3 n m (.slice la M lc) (c0E s x)):=gh ⟨by have:=k2.size;have:=Z1.o;omega,by rw [<- hW3,<- hm];exact Boxed.new W2 36 _,r2.kept t3⟩;have K3:=gh (K1.o.trans (k2.trans t3));have BM3:=gh ((k2.trans t3).boxed BM.o id);have c0':=BM3.o.cell;have Z3:Hid (n+1<=m/\W3.heap.size=m+1):=gh ⟨by have:=k2.size;have:=Z1.o;omega,by rw [<- hW3];simp [hm]⟩;clear r2 t2 k2 t3 c0 BM K1;go_wp2_with (fail);clear hW3 hm;refine (below_k W3 b x).mono ?_;rintro e W4 ⟨B1,B2,rfl,k4,b1,b2,l1,l2⟩;have K4:=gh (K3.o.trans k4);have KW4:=gh k4;have BM4:=gh (k4.boxed BM3.o id);have P4:=gh (P3.o.kept k4);have BB1:=gh b1;have BB2:=gh b2;have L1:Hid (m+1<=B1/\m+1<=B2/\m+1<=W4.heap.size):=gh (by have:=Z3.o;have:=k4.size;omega);have FT:Hid (∀ k,Foot m (.slice la M lc) k->n<=k/\k < m+1):=gh (fun k hk=>by
  have:=P3.o.lt k hk
  have:=Z3.o
  omega)
 have NM:Hid (¬ Foot m (.slice la M lc) n):=gh (by
  rintro (h | h)
  ·have:=Z3.o;omega
  ·rcases P3.o.row.2 with ⟨e,_⟩ | ⟨g,cap,cur,e,_,hg,_⟩
   ·cases e;simp [Value.ownBlock] at h
   ·cases e;obtain rfl:g=n:=by simpa [Value.ownBlock] using h
    have:=(show W3.heap[g]? = _ from BM3.o).symm.trans hg
    simp at this)
 clear k4 b1 b2 l1 l2 c0';go_wp2_with (fail);refine h0F (gf:=152) rfl (enters_of Tryz.func152 (by kernel_rfl) rfl) (encs:=encS) (xs:=a0L s f x) (R:=w0N w B1 B2)
  (fun X hX=>below_i w X (K4.o.trans hX) b s H.o HO.o f x HW.o B1 B2 (hX.boxed BB1.o id) (hX.boxed BB2.o id)) (fun _=>rfl)
  (Foot m (.slice la M lc)) (Coll 36 43 n m (fun pre=>c0E s x++pre.flatMap (fun p=>c0E s p.2))) (fun _ _ _ _=>False) ?hR (Coll.good _ _ _ _ _) (fun _=>g0I) ⟨_,fun _=>Iff.rfl,by simpa using P4.o⟩ (fun p=>#[.int .i64 p.1,.int .i64 p.2]) 49 ?ab ?done (fun _ _ _ _ _ _ _ _ _ _ _ h=>h.elim)
 case hR=>
  rintro k (hk | rfl | rfl)
  ·have h1:=HN.o;have h2:=K4.o.size;refine ⟨by omega,fun h=>?_⟩
   have:=FT.o k h
   omega
  ·refine ⟨BB1.o.lt,fun h=>?_⟩
   have:=FT.o _ h
   have:=L1.o
   omega
  ·refine ⟨BB2.o.lt,fun h=>?_⟩
   have:=FT.o _ h
   have:=L1.o
   omega
 case ab=>
  apply Exists.intro;refine ⟨?_,?_⟩
  ·intro l' p X m K hm hK;gi_wp2;exact hK
  ·rintro l' O pre ⟨sl,y⟩ rest B q hx' tB sB ⟨v,hO,hp⟩ hq nOq hWq;have hmem:(sl,y) ∈ a0L s f x:=by rw [hx'];simp
   have HYI:=gh (i0D HO.o f x _ hmem);have hpl:pre.length<=70000:=by
    have:=congrArg List.length hx'
    simp at this
    have:=HL.o
    omega
   have hyl:Hid ((c0E s x++pre.flatMap (fun p=>c0E s p.2)).length<=1000000):=gh (by
    have h1:=k0N s x;have h2:=m0G s pre;rw [List.length_append];omega)
   have KB:Hid (Kept w B):=gh (K4.o.own (O:=Foot m (.slice la M lc)) (fun i hi=>by have:=FT.o i hi;have:=HN.o;omega) tB);have MB:=gh (H.o.kept KB.o);have cM:=(tB.boxed BM4.o NM.o).cell;have cX:=hp.box.cell;have cm1:B.cell? ⟨q,1,none⟩=some (.int .i64 y):=by simp [World.cell?,hq]
   have HOO:=gh hO;have HPP:=gh hp;obtain ⟨va,vc,hv,_⟩:=hp.row.reads;obtain ⟨N,hNN⟩:∃ N,(c0E s x++pre.flatMap (fun p=>c0E s p.2)).length=N:=⟨_,rfl⟩;rw [hNN] at hv;subst hv;have zB:Hid (n<=B.heap.size):=gh (by have:=KB.o.size;have:=HN.o;omega);have HYS:Hid (c0E s x++List.flatMap (fun p=>c0E s p.2) (pre++[(sl,y)])=(c0E s x++pre.flatMap (fun p=>c0E s p.2))++c0E s y):=gh (by simp);clear hx' tB sB hO hp hq nOq hWq hmem hNN;gi_wp2_with (fail);refine ⟨trivial,?_⟩;refine (CallsIn.inRound l' (callsIn_wide.2 (j0D B b s y n (.slice va N vc) _ _ MB.o HYI.o HPP.o.row hyl.o zB.o HYS.o))).mono ?_;rintro e C ⟨v',rfl,r',t',hnew⟩;obtain ⟨hb1,hg⟩:=grew_set HPP.o r' t' hnew;obtain ⟨va',vc',hv',_⟩:=r'.reads;obtain ⟨N',hN'⟩:∃ N',(c0E s x++List.flatMap (fun p=>c0E s p.2) (pre++[(sl,y)])).length=N':=⟨_,rfl⟩;rw [hN'] at hv';subst hv';have hc1:=hb1.cell;have hf1:=hb1.frozen;have HG:=gh hg;clear hg r' t' hnew cX hN';gi_wp2;exact Coll.next HOO.o HG.o rfl
 case done=>
  rintro D O X hD nD tX sX ⟨v,hO,hp⟩ hK;have cX:=hp.box.cell;have HK:=gh hK;have HPP:=gh hp;have ND:Hid (¬ Foot m v D):=gh (fun h=>nD ((hO D).2 h));have KX:Hid (Kept w X):=gh (K4.o.own (O:=Foot m (.slice la M lc)) (fun i hi=>by have:=FT.o i hi;have:=HN.o;omega) tX);have HDn:Hid (n<=D):=gh (by have:=L1.o;have:=Z3.o;omega);clear hK hp hO nD tX sX;go_wp2;refine a0X [D] X ?_ ?_ ?_
  ·intro k hk;simp at hk;rw [hk];exact HK.o
  ·simp
  ·intro X' hX';refine ⟨_,results_tmp rfl _ _ _,v,rfl,?_,?_⟩
   ·rw [HN.o,<- HE.o];exact HPP.o.row.turned hX' (fun g hg h=>ND.o (.inr (by simp at h;rw [<- h];exact hg)))
   ·exact KX.o.own (fun i hi=>by simp at hi;have:=HDn.o;have:=HN.o;omega) hX'
theorem m0T {s:Mst}:∀ {f:Nat} {x:Int},Wf s f x->∀ p ∈ a0L s f x,Wf s f p.2
 | 0,_,h,_,_=>h.elim
 | f+1,x,h,p,hp=>by
  rw [a0Q,List.mem_flatMap] at hp;obtain ⟨q,hq,hp⟩:=hp;have hq':=h.2 q hq;unfold oneF at hp;rcases List.mem_cons.1 hp with rfl | hp
  ·exact hq'.mono (by omega)
  ·exact (m0T hq' p hp).mono (by omega)
theorem wf_tgt {s:Mst} (ho:s.ok) {f:Nat} {x:Int} (h:Wf s f x):Wf s f (tgt s x):=by
 by_cases h4:kd x=4
 ·obtain ⟨g,rfl,h1,_⟩:=h.pos;exact h.down ho (h1.tg h4)
 ·rw [tgt,if_neg h4];exact h
theorem l0W {s:Mst}:∀ {f:Nat} {x:Int},Wf s f x->∀ p ∈ a0L s f x,(a0L s f p.2).length<=(a0L s f x).length
 | 0,_,h,_,_=>h.elim
 | f+1,x,h,p,hp=>by
  rw [a0Q,List.mem_flatMap] at hp;obtain ⟨q,hq,hp⟩:=hp;have hq':=h.2 q hq;have hle:(oneF s f q).length<=(a0L s (f+1) x).length:=by
   rw [a0Q];obtain ⟨L1,L2,e⟩:=List.append_of_mem hq;rw [e,List.flatMap_append,List.flatMap_cons,List.length_append,List.length_append];omega
  unfold oneF at hp hle;rw [List.length_cons] at hle;rcases List.mem_cons.1 hp with rfl | hp
  ·rw [c0R hq' (by omega)];omega
  ·have:=l0W hq' p hp
   rw [c0R (m0T hq' p hp) (by omega)];omega
theorem f0Y {s:Mst} (ho:s.ok) {x:Int} (h:d0D s x=true):Wf s (fuel s) x/\(a0L s (fuel s) x).length<=70000:=by
 unfold d0D at h;rw [Bool.and_eq_true] at h;obtain ⟨hs,ha⟩:=h;have hr:=j0T ho hs;have hlen:=i0C ho hs;rw [b0K,List.length_cons] at hlen;have all:∀ p ∈ b0K s (fuel s),Wf s (fuel s) p.2/\(a0L s (fuel s) p.2).length<=70000:=by
  intro p hp;rcases List.mem_cons.1 hp with rfl | hp
  ·exact ⟨hr,by show (a0L s (fuel s) (s.logicZ 6)).length<=70000;omega⟩
  ·exact ⟨m0T hr p hp,Nat.le_trans (l0W hr p hp) (by omega)⟩
 obtain ⟨p,hp,hm⟩:=List.any_eq_true.1 ha;obtain ⟨h1,h2⟩:=all p hp;unfold g0X at hm;simp only [Bool.or_eq_true,beq_iff_eq] at hm;rcases hm with rfl | rfl
 ·exact ⟨h1,h2⟩
 ·refine ⟨wf_tgt ho h1,?_⟩
  by_cases h4:kd p.2=4
  ·obtain ⟨g,hg,h1',_⟩:=h1.pos;rw [c0W (h1'.tg h4)];exact h2
  ·rw [tgt,if_neg h4];exact h2
theorem l0D (w:World) (b:Nat) (s:Mst) (x:Int) (h:PM w b s) (ho:s.ok) (hx:I64 x) (zs:List (Int × Int)) (e1:d0H s x=zs) :
  Calls Tryz.prog 16 #[.pointer (some ⟨b,0,none⟩),.int .i64 x] w (d0F 43 zs w):=by
 have H:=gh h;have HO:=gh ho;have HX:=gh hx;obtain ⟨q,hq⟩:∃ q,d0D s x=q:=⟨_,rfl⟩;have HQ:=gh hq;unfold d0H at e1;rw [hq] at e1;cases q with
 | false=>
  have HE:Hid (zs=[]):=gh (by rw [<- e1];rfl);clear h ho hx hq e1;go_enter Tryz.func16,Tryz.ntmps16;go_wp2_with (fail);refine (e0P _ b s x H.o HO.o HX.o false HQ.o).mono ?_;rintro e W2 ⟨rfl,k2⟩;have K2:=gh k2;clear k2;go_wp2;go_ret;exact ⟨_,rfl,by rw [HE.o];exact PRow.nil _ _ _,K2.o⟩
 | true=>
  have HE:Hid (a0V s (fuel s) x=zs):=gh e1;clear h ho hx hq e1;go_enter Tryz.func16,Tryz.ntmps16;go_wp2_with (fail);refine (e0P _ b s x H.o HO.o HX.o true HQ.o).mono ?_;rintro e W2 ⟨rfl,k2⟩;have K2:=gh k2;clear k2;go_wp2_with (fail);refine (i0V W2 b s (H.o.kept K2.o) HO.o (fuel s) x (f0Y HO.o HQ.o).1 (f0Y HO.o HQ.o).2 zs HE.o).mono ?_;rintro e W3 ⟨v,rfl,hr,k3⟩;have HR:=gh (hr.low K2.o.size);have K3:=gh (K2.o.trans k3);clear hr k3;go_wp2;go_ret;exact ⟨_,rfl,HR.o,K3.o⟩
end
section
open Go.Shelf
variable {X:Nat->Prop} {lo:Nat}
attribute [local go_sem] Oper.semAt_some
structure Gath (X:Nat->Prop) (lo:Nat) (W:World) (r:Nat) (s s':Rn) (W':World):Prop where
 lies:a0K X W' r s'
 turned:Td (fun k=>k=r∨lo<=k) W W'
 on:Rn.On s s'
 ok:s'.ok
theorem Went.gath {W W':World} {r:Nat} {s s':Rn} (h:Went X W r s s' W'):Gath X lo W r s s' W':=⟨h.at,h.ran.2.mono fun _ _ e=>.inl e,h.on,h.ok⟩
theorem Gath.trans {W W' W'':World} {r:Nat} {s s' s'':Rn} (h:Gath X lo W r s s' W') (h':Gath X lo W' r s' s'' W''):Gath X lo W r s s'' W'':=⟨h'.lies,h.turned.trans h'.turned (fun _ e=>e) (fun _ _ e=>e),h.on.trans h'.on,h'.ok⟩
theorem a0K.rlo {W:World} {r:Nat} {s:Rn} (h:a0K X W r s) (hX:∀ k,X k->k < lo):r < lo:=by
 obtain ⟨ta,tc,wa,wc,h⟩:=h;exact hX _ h.own
theorem PRow.ran {W W':World} {r:Nat} {E:TypeId} {v:Value} {xs:List (Int × Int)} (h:PRow W lo E v xs) (t:Td (fun k=>k=r) W W') (hr:r < lo):PRow W' lo E v xs:=by
 refine h.turned t ?_;obtain ⟨a,cap,rfl,_,_,_,_,hb⟩:=h.reads;intro g e hg;cases a with
 | none=>simp [Value.ownBlock] at e
 | some ad=>
  have:=hb ad rfl
  simp [Value.ownBlock] at e;omega
theorem Gath.grown {W W':World} {r:Nat} {s:Rn} {v:Value} {xs:List (Int × Int)} (hX:∀ k,X k->k < lo) (h:a0K X W r s) (ho:s.ok) (hr:PRow W lo 43 v xs) (tmp:Obj) (hg:(W.alloc tmp).grownBy W' v.ownBlock):Gath X lo W r s s W':=by
 have t0:Td (fun k=>lo<=k) W (W.alloc tmp):=Td.alloc _ _ _;have t1:Td (fun k=>lo<=k) (W.alloc tmp) W':=Td.of_grownBy hg (by
  intro k e;obtain ⟨a,cap,rfl,_,_,_,_,hb⟩:=hr.reads;cases a with
  | none=>simp [Value.ownBlock] at e
  | some ad=>
   have:=hb ad rfl
   simp [Value.ownBlock] at e;omega)
 have t:=t0.trans t1 (fun _ e=>e) (fun _ _ e=>e);exact ⟨h.above t (fun k h1 h2=>by have:=hX k h1;omega),t.mono (fun _ _ e=>.inr e),Rn.On.refl s,ho⟩
end
section
variable {X:Nat->Prop}
theorem Went.turned {W W':World} {r:Nat} {s s':Rn} (h:Went X W r s s' W'):Td (fun k=>k=r) W W':=h.ran.2
theorem Went.behind {W W' W'':World} {r:Nat} {s s':Rn} (k:Kept W W') (h:Went X W' r s s' W''):Went X W r s s' W'':=⟨Ran.behind k h.ran,h.on,h.ok⟩
theorem Rn.dcss_on (s:Rn) (g p old x:Int):Rn.On s (s.dcss g p old x).2:=by
 unfold Rn.dcss;dsimp only;generalize hm:s.make [g,p,old,x,0]=m;have h1:Rn.On s m.2:=Rn.make_on hm
 split
 ·have h2:Rn.On m.2 ({ m.2 with rc:=m.1 }:Rn):=⟨rfl,Nat.le_refl _⟩;generalize hc:({ m.2 with rc:=m.1 }:Rn).cas p old (Rf.ofZ 5 m.1)=c;have h3:=(h1.trans h2).trans (Rn.cas_on hc)
  split
  ·generalize hq:c.2.read g=q;generalize hd:q.2.cas (wrap64 (m.1+4)) 0 (if q.1=0 then 1 else 2)=d;generalize ho:d.2.read (wrap64 (m.1+4))=o;have h4:=h3.trans (((Rn.read_on hq).trans (Rn.cas_on hd)).trans (Rn.read_on ho))
   split
   ·exact h4.trans (Rn.ask_on _ _)
   ·exact h4.trans (Rn.ask_on _ _)
  ·exact h3
 ·exact h1
theorem r0Y (w:World):Calls Tryz.prog 76 #[] w (e0H [0] w):=by
 go_enter Tryz.func76,Tryz.ntmps76;go_wp2;go_ret;exact ⟨_,rfl,f0S w 2 [0] _ (Nat.le_refl _) (by simp),Td.alloc _ _ _⟩
theorem u0Y (w:World) (k v:Int):Calls Tryz.prog 174 #[.int .i64 k,.int .i64 v] w (e0H [k,v] w):=by
 go_enter Tryz.func174,Tryz.ntmps174;go_wp2;go_ret;exact ⟨_,rfl,f0S w 2 [k,v] _ (Nat.le_refl _) (by simp),Td.alloc _ _ _⟩
end
section
def cp (s:Mst):Mst:=(Mst.new s.size).make s.xs
theorem cp_xs {s:Mst} (h:(s.xs.length:Int)<=s.size):(cp s).xs=s.xs:=by
 unfold cp Mst.make
 split
 ·show []++s.xs=s.xs;simp
 ·rename_i hf
  have:s.xs=[]:=by
   apply Classical.byContradiction;intro h0;apply hf
   have:=List.length_pos_iff.2 h0
   simp [Mst.fits,Mst.new];omega
  rw [this];rfl
theorem copy_c (W:World) (n₀ b:Nat) (v:Value) (s:Mst) (h:DMem W n₀ b v s) (h1:1<=s.size) :
  Calls Tryz.prog 12 #[.pointer (some ⟨b,0,none⟩)] W fun e W'=>∃ bm,e=.returned (.pointer (some ⟨bm,0,none⟩))/\Now W W' bm (cp s):=by
 obtain ⟨la,lc,rfl,hr,hlc,hlm⟩:=h.form;have c0:=(DMem.opened h).1.2.1;have hb:b < W.heap.size:=(h.lt b (.inl rfl)).2;have hl:=h.len;have h2:=h.top;have H:=gh h;have HR:=gh hr;obtain ⟨N,hN⟩:∃ N,s.xs.length=N:=⟨_,rfl⟩;have HN:=gh hN;obtain ⟨z,hz⟩:∃ z,s.size=z:=⟨_,rfl⟩;have HZ:=gh hz;rw [hz] at c0 h1 h2;clear h hr hlc hlm hz hN;go_enter Tryz.func12,Tryz.ntmps12;go_wp2_with (fail);refine (u0P W W z (Kept.refl W) h1 h2).mono ?_;rintro e W1 ⟨rfl,N1,k1⟩;obtain ⟨bm,hbm⟩:∃ bm,W.heap.size=bm:=⟨_,rfl⟩;rw [hbm] at N1 ⊢;have c1:=(DMem.opened (H.o.kept k1)).1.1;rw [HN.o] at c1;have M1:=gh N1;have HF:Hid (cp s=(Mst.new z).make s.xs):=gh (by unfold cp;rw [HZ.o]);clear N1 k1 hbm c0;go_wp2_with (fail);rw [<- HN.o];refine (now_put W W1 bm (Mst.new z) la s.xs lc _ _ _ M1.o HR.o (by unfold maxLen;omega) rfl rfl rfl).mono ?_;rintro e W2 ⟨rfl,N2⟩;have M2:=gh N2;clear N2 M1 c1;go_wp2;go_ret;exact ⟨bm,rfl,by rw [HF.o];exact M2.o⟩
end
section
open Go.Shelf
variable {X:Nat->Prop}
attribute [local go_sem] Oper.semAt_some
end
section
theorem g0Z (w:World) (size:Int) (aq:Option Addr) (q:List Int) (cq:Nat) (ac:Option Addr) (c:List Int) (cc:Nat) (hq:Reads w aq q) (hc:Reads w ac c) (hq0:aq=none->cq=0) (hc0:ac=none->cc=0) (hlen:c.length=q.length+1) (hl:c.length<=40000) :
  Calls Tryz.prog 141 #[.int .i64 size,.slice aq q.length cq,.slice ac c.length cc] w (e0H (a0S size q c) w):=by
 have K1:Kept w (w.alloc (.cells #[.int .i64 (c.length:Int),.int .i64 size,.int .i64 0,.int .i64 0,.int .i64 0] 2)):=Td.alloc _ _ _;have R0:Hid (Row (w.alloc (.cells #[.int .i64 (c.length:Int),.int .i64 size,.int .i64 0,.int .i64 0,.int .i64 0] 2)) w.heap.size 2 (.slice (some ⟨w.heap.size,0,none⟩) 5 5) [(c.length:Int),size,0,0,0]):=gh (f0S w 2 [(c.length:Int),size,0,0,0] _ (Nat.le_refl _) (by simp));have HQ:=gh (hq.kept K1);have HC:=gh hc;have HQ0:=gh hq0;have HC0:=gh hc0;have KK:=gh K1;have n1:((c.length:Int) == (q.length:Int)+1)=true:=by simp only [beq_iff_eq];omega
 have n2:((c.length:Int) != (q.length:Int)+1)=false:=by simp only [bne_eq_false_iff_eq];omega
 have i1:(q.length:Int)<=40000:=by omega
 have HL:=gh (And.intro hlen hl);clear hq hc hq0 hc0 hlen hl K1;go_enter Tryz.func141,Tryz.ntmps141;go_wp2_with (at_builtin;refine Stop.out ?_);refine ⟨?_⟩;refine b0L rfl _ _ rfl w.heap.size _ 5 (a0H [(c.length:Int),size,0,0,0]) rfl R0.o aq q cq rfl HQ.o HQ0.o (by have:=HL.o;omega) KK.o.size ?_;intro v2 w2 hown hg _;have R2:Hid (Row w2 w.heap.size 2 v2 ([(c.length:Int),size,0,0,0]++q)):=gh (by
  show World.ownsRow _ _ 2 1 _ ([(c.length:Int),size,0,0,0]++q).length (a0H ([(c.length:Int),size,0,0,0]++q));rw [List.length_append,a0H,List.map_append];exact hown)
 have K2:=gh (c0K KK.o R0.o hg);clear hown hg R0 HQ HQ0 KK;go_wp2_with (at_builtin;refine Stop.out ?_);refine ⟨?_⟩;refine b0L rfl _ _ rfl w.heap.size _ _ (a0H ([(c.length:Int),size,0,0,0]++q)) rfl R2.o ac c cc rfl (HC.o.kept K2.o) HC0.o (by have:=HL.o;simp;omega) K2.o.size ?_;intro v3 w3 hown hg _;have R3:Hid (Row w3 w.heap.size 2 v3 (a0S size q c)):=gh (by
  show World.ownsRow _ _ 2 1 _ (a0S size q c).length (a0H (a0S size q c));rw [a0S,<- List.append_assoc,List.length_append,a0H,List.map_append];exact hown)
 have K3:=gh (c0K K2.o R2.o hg);clear hown hg R2 HC HC0 K2;go_wp2;go_ret;exact ⟨_,rfl,R3.o,K3.o⟩
theorem s0K (w:World) (k g p:Int):Calls Tryz.prog 196 #[.int .i64 k,.int .i64 g,.int .i64 p] w (e0H [k,g,p,0,0] w):=by
 go_enter Tryz.func196,Tryz.ntmps196;go_wp2;go_ret;exact ⟨_,rfl,f0S w 2 [k,g,p,0,0] _ (Nat.le_refl _) (by simp),Td.alloc _ _ _⟩
end
namespace Pt
open Go.ChangeShapes Go.WideShapes Go.ChangeAt Go.RowKit
end Pt
end Go.Proofs.YtibnlaihiahjpaaGreat
