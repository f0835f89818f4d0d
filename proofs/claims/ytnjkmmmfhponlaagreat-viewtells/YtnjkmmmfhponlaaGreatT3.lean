/-
  What the proof of YtnjkmmmfhponlaaGreatU2 goes by, part 3 of 11: contracts and plain facts; each part begins with its own sentence. No conditions beyond each theorem's own.
-/
import Derived.Test.YtnjkmmmfhponlaaGreatT2
import Derived.Shelf.Strconv.Itoa0
import Derived.Test.YtnjkmmmfhponlaaGreatProg
import Derived.Lib.BitFns
import Derived.Lib.ItoaNum
import Derived.Test.YtnjkmmmfhponlaaGreatRows
import Derived.WalkKit
import Derived.WalkLawsBesides
import Derived.ProofKit
import Derived.OpenShut
import Derived.LoopTactic
import Derived.Laws.OwnMore
import Derived.Maps.OwnIn
import Derived.Maps.AppendAt
namespace Go.Proofs.YtnjkmmmfhponlaaGreat
open Go.RowKit
section
open Go.Shelf
attribute [local go_sem] Oper.semAt_some
abbrev encS (x:Int × Int):Array Value:=#[.agg #[.int .i64 x.1,.int .i64 x.2]]
def Rose (J Jx:Inv (Int × Int)) (O:Nat→Prop) (A:World) (xs pre':List (Int × Int)) (e:Ending) (A':World):Prop:=
 ∃ O',Sub O' O A.heap.size∧Td O A A'∧((e=.returned (.bool true)∧J O' pre' A')∨(e=.returned (.bool false)∧∃ p r,xs=p++r∧Jx O' p A'))
def Rounds (l:Nat) (O₀:Nat→Prop) (J Jx:Inv (Int × Int)) (W:World) (xs:List (Int × Int)):Prop:=
 ∀ O pre x rest A,xs=pre++x :: rest→Td O₀ W A→Sub O O₀ W.heap.size→J O pre A→YieldAt Fence.wide 9 Tryz.prog l (encS x) A (RoundEnds J Jx O (pre++[x]) A)
def oneF (s:Mst) (f:Nat) (p:Int × Int):List (Int × Int):=(p.2,s.logicZ p.2) :: spotsF s f (s.logicZ p.2)
theorem spotsF_succ (s:Mst) (f:Nat) (x:Int):spotsF s (f+1) x=(slotsL s x).flatMap (oneF s f):=rfl
def Mid (J:Inv (Int × Int)) (pre:List (Int × Int)) (F:Int × Int→List (Int × Int)) (n:Nat):Inv (Int × Int):=fun OO pre' A=>
 ∃ O,(∀ k,OO k↔O k∨k=n)∧¬ O n∧J O (pre++pre'.flatMap F) A∧Boxed A n 4 (.bool false)
def MidX (Jx:Inv (Int × Int)) (xs:List (Int × Int)) (n:Nat):Inv (Int × Int):=fun OO _ A=>
 ∃ O p r,(∀ k,OO k↔O k∨k=n)∧¬ O n∧xs=p++r∧Jx O p A∧Boxed A n 4 (.bool false)
theorem Mid.good {J:Inv (Int × Int)} (h:Good J) (pre:List (Int × Int)) (F:Int × Int→List (Int × Int)) (n:Nat):Good (Mid J pre F n):=by
 constructor
 ·rintro OO pre' A B ⟨O,e,h1,hj,hb⟩ ht
  exact ⟨O,e,h1,h.abides _ _ _ _ hj (ht.mono fun k _ hk hn=>hk ((e k).2 (.inl hn))),ht.boxed hb (fun hn=>hn ((e n).2 (.inr rfl)))⟩
 ·rintro OO pre' A ⟨O,e,_,hj,hb⟩ k hk
  rcases (e k).1 hk with hk | rfl
  ·exact h.within _ _ _ hj k hk
  ·exact hb.lt
theorem MidX.good {Jx:Inv (Int × Int)} (h:Good Jx) (xs:List (Int × Int)) (n:Nat):Good (MidX Jx xs n):=by
 constructor
 ·rintro OO pre' A B ⟨O,p,r,e,h1,hx,hj,hb⟩ ht
  exact ⟨O,p,r,e,h1,hx,h.abides _ _ _ _ hj (ht.mono fun k _ hk hn=>hk ((e k).2 (.inl hn))),ht.boxed hb (fun hn=>hn ((e n).2 (.inr rfl)))⟩
 ·rintro OO pre' A ⟨O,p,r,e,_,_,hj,hb⟩ k hk
  rcases (e k).1 hk with hk | rfl
  ·exact h.within _ _ _ hj k hk
  ·exact hb.lt
theorem Sub.more {O' O:Nat→Prop} {n m:Nat} (h:Sub O' O m) (k:n≤m):Sub O' O n:=fun i hi=>(h i hi).imp id (fun e=>Nat.le_trans k e)
theorem good_if {J:Inv (Int × Int)} (h:Good J) (c d:Code):Good (fun O pre A=>c=d∧J O pre A):=
 ⟨fun _ _ _ _ hj ht=>⟨hj.1,h.abides _ _ _ _ hj.2 ht⟩,fun _ _ _ hj=>h.within _ _ _ hj.2⟩
set_option maxHeartbeats 2000000 in
theorem goBelow_p {w W:World} (hk:Kept w W) {b:Nat} {s:Mst} (hM:PM w b s) (ho:s.ok) {l:Nat} {O₀:Nat→Prop} {J Jx:Inv (Int × Int)} (gJ:Good J) (gJx:Good Jx) {xs:List (Int × Int)} (hN:∀ k,k < w.heap.size→¬ O₀ k) (hY:Rounds l O₀ J Jx W xs) :
  ∀ (f:Nat) (x:Int) (pre rest:List (Int × Int)) (O:Nat→Prop) (A:World),Wf s f x→xs=pre++(spotsF s f x++rest)→Td O₀ W A→Sub O O₀ W.heap.size→J O pre A→
  Calls Tryz.prog 129 #[.pointer (some ⟨b,0,none⟩),.int .i64 x,.func (.yield l) #[] #[]] A (Rose J Jx O A xs (pre++spotsF s f x))
 | 0,_,_,_,_,_,h,_,_,_,_=>h.elim
 | f+1,x,pre,rest,O,A,hw,hx,hA,hO,hj=>by
  have ih:=goBelow_p hk hM ho gJ gJx hN hY f
  obtain ⟨hwh,hwk⟩:=hw
  rw [spotsF_succ] at hx ⊢
  have hkA:Kept w A:=Td.trans hk hA (fun _ e=>e) (fun i hi e=>hN i hi e)
  have hw0:=gJ.within _ _ _ hj
  have hk_size:=hk.size
  have HM:=gh hM
  have HO:=gh ho
  have HY:=gh hY
  have IH:=gh ih
  have HX:=gh hx
  have HWK:=gh hwk
  have HWH:=gh hwh
  have HA:=gh hA
  have HSO:=gh hO
  have HKA:=gh hkA
  have HJ:=gh hj
  have HN:=gh hN
  have HW0:=gh hw0
  clear ih hx hwk hwh hA hO hj hkA hw0
  refine calls_marks Tryz.func129 rfl ?_
  simp only [Tryz.ntmps129,List.size_toArray,List.length_cons,List.length_nil,Nat.reduceAdd,Nat.reduceSub,Array.replicate_succ,Array.replicate_zero,List.push_toArray,List.append_toArray,List.nil_append,List.cons_append]
  go_wp2_with (fail)
  obtain ⟨n,hn⟩:∃ n,A.heap.size=n:=⟨_,rfl⟩
  obtain ⟨W1,hW1⟩:∃ W1,((A.alloc (.cells #[.pointer (some ⟨b,0,none⟩)] 36)).alloc (.cells #[.func (.yield l) #[] #[]] 175)).alloc (.cells #[.bool false] 4)=W1:=⟨_,rfl⟩
  have z1:W1.heap.size=n+3:=by rw [← hW1];simp [hn]
  have t1:Kept A W1:=by
   rw [← hW1]
   exact (((Kept.refl A).alloc _).alloc _).alloc _
  have bx:∀ (X:World) (T:TypeId) (v:Value) (m:Nat),X.heap.size=m→Boxed (X.alloc (.cells #[v] T)) m T v:=fun X T v m e=>by rw [← e];exact Boxed.new X T v
  have bM:Boxed W1 n 36 (.pointer (some ⟨b,0,none⟩)):=by
   rw [← hW1];exact ((bx A 36 _ n hn).alloc _).alloc _
  have bY:Boxed W1 (n+1) 175 (.func (.yield l) #[] #[]):=by
   rw [← hW1];exact (bx _ 175 _ (n+1) (by simp [hn])).alloc _
  have bR:Boxed W1 (n+2) 4 (.bool false):=by
   rw [← hW1];exact bx _ 4 _ (n+2) (by simp [hn])
  rw [hW1,hn]
  clear hW1 bx
  refine (slots_k W1 b x).mono ?_
  rintro e W2 ⟨B1,B2,rfl,t2,b3,b4,l3,l4⟩
  have HN0:Hid (A.heap.size=n):=gh hn
  have KA2:=gh (t1.trans t2)
  have KW2:=gh (HKA.out.trans KA2.out)
  have BM:=gh (t2.boxed bM id)
  have BY:=gh (t2.boxed bY id)
  have BR:=gh (t2.boxed bR id)
  have B3:=gh b3
  have B4:=gh b4
  have Z2:Hid (n+3≤W2.heap.size):=gh (by have:=t2.size;omega)
  have L3:Hid (n+3≤B1∧n+3≤B2):=gh (by omega)
  have HJ2:Hid (J O pre W2):=gh (gJ.abides _ _ _ _ HJ.out (KA2.out.mono fun _ _ h=>h.elim))
  have hOn:∀ k,O k→k < n:=fun k hk=>by have:=HW0.out k hk;have:=HN0.out;omega
  have HON:=gh hOn
  clear hn z1 t1 bM bY bR t2 b3 b4 l3 l4 hOn
  go_wp2_with (fail)
  refine wp_range2 (gf:=172) rfl (enters_of Tryz.func172 (by kernel_rfl) rfl) (encs:=enc2) (xs:=slotsL s x) (R:=SlotR w B1 B2)
   (fun X hX=>slots_i w X (KW2.out.trans hX) b s HM.out HO.out x HWH.out B1 B2 (hX.boxed B3.out id) (hX.boxed B4.out id)) (fun _=>rfl)
   (fun k=>O k∨k=n+2) (Mid J pre (oneF s f) (n+2)) (fun c OO pre' A'=>c=.ret∧MidX Jx xs (n+2) OO pre' A') ?hR (Mid.good gJ _ _ _) (fun c=>good_if (MidX.good gJx _ _) c .ret)
   ⟨O,fun _=>Iff.rfl,fun h=>by have:=HON.out _ h;omega,by simpa using HJ2.out,BR.out⟩ ?ab ?done ?stop
  case hR=>
   rintro k (hk | rfl | rfl)
   ·have h1:=KW2.out.size
    have h2:=HKA.out.size
    have h3:=HN0.out
    refine ⟨by omega,?_⟩
    rintro (h | rfl)
    ·rcases HSO.out k h with h | h
     ·exact HN.out k hk h
     ·have:=hk_size;omega
    ·omega
   ·have h1:=B3.out.lt
    have h2:=L3.out
    refine ⟨h1,?_⟩
    rintro (h | h)
    ·have:=HON.out _ h;omega
    ·omega
   ·have h1:=B4.out.lt
    have h2:=L3.out
    refine ⟨h1,?_⟩
    rintro (h | h)
    ·have:=HON.out _ h;omega
    ·omega
  case ab=>
   apply Exists.intro
   refine ⟨?_,?_⟩
   ·intro l' p X K hK
    gi_wp2
    exact hK
   ·rintro l' OO pre' ⟨pi,sl⟩ rest' B hx' tB sB ⟨Oi,eO,nO,jB,rB⟩
    obtain ⟨y,hy⟩:∃ y,s.logicZ sl=y:=⟨_,rfl⟩
    have HYY:=gh hy
    have hwf:Wf s f y:=by
     have:=HWK.out (pi,sl) (by rw [hx'];simp)
     rwa [hy] at this
    have HWF:=gh hwf
    have hone:oneF s f (pi,sl)=(sl,y) :: spotsF s f y:=by rw [oneF,hy]
    have HX1:Hid (xs=(pre++pre'.flatMap (oneF s f))++(sl,y) :: (spotsF s f y++(rest'.flatMap (oneF s f)++rest))):=gh (by
     rw [HX.out,hx',List.flatMap_append,List.flatMap_cons,hone];simp)
    have HONE:=gh hone
    have zA:=HN0.out
    have zW:=HA.out.size
    have nOn:∀ k,n≤k→k≠n+2→¬ (O k∨k=n+2):=fun k h1 h2 h=>by
     rcases h with h | h
     ·have:=HON.out _ h;omega
     ·exact h2 h
    have cM:=tB.cell BM.out.cell (nOn n (by omega) (by omega))
    have cY:=tB.cell BY.out.cell (nOn (n+1) (by omega) (by omega))
    have low:∀ i,i < W.heap.size→(O i∨i=n+2)→O₀ i:=fun i hi h=>by
     rcases h with h | h
     ·rcases HSO.out i h with h | h
      ·exact h
      ·omega
     ·omega
    have TAB:Hid (Td O₀ W B):=gh (Td.trans (Kept.behind HA.out KA2.out) tB (fun _ e=>e) low)
    have KB:Hid (Kept w B):=gh (Td.trans KW2.out tB (fun _ e=>e) (fun i hi h=>HN.out i hi (low i (by omega) h)))
    have SAB:Hid (Sub Oi O₀ W.heap.size):=gh (fun k hk=>by
     rcases sB k ((eO k).2 (.inl hk)) with (h | h) | h
     ·exact HSO.out k h
     ·exact .inr (by omega)
     ·exact .inr (by have:=KA2.out.size;omega))
    have NOI:Hid (∀ k,n≤k→k < n+2→¬ Oi k):=gh (fun k h1 h2 hk=>by
     rcases sB k ((eO k).2 (.inl hk)) with (h | h) | h
     ·have:=HON.out _ h;omega
     ·omega
     ·have:=Z2.out;omega)
    have MB:=gh (HM.out.kept KB.out)
    have inB:=gJ.within _ _ _ jB
    have INB:=gh inB
    have JB:=gh jB
    have RB:=gh rB
    have EO:=gh eO
    have NO:=gh nO
    have ltM:=BM.out.lt
    have zB:=tB.size
    have LTN:Hid (n+3≤B.heap.size):=gh (by have:=Z2.out;omega)
    clear hy hwf hone hx' tB sB jB rB eO nO nOn low inB ltM zB zA zW
    gi_wp2_with (fail)
    refine ⟨trivial,?_⟩
    refine (CallsIn.inRound l' (callsIn_wide.2 (spotAt_p _ b s sl y MB.out HO.out HYY.out))).mono ?_
    rintro e C ⟨rfl,kC⟩
    have KC:=gh (Kept.alloc kC (.cells #[.int .i64 sl,.int .i64 y] 94))
    have cq0:(C.alloc (.cells #[.int .i64 sl,.int .i64 y] 94)).heap[C.heap.size]? = some (.cells #[.int .i64 sl,.int .i64 y] 94):=heap_new _ _
    have CQ:=gh cq0
    have ZC:=gh kC.size
    have cM2:=KC.out.cell cM id
    have cY2:=KC.out.cell cY id
    have jC:=gJ.abides _ _ _ _ JB.out (KC.out.mono fun _ _ h=>h.elim)
    obtain ⟨fn,tmps,assign,body,hyy,hRd⟩:=HY.out Oi (pre++pre'.flatMap (oneF s f)) (sl,y) _ _ HX1.out (Kept.behind TAB.out KC.out) SAB.out jC
    have hRd':=fun m=>round_any (m':=m) (l':=l') hRd
    dsimp only [encS] at hyy
    clear hRd kC jC cq0
    gi_wp2
    refine (hRd' _).mono ?_
    rintro e E ⟨O3,s3,t3,⟨rfl,j3⟩ | ⟨rfl,j3⟩⟩
    ·have nC:¬ Oi C.heap.size:=fun h=>by have:=INB.out _ h;have:=ZC.out;omega
     have cM3:=t3.cell cM2 (NOI.out n (by omega) (by omega))
     have cY3:=t3.cell cY2 (NOI.out (n+1) (by omega) (by omega))
     have cq:=t3.heap CQ.out nC
     have cq1:E.cell? ⟨C.heap.size,1,none⟩=some (.int .i64 y):=by simp [World.cell?,cq]
     have TAC:Hid (Td O₀ W (C.alloc (.cells #[.int .i64 sl,.int .i64 y] 94))):=gh (Kept.behind TAB.out KC.out)
     have T3:=gh (TAC.out.sub t3 SAB.out)
     have S3:=gh (s3.trans SAB.out TAC.out.size)
     have TB3:=gh (Kept.then KC.out t3)
     have SB3:=gh (s3.more KC.out.size)
     have N3:Hid (¬ O3 (n+2)):=gh (fun h=>by
      rcases s3 _ h with h | h
      ·exact NO.out h
      ·have h1:=LTN.out;have h2:=KC.out.size;omega)
     have R3:Hid (Boxed E (n+2) 4 (.bool false)):=gh (t3.boxed (KC.out.boxed RB.out id) NO.out)
     have HX2:Hid (xs=(pre++pre'.flatMap (oneF s f))++[(sl,y)]++(spotsF s f y++(rest'.flatMap (oneF s f)++rest))):=gh (by rw [HX1.out];simp)
     have J3:=gh j3
     clear s3 t3 j3 cq hyy hRd' cM2 cY2 cM cY nC
     gi_wp2_with (fail)
     refine ⟨trivial,?_⟩
     refine (CallsIn.inRound l' (callsIn_wide.2 (IH.out y _ _ O3 E HWF.out HX2.out T3.out S3.out J3.out))).mono ?_
     rintro e G ⟨O4,s4,t4,⟨rfl,j4⟩ | ⟨rfl,p4,r4,hx4,j4⟩⟩
     ·have F4:Hid (∃ O',Sub O' OO B.heap.size∧Td OO B G∧Mid J pre (oneF s f) (n+2) O' (pre'++[(pi,sl)]) G):=gh (by
       refine ⟨fun k=>O4 k∨k=n+2,?_,?_,O4,fun _=>Iff.rfl,?_,?_,?_⟩
       ·rintro k (h | rfl)
        ·rcases s4 k h with h | h
         ·rcases SB3.out k h with h | h
          ·exact .inl ((EO.out k).2 (.inl h))
          ·exact .inr h
         ·exact .inr (by have:=TB3.out.size;omega)
        ·exact .inl ((EO.out _).2 (.inr rfl))
       ·exact (TB3.out.sub t4 SB3.out).mono (fun k _ h=>(EO.out k).2 (.inl h))
       ·intro h
        rcases s4 _ h with h | h
        ·exact N3.out h
        ·have h1:=LTN.out;have h2:=TB3.out.size;omega
       ·have:pre++List.flatMap (oneF s f) (pre'++[(pi,sl)])=pre++pre'.flatMap (oneF s f)++[(sl,y)]++spotsF s f y:=by
         rw [List.flatMap_append,List.flatMap_cons,HONE.out];simp
        rw [this]
        exact j4
       ·exact t4.boxed R3.out N3.out)
      clear s4 t4 j4
      gi_wp2
      exact F4.out
     ·have F4:Hid (∃ O',Sub O' OO B.heap.size∧Td OO B (G.setCell ⟨n+2,0,none⟩ (.bool false))∧MidX Jx xs (n+2) O' (pre'++[(pi,sl)]) (G.setCell ⟨n+2,0,none⟩ (.bool false))):=gh (by
       have n4:¬ O4 (n+2):=by
        intro h
        rcases s4 _ h with h | h
        ·exact N3.out h
        ·have h1:=LTN.out;have h2:=TB3.out.size;omega
       have tS:Td (fun k=>k=n+2) G (G.setCell ⟨n+2,0,none⟩ (.bool false)):=Td.setCell _ _ _ rfl
       refine ⟨fun k=>O4 k∨k=n+2,?_,?_,O4,p4,r4,fun _=>Iff.rfl,n4,hx4,?_,?_⟩
       ·rintro k (h | rfl)
        ·rcases s4 k h with h | h
         ·rcases SB3.out k h with h | h
          ·exact .inl ((EO.out k).2 (.inl h))
          ·exact .inr h
         ·exact .inr (by have:=TB3.out.size;omega)
        ·exact .inl ((EO.out _).2 (.inr rfl))
       ·exact ((TB3.out.sub t4 SB3.out).mono (fun k _ h=>(EO.out k).2 (.inl h))).trans tS (fun _ h=>h) (fun k _ h=>(EO.out k).2 (.inr h))
       ·exact gJx.abides _ _ _ _ j4 (tS.mono fun k _ h hO=>n4 (by rw [← h];exact hO))
       ·exact (t4.boxed R3.out N3.out).set _)
      have c6:=(t4.boxed R3.out N3.out).cell
      have f6:=(t4.boxed R3.out N3.out).frozen
      clear s4 t4 j4 hx4
      gi_wp2
      obtain ⟨O',q1,q2,q3⟩:=F4.out
      exact ⟨O',q1,q2,rfl,q3⟩
    ·have N3:Hid (¬ O3 (n+2)):=gh (fun h=>by
      rcases s3 _ h with h | h
      ·exact NO.out h
      ·have h1:=LTN.out;have h2:=KC.out.size;omega)
     have R3:Hid (Boxed E (n+2) 4 (.bool false)):=gh (t3.boxed (KC.out.boxed RB.out id) NO.out)
     have F4:Hid (∃ O',Sub O' OO B.heap.size∧Td OO B (E.setCell ⟨n+2,0,none⟩ (.bool false))∧MidX Jx xs (n+2) O' (pre'++[(pi,sl)]) (E.setCell ⟨n+2,0,none⟩ (.bool false))):=gh (by
      have tS:Td (fun k=>k=n+2) E (E.setCell ⟨n+2,0,none⟩ (.bool false)):=Td.setCell _ _ _ rfl
      refine ⟨fun k=>O3 k∨k=n+2,?_,?_,O3,_,_,fun _=>Iff.rfl,N3.out,(show xs=(pre++pre'.flatMap (oneF s f)++[(sl,y)])++(spotsF s f y++(rest'.flatMap (oneF s f)++rest)) by rw [HX1.out];simp),?_,?_⟩
      ·rintro k (h | rfl)
       ·rcases s3 k h with h | h
        ·exact .inl ((EO.out k).2 (.inl h))
        ·exact .inr (by have:=KC.out.size;omega)
       ·exact .inl ((EO.out _).2 (.inr rfl))
      ·exact ((Kept.then KC.out t3).mono (fun k _ h=>(EO.out k).2 (.inl h))).trans tS (fun _ h=>h) (fun k _ h=>(EO.out k).2 (.inr h))
      ·exact gJx.abides _ _ _ _ j3 (tS.mono fun k _ h hO=>N3.out (by rw [← h];exact hO))
      ·exact R3.out.set _)
     have c6:=R3.out.cell
     have f6:=R3.out.frozen
     clear s3 t3 j3 hyy hRd' cM2 cY2 cM cY
     gi_wp2
     refine ⟨trivial,?_⟩
     gi_wp2
     obtain ⟨O',q1,q2,q3⟩:=F4.out
     exact ⟨O',q1,q2,rfl,q3⟩
  case done=>
   rintro D OO X hD nD tX sX ⟨Oi,eO,nO,jX,rX⟩ hK
   have nD2:¬ (O D∨D=n+2):=by
    rintro (h | h)
    ·have:=HON.out _ h;have:=Z2.out;omega
    ·have:=Z2.out;omega
   have zX:=tX.size
   have zA:=HN0.out
   have RX:=gh rX
   have c6:=rX.cell
   have f6:=rX.frozen
   have tS:Td (fun k=>k=n+2) X (X.setCell ⟨n+2,0,none⟩ (.bool true)):=Td.setCell _ _ _ rfl
   have hK2:Hid ((X.setCell ⟨n+2,0,none⟩ (.bool true)).heap[D]? = some (.deferred (some []))):=gh (tS.heap hK (fun e=>nD2 (.inr e)))
   have nOD:¬ Oi D:=fun h=>nD ((eO D).2 (.inl h))
   have FIN:Hid (∀ X',Td (fun k=>k ∈ [D]) (X.setCell ⟨n+2,0,none⟩ (.bool true)) X'→X'.cell? ⟨n+2,0,none⟩=some (.bool true)∧Rose J Jx O A xs (pre++List.flatMap (oneF s f) (slotsL s x)) (.returned (.bool true)) X'):=gh (fun X' hX'=>by
    have hDn:n+2 ∉ [D]:=by simp;intro e;exact nD2 (.inr e.symm)
    refine ⟨hX'.cell (rX.set (.bool true)).cell hDn,Oi,?_,?_,?_⟩
    ·intro k hk
     rcases sX k ((eO k).2 (.inl hk)) with (h | rfl) | h
     ·exact .inl h
     ·exact absurd hk nO
     ·exact .inr (by have:=KA2.out.size;omega)
    ·have t0:Td O A X:=Td.trans KA2.out tX (fun _ h=>h.elim) (fun k hk h=>by
      rcases h with h | h
      ·exact h
      ·omega)
     exact (t0.trans tS (fun _ h=>h) (fun k hk h=>by omega)).trans hX' (fun _ h=>h) (fun k hk h=>by simp at h;have:=Z2.out;omega)
    ·have tj:Td (fun k=>¬ Oi k) X X':=(tS.mono (R':=fun k=>¬ Oi k) (fun k _ h hO=>nO (by rw [← h];exact hO))).trans hX' (fun _ h=>h) (fun k _ h hO=>nOD (by simp at h;rw [← h];exact hO))
     exact .inl ⟨rfl,gJ.abides _ _ _ _ jX tj⟩)
   clear hK rX tS tX sX jX eO nO nD nOD
   go_wp2
   refine leave_marks [D] _ ?_ ?_ ?_
   ·intro k hk
    simp at hk
    rw [hk]
    exact hK2.out
   ·simp
   ·intro X' hX'
    obtain ⟨q1,q2⟩:=FIN.out X' hX'
    exact ⟨.bool true,by simp [results,Tryz.results129,go_sem,q1],q2⟩
  case stop=>
   rintro D OO c pre' rest' X hD nD tX sX hx' ⟨rfl,Oi,p,r,eO,nO,hxx,jX,rX⟩ hK
   have nD2:¬ (O D∨D=n+2):=by
    rintro (h | h)
    ·have:=HON.out _ h;have:=Z2.out;omega
    ·have:=Z2.out;omega
   have zX:=tX.size
   have zA:=HN0.out
   have RX:=gh rX
   have c6:=rX.cell
   have f6:=rX.frozen
   have tS:Td (fun k=>k=n+2) X X:=Td.refl _ _
   have hK2:Hid ((X).heap[D]? = some (.deferred (some []))):=gh (tS.heap hK (fun e=>nD2 (.inr e)))
   have nOD:¬ Oi D:=fun h=>nD ((eO D).2 (.inl h))
   have FIN:Hid (∀ X',Td (fun k=>k ∈ [D]) (X) X'→X'.cell? ⟨n+2,0,none⟩=some (.bool false)∧Rose J Jx O A xs (pre++List.flatMap (oneF s f) (slotsL s x)) (.returned (.bool false)) X'):=gh (fun X' hX'=>by
    have hDn:n+2 ∉ [D]:=by simp;intro e;exact nD2 (.inr e.symm)
    refine ⟨hX'.cell rX.cell hDn,Oi,?_,?_,?_⟩
    ·intro k hk
     rcases sX k ((eO k).2 (.inl hk)) with (h | rfl) | h
     ·exact .inl h
     ·exact absurd hk nO
     ·exact .inr (by have:=KA2.out.size;omega)
    ·have t0:Td O A X:=Td.trans KA2.out tX (fun _ h=>h.elim) (fun k hk h=>by
      rcases h with h | h
      ·exact h
      ·omega)
     exact (t0.trans tS (fun _ h=>h) (fun k hk h=>by omega)).trans hX' (fun _ h=>h) (fun k hk h=>by simp at h;have:=Z2.out;omega)
    ·have tj:Td (fun k=>¬ Oi k) X X':=(tS.mono (R':=fun k=>¬ Oi k) (fun k _ h hO=>nO (by rw [← h];exact hO))).trans hX' (fun _ h=>h) (fun k _ h hO=>nOD (by simp at h;rw [← h];exact hO))
     exact .inr ⟨rfl,p,r,hxx,gJx.abides _ _ _ _ jX tj⟩)
   clear hK rX tS tX sX jX eO nO nD nOD hxx hx'
   go_wp2
   refine leave_marks [D] _ ?_ ?_ ?_
   ·intro k hk
    simp at hk
    rw [hk]
    exact hK2.out
   ·simp
   ·intro X' hX'
    obtain ⟨q1,q2⟩:=FIN.out X' hX'
    exact ⟨.bool false,by simp [results,Tryz.results129,go_sem,q1],q2⟩
end
section
open Go.Shelf
attribute [local go_sem] Oper.semAt_some
theorem spots_k (w:World) (b:Nat) :
  Calls Tryz.prog 86 #[.pointer (some ⟨b,0,none⟩)] w fun e w'=>∃ B1,e=.returned (.func (.func 127) #[] #[.pointer (some ⟨B1,0,none⟩)])∧Kept w w'∧Boxed w' B1 36 (.pointer (some ⟨b,0,none⟩))∧w.heap.size≤B1:=by
 go_enter Tryz.func86,Tryz.ntmps86
 go_wp2
 go_ret
 exact ⟨_,rfl,(Kept.refl w).alloc _,Boxed.new w 36 _,Nat.le_refl _⟩
theorem below_k (w:World) (b:Nat) (x:Int) :
  Calls Tryz.prog 135 #[.pointer (some ⟨b,0,none⟩),.int .i64 x] w fun e w'=>∃ B1 B2,e=.returned (.func (.func 171) #[] #[.pointer (some ⟨B1,0,none⟩),.pointer (some ⟨B2,0,none⟩)])∧Kept w w'∧Boxed w' B1 36 (.pointer (some ⟨b,0,none⟩))∧Boxed w' B2 2 (.int .i64 x)∧w.heap.size≤B1∧w.heap.size≤B2:=by
 go_enter Tryz.func135,Tryz.ntmps135
 go_wp2
 go_ret
 refine ⟨_,_,rfl,((Kept.refl w).alloc _).alloc _,(Boxed.new w 36 _).alloc _,?_,Nat.le_refl _,by omega⟩
 have:=Boxed.new (w.alloc (.cells #[.pointer (some ⟨b,0,none⟩)] 36)) 2 (.int .i64 x)
 rwa [World.size_alloc] at this
def SpotR (w:World) (B1:Nat):Nat→Prop:=fun k=>k < w.heap.size∨k=B1
theorem Rose.ends {J Jx:Inv (Int × Int)} {O₀ O:Nat→Prop} {W A A':World} {xs:List (Int × Int)} {e:Ending} (hA:Td O₀ W A) (hO:Sub O O₀ W.heap.size) (h:Rose J Jx O A xs xs e A') :
  (∃ v,e=.returned (.bool v))∧∃ O',Sub O' O₀ W.heap.size∧Td O₀ W A'∧(J O' xs A'∨∃ pre rest,xs=pre++rest∧Jx O' pre A'):=by
 obtain ⟨O',s',t',⟨rfl,j⟩ | ⟨rfl,p,r,hx,j⟩⟩:=h
 ·exact ⟨⟨_,rfl⟩,O',s'.trans hO hA.size,hA.sub t' hO,.inl j⟩
 ·exact ⟨⟨_,rfl⟩,O',s'.trans hO hA.size,hA.sub t' hO,.inr ⟨p,r,hx,j⟩⟩
theorem below_i (w W:World) (hk:Kept w W) (b:Nat) (s:Mst) (hM:PM w b s) (ho:s.ok) (f:Nat) (x:Int) (hw:Wf s f x) (B1 B2:Nat) (h1:Boxed W B1 36 (.pointer (some ⟨b,0,none⟩))) (h2:Boxed W B2 2 (.int .i64 x)) :
  Iter Tryz.prog 171 #[.pointer (some ⟨B1,0,none⟩),.pointer (some ⟨B2,0,none⟩)] encS (spotsF s f x) (SlotR w B1 B2) W:=by
 intro l O₀ J Jx hR gJ gJx hY h0
 have c1:=h1.cell
 have c2:=h2.cell
 have HR:=gh (goBelow_p hk hM ho gJ gJx (fun k hk=>hR k (.inl hk)) hY f x [] [] O₀ W hw (by simp) (Td.refl _ _) (Sub.refl _ _) h0)
 clear hk hM ho hw h1 h2 hR hY h0 gJ gJx
 refine (callsIn_wide (n:=10)).1 ?_
 refine callsIn_of_wp Tryz.func171 rfl trivial ?_ rfl
 simp only [Tryz.ntmps171,List.size_toArray,List.length_cons,List.length_nil,Nat.reduceAdd,Nat.reduceSub,Array.replicate_succ,Array.replicate_zero,List.push_toArray,List.append_toArray,List.nil_append,List.cons_append]
 gi_wp2_with (fail)
 refine ⟨trivial,?_⟩
 refine (callsIn_wide.2 HR.out).mono ?_
 intro e A' hr
 obtain ⟨⟨v,rfl⟩,he⟩:=Rose.ends (Td.refl O₀ W) (Sub.refl _ _) hr
 have HE:=gh he
 clear he hr HR
 gi_wp2
 go_end0
 exact ⟨⟨_,rfl⟩,HE.out⟩
def spotsL (s:Mst) (f:Nat):List (Int × Int):=(6,s.logicZ 6) :: spotsF s f (s.logicZ 6)
set_option maxHeartbeats 1000000 in
theorem spots_i (w W:World) (hk:Kept w W) (b:Nat) (s:Mst) (hM:PM w b s) (ho:s.ok) (f:Nat) (hw:Wf s f (s.logicZ 6)) (B1:Nat) (h1:Boxed W B1 36 (.pointer (some ⟨b,0,none⟩))) :
  Iter Tryz.prog 127 #[.pointer (some ⟨B1,0,none⟩)] encS (spotsL s f) (SpotR w B1) W:=by
 intro l O₀ J Jx hR gJ gJx hY h0
 obtain ⟨y,hy⟩:∃ y,s.logicZ 6=y:=⟨_,rfl⟩
 have hxs:spotsL s f=(6,y) :: spotsF s f y:=by unfold spotsL;rw [hy]
 rw [hy] at hw
 have c1:=h1.cell
 have HM:=gh (hM.kept hk)
 have HO:=gh ho
 have HYY:=gh hy
 have HXS:=gh hxs
 have HG:=gh (goBelow_p hk hM ho gJ gJx (fun k hk=>hR k (.inl hk)) hY f y)
 have HW:=gh hw
 have HY:=gh hY
 have H0:=gh h0
 have NB:Hid (¬ O₀ B1):=gh (hR B1 (.inr rfl))
 have IN0:=gh (gJ.within _ _ _ h0)
 have GJ:=gh gJ
 have GJX:=gh gJx
 clear hk hM ho hw h1 hR hY h0 hy hxs gJ gJx
 refine (callsIn_wide (n:=10)).1 ?_
 refine callsIn_of_wp Tryz.func127 rfl trivial ?_ rfl
 simp only [Tryz.ntmps127,List.size_toArray,List.length_cons,List.length_nil,Nat.reduceAdd,Nat.reduceSub,Array.replicate_succ,Array.replicate_zero,List.push_toArray,List.append_toArray,List.nil_append,List.cons_append]
 gi_wp2_with (fail)
 refine ⟨trivial,?_⟩
 refine (callsIn_wide.2 (spotAt_p _ b s 6 y HM.out HO.out HYY.out)).mono ?_
 rintro e C ⟨rfl,kC⟩
 have KC:=gh (Kept.alloc kC (.cells #[.int .i64 6,.int .i64 y] 94))
 have CQ:Hid ((C.alloc (.cells #[.int .i64 6,.int .i64 y] 94)).heap[C.heap.size]? = some (.cells #[.int .i64 6,.int .i64 y] 94)):=gh (heap_new _ _)
 have ZC:=gh kC.size
 have cM2:=KC.out.cell c1 id
 have jC:=GJ.out.abides _ _ _ _ H0.out (KC.out.mono fun _ _ h=>h.elim)
 have TC:Hid (Td O₀ W (C.alloc (.cells #[.int .i64 6,.int .i64 y] 94))):=gh (KC.out.mono fun _ _ h=>h.elim)
 obtain ⟨fn,tmps,assign,body,hyy,hRd⟩:=HY.out O₀ [] (6,y) (spotsF s f y) _ HXS.out TC.out (Sub.refl _ _) jC
 dsimp only [encS] at hyy
 have HRd:=gh hRd
 clear hRd kC jC
 gi_wp2_with (fail)
 refine HRd.out.mono ?_
 rintro e E ⟨O3,s3,t3,⟨rfl,j3⟩ | ⟨rfl,j3⟩⟩
 ·have nC:¬ O₀ C.heap.size:=fun h=>by have:=IN0.out _ h;have:=ZC.out;omega
  have cM3:=t3.cell cM2 NB.out
  have cq:=t3.heap CQ.out nC
  have cq1:E.cell? ⟨C.heap.size,1,none⟩=some (.int .i64 y):=by simp [World.cell?,cq]
  have T3:=gh (TC.out.sub t3 (Sub.refl _ _))
  have S3:=gh (s3.more TC.out.size)
  have J3:=gh j3
  clear s3 t3 j3 cq hyy HRd cM2 c1 nC
  gi_wp2_with (fail)
  refine ⟨trivial,?_⟩
  refine (callsIn_wide.2 (HG.out ([]++[(6,y)]) [] O3 E HW.out (by rw [HXS.out];simp) T3.out S3.out J3.out)).mono ?_
  intro e A' hr
  rw [show []++[((6:Int),y)]++spotsF s f y=spotsL s f by rw [HXS.out];rfl] at hr
  obtain ⟨⟨v,rfl⟩,he⟩:=Rose.ends T3.out S3.out hr
  have HE:=gh he
  clear he hr HG
  gi_wp2
  go_end0
  exact ⟨⟨_,rfl⟩,HE.out⟩
 ·have T3:=gh (TC.out.sub t3 (Sub.refl _ _))
  have S3:=gh (s3.more TC.out.size)
  have J3:=gh j3
  clear s3 t3 j3 hyy HRd cM2 c1
  gi_wp2
  go_end0
  exact ⟨⟨_,rfl⟩,O3,S3.out,T3.out,.inr ⟨_,spotsF s f y,by rw [HXS.out];rfl,J3.out⟩⟩
def Cell1 (n:Nat) (T:TypeId) (v:Value):Inv (Int × Int):=fun O _ A=>(∀ k,O k↔k=n)∧Boxed A n T v
theorem Cell1.good (n:Nat) (T:TypeId) (v:Value):Good (Cell1 n T v):=by
 constructor
 ·rintro O pre A B ⟨hO,hb⟩ ht
  exact ⟨hO,ht.boxed hb (fun hn=>hn ((hO n).2 rfl))⟩
 ·rintro O pre A ⟨hO,hb⟩ k hk
  rw [(hO k).1 hk]
  exact hb.lt
theorem good_and {α:Type} {J:Inv α} (h:Good J) (p:List α→Prop):Good (fun O pre A=>p pre∧J O pre A):=
 ⟨fun _ _ _ _ hj ht=>⟨hj.1,h.abides _ _ _ _ hj.2 ht⟩,fun _ _ _ hj=>h.within _ _ _ hj.2⟩
theorem good_only {α:Type} {J:Inv α} (h:Good J) (c d:Code):Good (fun O pre A=>c=d∧J O pre A):=
 ⟨fun _ _ _ _ hj ht=>⟨hj.1,h.abides _ _ _ _ hj.2 ht⟩,fun _ _ _ hj=>h.within _ _ _ hj.2⟩
end
section
def noDefer (ops:Array Oper):Bool:=ops.all (fun o=>match o.op with | .defer _=>false | _=>true)
theorem noDefer_at {ops:Array Oper} (h:noDefer ops=true) {i:Nat} {o:Oper} (ho:ops[i]? = some o) (c:Call):o.op≠.defer c:=by
 intro e
 obtain ⟨hi,e2⟩:=Array.getElem?_eq_some_iff.1 ho
 have:=(Array.all_eq_true.1 h) i hi
 rw [e2,e] at this
 cases this
section
variable {P:Program} {ops:Array Oper} {Q:Exit→Act→World→Prop} {md:Region.Mode} {n:Nat}
theorem wpOpIn_inRound {l i:Nat} {K:Act→World→Prop} {a:Act} {w:World} (hd:noDefer ops=true) (h:wpOpIn Fence.wide n P ops Q i K a w):wpOpIn (Fence.wide.inRound l) n P ops Q i K a w:=by
 unfold wpOpIn at *
 cases ho:ops[i]? with
 | none=>simpa [ho] using h
 | some o=>
  simp only [ho] at h ⊢
  split
  ·rename_i hw
   rw [if_pos hw] at h
   unfold Oper.wpIn at *
   refine ⟨h.1,?_⟩
   have h2:=h.2
   rw [show Fence.wide.round=none from rfl,Oper.semAt_none] at h2
   rw [Fence.inRound_round,Oper.semAt_some l _ o (noDefer_at hd ho)]
   generalize (execOp a.eval o).run P w=r at *
   cases r with
   | ok x w'=>cases x <;> exact h2
   | halt x w'=>cases x <;> exact h2
  ·rename_i hw
   rw [if_neg hw] at h
   exact h
theorem wpAnyIn_inRound {l:Nat} (hd:noDefer ops=true):∀ (fuel:Nat) (listed:Array Bool) (a:Act) (w:World),wpAnyIn Fence.wide n P md ops Q fuel listed a w→wpAnyIn (Fence.wide.inRound l) n P md ops Q fuel listed a w
 | 0,_,_,_,h=>h
 | fuel+1,_,_,_,h=>⟨h.1,fun i hi=>wpOpIn_mono (fun a' w' h'=>wpAnyIn_inRound hd fuel _ a' w' h') (wpOpIn_inRound hd (h.2 i hi))⟩
theorem region_perm_round {l id:Nat} {a:Act} {w:World} (is:List Nat) (C:World→Prop) (hm:P.follows .mixedOrders=true) (hd:noDefer ops=true)
  (hB:(Region.noSelect ops && is.length == ops.size && permB .any ops is (Array.replicate ops.size false))=true) (hQ:∀ c a d v w,Q (.panic c) (Act.put a d v) w→Q (.panic c) a w)
  (hC:C w.drew) (h:wpPerm P ops Q C n is a w.drew):(Code.region id ops true).wpIn (Fence.wide.inRound l) n P Q a w:=by
 simp only [Bool.and_eq_true,beq_iff_eq] at hB
 have:=perm_any (md:=.any) hB.1.1 hQ is _ a _ hC hB.2 h
 rw [hB.1.2] at this
 exact wpIn_region_any hm (wpAnyIn_inRound hd _ _ _ _ (wpAnyIn_of_anyC _ _ _ _ this))
end
theorem region_round {P:Program} {ops:Array Oper} {Q:Exit→Act→World→Prop} {n l id:Nat} {a:Act} {w:World} (is:List Nat) (S:World→Prop) (hm:P.follows .mixedOrders=true) (hd:noDefer ops=true)
  (hB:(Region.noSelect ops && is.length == ops.size && permB .any ops is (Array.replicate ops.size false))=true)
  (hS:S w.drew) (h:Nonempty (Wd S)→wpPerm P ops (calm Q) (fun w'=>∃ x:Wd S,w'=x.w) n is a w.drew):(Code.region id ops true).wpIn (Fence.wide.inRound l) n P Q a w:=
 Go.wpIn_mono (region_perm_round is _ hm hd hB (fun _ _ _ _ _ h=>h) (Wd.mem hS) (h ⟨⟨_,hS⟩⟩)) (fun _ _ _ h=>calm_imp h)
end
section
theorem wp_rangeA {P:Program} {α:Type} {n:Nat} {g:Operand} {ps:Array Tmp} {assign body:Code} {Q:Exit→Act→World→Prop} {a:Act} {w:World}
  {gf:Nat} {lb:Array Value} (hg:a.eval g=.func (.func gf) #[] lb) (eg:∀ args w,(callFunc gf args).run P w=.ok (.enter gf args) w)
  {encs:α→Array Value} {xs:List α} {R:Nat→Prop} (hit:∀ W,Td (fun _=>False) w W→Iter P gf lb encs xs R W) (hps:∀ x,(encs x).size=ps.size)
  (O₀:Nat→Prop) (I:Inv α) (Ix:Code→Inv α) (hR:∀ k,R k→k < w.heap.size∧¬ O₀ k) (hI:Good I) (hIx:∀ c,Good (Ix c)) (h0:I O₀ [] w) (cs:α→Array Value) (T:TypeId) (a₁:α→Nat→Act)
  (hassign:∀ (l:Nat) (x:α) (W:World) (m:Nat) (K:Act→World→Prop),W.heap.size=m→K (a₁ x m) (W.alloc (.cells (cs x) T))→
   assign.wpIn (Fence.wide.inRound l) 9 P (Exit.then K (fun _ _ _=>False)) { tmps:=(ps.zip (encs x)).foldl (fun t (p,v)=>t.setIfInBounds p v) a.tmps,defers:=[] } W)
  (hbody:∀ (l:Nat) (O:Nat→Prop) (pre:List α) (x:α) (rest:List α) (W:World) (m:Nat),xs=pre++x :: rest→Td O₀ w W→Sub O O₀ w.heap.size→I O pre W→W.heap[m]? = some (.cells (cs x) T)→¬ O m→w.heap.size≤m→
   body.wpIn (Fence.wide.inRound l) 9 P (BodyEnds I Ix O (pre++[x]) W) (a₁ x m) W)
  (hdone:∀ (D:Nat) (O:Nat→Prop) (W:World),w.heap.size≤D→¬ O D→Td O₀ w W→Sub O O₀ w.heap.size→I O xs W→W.heap[D]? = some (.deferred (some []))→
   Q .normal { a with defers:={ target:=.collected D,args:=#[] } :: a.defers } W)
  (hstop:∀ (D:Nat) (O:Nat→Prop) (c:Code) (pre rest:List α) (W:World),w.heap.size≤D→¬ O D→Td O₀ w W→Sub O O₀ w.heap.size→xs=pre++rest→Ix c O pre W→W.heap[D]? = some (.deferred (some []))→
   c.wpIn Fence.wide n P Q { a with defers:={ target:=.collected D,args:=#[] } :: a.defers } W) :
  (Code.rangeFunc g ps assign body).wpIn Fence.wide n P Q a w:=by
 refine wpIn_rangeFunc ?_
 intro fn hfn
 obtain ⟨rec,hrec⟩:∃ rec:LoopState→Option Code→Loop,rec=fun st pe=>{ state:=st,pending:=pe,fn,tmps:=a.tmps,params:=ps,assign,body,defers:=w.heap.size }:=⟨_,rfl⟩
 obtain ⟨D,hD⟩:∃ D,w.heap.size=D:=⟨_,rfl⟩
 obtain ⟨W1,hW1⟩:∃ W1,(w.alloc (.deferred (some []))).alloc (.loop (rec .ready none))=W1:=⟨_,rfl⟩
 have t1:Td (fun _=>False) w W1:=by
  rw [← hW1]
  exact (Td.alloc _ w _).trans (Td.alloc _ _ _) (fun _ h=>h) (fun _ _ h=>h)
 have z1:W1.heap.size=D+2:=by rw [← hW1,World.size_alloc,World.size_alloc,hD]
 have hl1:W1.heap[D+1]? = some (.loop (rec .ready none)):=by
  rw [← hW1,← hD]
  have:=World.alloc_heap_new (w.alloc (.deferred (some []))) (.loop (rec .ready none))
  rwa [World.size_alloc] at this
 have hd1:W1.heap[D]? = some (.deferred (some [])):=by
  rw [← hW1,← hD]
  exact (Below.heap_alloc _ _ _ (by simp)).trans (World.alloc_heap_new w _)
 have w0:∀ k,O₀ k→k < D:=fun k hk=>by rw [← hD];exact hI.within O₀ [] w h0 k hk
 have hi1:I O₀ [] W1:=hI.abides O₀ [] w W1 h0 (t1.mono fun _ _ h=>h.elim)
 have back:∀ {OO:Nat→Prop} {A:World},Td OO W1 A→(∀ k,OO k↔With O₀ D k)→Td O₀ w A:=fun {OO A} h e=>
  t1.trans h (fun _ h=>h.elim) (fun i hi hk=>by
   rcases (e i).1 hk with hk | rfl | rfl
   ·exact hk
   ·omega
   ·omega)
 have e0:∀ k,With O₀ D k↔With O₀ D k:=fun _=>Iff.rfl
 refine ⟨D+1,[{ target:=.collected D,args:=#[] }],W1,{ target:=.fn (.func gf) lb,args:=#[.func (.yield (D+1)) #[] #[]] },W1,gf,
  #[.func (.yield (D+1)) #[] #[]]++lb,W1,?_,?_,fun _ _=>trivial,?_,fun h=>by simp [Fence.wide] at h,?_⟩
 ·rw [← hW1,← hD,hrec]
  exact run_enterLoop_outer _ _ _ _ _
 ·simp only [resolve,hg]
  simp [go_sem]
 ·simp [invoke,go_sem,eg]
 ·have hc:=hit W1 t1 (D+1) (With O₀ D) (Inner I D (.loop (rec .ready none))) (fun OO pre W=>∃ c,Inner (Ix c) D (.loop (rec .done (some c))) OO pre W)
   (fun k hk hO=>by
    obtain ⟨hk1,hk2⟩:=hR k hk
    rcases hO with hO | rfl | rfl
    ·exact hk2 hO
    ·omega
    ·omega)
   (Inner.good hI D _) (Good.ex fun c=>Inner.good (hIx c) D _) ?_ ⟨O₀,e0,fun h=>by have:=w0 _ h;omega,fun h=>by have:=w0 _ h;omega,hi1,hl1,hd1⟩
  ·refine callsIn_wide.2 (hc.mono ?_)
   rintro e W2 ⟨⟨v,rfl⟩,OO,hsub,ht,hJ⟩
   have tb:=back ht e0
   rcases hJ with ⟨O,e,n1,n2,hi,hl,hd⟩ | ⟨pre,rest,hx,c,O,e,n1,n2,hi,hl,hd⟩
   ·obtain ⟨o,hr⟩:∃ o,(Instr.endLoop (D+1)).run P W2=.ok none (W2.putObj (D+1) o):=⟨_,by have:=run_endLoop (P:=P) hl (by rw [hrec];simp);rw [hrec] at this;exact this⟩
    have hput:Td (fun k=>k=D+1) W2 (W2.putObj (D+1) o):=Td.putObj _ _ _ rfl
    refine ⟨none,_,hr,?_⟩
    refine hdone D O _ (by omega) n1 (tb.trans hput (fun _ h=>h) (fun i hi h=>by omega)) ?_ (hI.abides O xs W2 _ hi (hput.mono fun k _ hk hO=>n2 (by rw [← hk];exact hO))) ((World.putObj_heap_other (by omega)).trans hd)
    intro k hk
    rcases hsub k ((e k).2 (.inl hk)) with (h | rfl | rfl) | h
    ·exact .inl h
    ·exact (n1 hk).elim
    ·exact (n2 hk).elim
    ·exact .inr (by omega)
   ·obtain ⟨o,hr⟩:∃ o,(Instr.endLoop (D+1)).run P W2=.ok (some c) (W2.putObj (D+1) o):=⟨_,by have:=run_endLoop (P:=P) hl (by rw [hrec];simp);rw [hrec] at this;exact this⟩
    have hput:Td (fun k=>k=D+1) W2 (W2.putObj (D+1) o):=Td.putObj _ _ _ rfl
    refine ⟨some c,_,hr,?_⟩
    refine hstop D O c pre rest _ (by omega) n1 (tb.trans hput (fun _ h=>h) (fun i hi h=>by omega)) ?_ hx ((hIx c).abides O pre W2 _ hi (hput.mono fun k _ hk hO=>n2 (by rw [← hk];exact hO))) ((World.putObj_heap_other (by omega)).trans hd)
    intro k hk
    rcases hsub k ((e k).2 (.inl hk)) with (h | rfl | rfl) | h
    ·exact .inl h
    ·exact (n1 hk).elim
    ·exact (n2 hk).elim
    ·exact .inr (by omega)
  ·-- one round
   rintro OO pre x rest A hx tA hsA ⟨O,e,n1,n2,hi,hl,hd⟩
   have hlt:D+1 < A.heap.size:=(Array.getElem?_eq_some_iff.1 hl).1
   have tb:=back tA e0
   have sO:Sub O O₀ w.heap.size:=fun k hk=>by
    rcases hsA k ((e k).2 (.inl hk)) with (h | rfl | rfl) | h
    ·exact .inl h
    ·exact (n1 hk).elim
    ·exact (n2 hk).elim
    ·exact .inr (by omega)
   have hy:=run_yield (P:=P) (args:=encs x) hl (by rw [hrec];exact hps x)
   rw [hrec] at hy
   have hlA:(A.alloc (.cells (cs x) T)).heap[D+1]? = some (.loop (rec .ready none)):=(Below.heap_alloc A _ _ hlt).trans hl
   refine ⟨fn,_,assign,body,hy,roundIn_of_wpIn hfn (hassign _ x A _ _ rfl ⟨_,run_beginRound hlA (by rw [hrec]),?_⟩)⟩
   clear hy
   obtain ⟨A1,hA1⟩:∃ A1,(A.alloc (.cells (cs x) T)).putObj (D+1) (.loop { rec .ready none with state:=.busy })=A1:=⟨_,rfl⟩
   rw [hA1]
   have hput:Td (fun k=>k=D+1) A A1:=by rw [← hA1];exact (Td.alloc (fun _=>False) A _).trans (Td.putObj (R:=fun k=>k=D+1) _ _ _ rfl) (fun _ h=>h.elim) (fun _ _ h=>h)
   have hl2:A1.heap[D+1]? = some (.loop { rec .ready none with state:=.busy }):=by rw [← hA1];exact World.putObj_heap_same (by rw [World.size_alloc];omega)
   have hd2:A1.heap[D]? = some (.deferred (some [])):=by rw [← hA1];exact (World.putObj_heap_other (by omega)).trans ((Below.heap_alloc A _ _ (by omega)).trans hd)
   have zA:A1.heap.size=A.heap.size+1:=by rw [← hA1];simp
   have hm1:A1.heap[A.heap.size]? = some (.cells (cs x) T):=by rw [← hA1];exact (World.putObj_heap_other (by omega)).trans (World.alloc_heap_new A _)
   have nOA:¬ O A.heap.size:=fun h=>by have:=hI.within _ _ _ hi _ h;omega
   have zwA:=tb.size
   have hi2:I O pre A1:=hI.abides O pre A A1 hi (hput.mono fun k _ hk hO=>n2 (by rw [← hk];exact hO))
   have fin:∀ (jump:Option Code) (B:World),Td O A1 B→
     (Instr.endRound (D+1) jump).run P B=.ok (.bool jump.isNone) (B.putObj (D+1) (.loop (rec (if jump.isNone then .ready else .done) jump)))∧
     (B.putObj (D+1) (.loop (rec (if jump.isNone then .ready else .done) jump))).heap[D+1]? = some (.loop (rec (if jump.isNone then .ready else .done) jump))∧
     (B.putObj (D+1) (.loop (rec (if jump.isNone then .ready else .done) jump))).heap[D]? = some (.deferred (some []))∧
     Td OO A (B.putObj (D+1) (.loop (rec (if jump.isNone then .ready else .done) jump))):=fun jump B tB=>by
    have hl3:=tB.heap hl2 n2
    have hd3:=tB.heap hd2 n1
    have hr:=run_endRound (P:=P) jump hl3
    rw [hrec] at hr ⊢
    refine ⟨hr,World.putObj_heap_same (Array.getElem?_eq_some_iff.1 hl3).1,(World.putObj_heap_other (by omega)).trans hd3,?_⟩
    refine (hput.trans (tB.trans (Td.putObj (R:=fun k=>k=D+1) B (D+1) _ rfl) (R'':=OO) (fun k hk=>(e k).2 (.inl hk)) (fun k _ hk=>(e k).2 (.inr (.inr hk)))) (fun k hk=>(e k).2 (.inr (.inr hk))) (fun _ _ h=>h))
   have fol:∀ {O':Nat→Prop} {J':Inv α} {o:Obj} {B:World} {ys:List α},Good J'→Sub O' O A1.heap.size→Td O A1 B→J' O' ys B→(∀ k,O' k→k < B.heap.size)→
     (B.putObj (D+1) o).heap[D+1]? = some o→(B.putObj (D+1) o).heap[D]? = some (.deferred (some []))→Sub (With O' D) OO A.heap.size∧Inner J' D o (With O' D) ys (B.putObj (D+1) o):=fun {O' J' o B ys} gJ s' tB hj wi q1 q2=>by
    have m1:¬ O' D:=fun h=>(s' D h).elim n1 (fun h'=>by omega)
    have m2:¬ O' (D+1):=fun h=>(s' (D+1) h).elim n2 (fun h'=>by omega)
    refine ⟨fun k hk=>?_,O',fun _=>Iff.rfl,m1,m2,gJ.abides O' ys B _ hj ((Td.putObj (R:=fun k=>k=D+1) B (D+1) o rfl).mono fun k _ hk hO=>m2 (by rw [← hk];exact hO)),q1,q2⟩
    rcases hk with hk | rfl | rfl
    ·exact (s' k hk).imp (fun h=>(e k).2 (.inl h)) (fun h=>by omega)
    ·exact .inl ((e _).2 (.inr (.inl rfl)))
    ·exact .inl ((e _).2 (.inr (.inr rfl)))
   refine wpIn_mono (hbody _ O pre x rest A1 A.heap.size hx (tb.trans hput (fun _ h=>h) (fun i hi h=>by omega)) sO hi2 hm1 nOA zwA) ?_
   rintro ex a3 B hp
   cases ex with
   | normal=>
    obtain ⟨O',s',tB,hj⟩:=hp
    obtain ⟨hr,q1,q2,q3⟩:=fin none B tB
    obtain ⟨f1,f2⟩:=fol hI s' tB hj (hI.within _ _ _ hj) q1 q2
    exact ⟨_,_,hr,With O' D,f1,q3,.inl ⟨rfl,f2⟩⟩
   | ret=>
    obtain ⟨O',s',tB,hj⟩:=hp
    obtain ⟨hr,q1,q2,q3⟩:=fin (some .ret) B tB
    obtain ⟨f1,f2⟩:=fol (hIx _) s' tB hj ((hIx _).within _ _ _ hj) q1 q2
    exact ⟨_,_,hr,With O' D,f1,q3,.inr ⟨rfl,_,f2⟩⟩
   | exit id=>
    obtain ⟨O',s',tB,hj⟩:=hp
    obtain ⟨hr,q1,q2,q3⟩:=fin (some (.exit id)) B tB
    obtain ⟨f1,f2⟩:=fol (hIx _) s' tB hj ((hIx _).within _ _ _ hj) q1 q2
    exact ⟨_,_,hr,With O' D,f1,q3,.inr ⟨rfl,_,f2⟩⟩
   | goto t=>
    obtain ⟨O',s',tB,hj⟩:=hp
    obtain ⟨hr,q1,q2,q3⟩:=fin (some (.goto t)) B tB
    obtain ⟨f1,f2⟩:=fol (hIx _) s' tB hj ((hIx _).within _ _ _ hj) q1 q2
    exact ⟨_,_,hr,With O' D,f1,q3,.inr ⟨rfl,_,f2⟩⟩
   | panic ch=>exact hp.elim
   | outgrown=>exact hp.elim
theorem wp_range3 {P:Program} {α:Type} {g:Operand} {ps:Array Tmp} {assign body:Code} {Q:Exit→Act→World→Prop} {a:Act} {w:World}
  {gf:Nat} {lb:Array Value} (hg:a.eval g=.func (.func gf) #[] lb) (eg:∀ args w,(callFunc gf args).run P w=.ok (.enter gf args) w)
  {encs:α→Array Value} {xs:List α} {R:Nat→Prop} (hit:∀ W,Td (fun _=>False) w W→Iter P gf lb encs xs R W) (hps:∀ x,(encs x).size=ps.size)
  (O₀:Nat→Prop) (I:Inv α) (Ix:Code→Inv α) (hR:∀ k,R k→k < w.heap.size∧¬ O₀ k) (hI:Good I) (hIx:∀ c,Good (Ix c)) (h0:I O₀ [] w) (cs:α→Array Value) (T:TypeId)
  (hab:∃ a₁:α→Nat→Act,(∀ (l:Nat) (x:α) (W:World) (m:Nat) (K:Act→World→Prop),W.heap.size=m→K (a₁ x m) (W.alloc (.cells (cs x) T))→
    assign.wpIn (Fence.wide.inRound l) 9 P (Exit.then K (fun _ _ _=>False)) { tmps:=(ps.zip (encs x)).foldl (fun t (p,v)=>t.setIfInBounds p v) a.tmps,defers:=[] } W)∧
   (∀ (l:Nat) (O:Nat→Prop) (pre:List α) (x:α) (rest:List α) (W:World) (m:Nat),xs=pre++x :: rest→Td O₀ w W→Sub O O₀ w.heap.size→I O pre W→W.heap[m]? = some (.cells (cs x) T)→¬ O m→w.heap.size≤m→
    body.wpIn (Fence.wide.inRound l) 9 P (BodyEnds I Ix O (pre++[x]) W) (a₁ x m) W))
  (hdone:∀ (D:Nat) (O:Nat→Prop) (W:World),w.heap.size≤D→¬ O D→Td O₀ w W→Sub O O₀ w.heap.size→I O xs W→W.heap[D]? = some (.deferred (some []))→
   Q .normal { a with defers:={ target:=.collected D,args:=#[] } :: a.defers } W)
  (hstop:∀ (D:Nat) (O:Nat→Prop) (c:Code) (pre rest:List α) (W:World),w.heap.size≤D→¬ O D→Td O₀ w W→Sub O O₀ w.heap.size→xs=pre++rest→Ix c O pre W→W.heap[D]? = some (.deferred (some []))→
   c.wp P Q { a with defers:={ target:=.collected D,args:=#[] } :: a.defers } W) :
  (Code.rangeFunc g ps assign body).wp P Q a w:=by
 obtain ⟨a₁,h1,h2⟩:=hab
 exact (wpIn_wide (n:=9)).1 (wp_rangeA hg eg hit hps O₀ I Ix hR hI hIx h0 cs T a₁ h1 h2 hdone (fun D O c pre rest W q1 q2 q3 q4 q5 q6 q7=>wpIn_wide.2 (hstop D O c pre rest W q1 q2 q3 q4 q5 q6 q7)))
end
section
open Go.Shelf
def lays129_ren:Go.Shelf.Ren:=⟨fun | 129=>216 | n=>n,fun | 53=>227 | 3=>3 | 4=>4 | 46=>224 | 5=>5 | 9=>9 | n=>n,fun | n=>n⟩
theorem lays129:Go.Proofs.Lays.n129 Tryz.prog lays129_ren:={
 mixed:=by kernel_rfl
 f129:=Tryz.func216.trans (congrArg some (by kernel_rfl))
 t3:=Tryz.underlying3
 a3:=Tryz.isAgg3
 z3:=Tryz.sizeOf3
 v3:=Tryz.zeroValue3
 t4:=Tryz.underlying4
 a4:=Tryz.isAgg4
 z4:=Tryz.sizeOf4
 v4:=Tryz.zeroValue4
 t5:=Tryz.underlying5
 a5:=Tryz.isAgg5
 z5:=Tryz.sizeOf5
 v5:=Tryz.zeroValue5
 t9:=Tryz.underlying9
 a9:=Tryz.isAgg9
 z9:=Tryz.sizeOf9
 v9:=Tryz.zeroValue9
 t46:=Tryz.underlying224
 a46:=Tryz.isAgg224
 z46:=Tryz.sizeOf224
 v46:=Tryz.zeroValue224
 t53:=Tryz.underlying227
 a53:=Tryz.isAgg227
 z53:=Tryz.sizeOf227
 v53:=Tryz.zeroValue227 }
theorem bits_Len64 (x:Int) (w:World) (h0:0≤x) (h1:x≤18446744073709551615) :
  Calls Tryz.prog 216 #[.int .u64 x] w fun e w'=>e=.returned (.int .i64 (Lib.bitLen x.toNat))∧w'=w:=Any.bits_Len64 lays129 x w h0 h1
end
namespace Pt
open Go
def gapZ (a b:Int):Int:=if b < a then 0 else b - a
def shareZ (p w n:Int):Int:=if 1≤w∧1≤n∧n≤65536 then min p w * n / w else 0
def sqN:Nat→Nat
 | 0=>0
 | n+1=>if (sqN n+1) * (sqN n+1)≤n+1 then sqN n+1 else sqN n
def rootZ (n:Int):Int:=(sqN n.toNat:Int)
def bitsZ (n:Int):Int:=(Lib.bitLen n.toNat:Int)
theorem sqN_spec (n:Nat):sqN n * sqN n≤n∧n < (sqN n+1) * (sqN n+1):=by
 induction n with
 | zero=>simp [sqN]
 | succ n ih=>
  obtain ⟨h1,h2⟩:=ih
  unfold sqN
  split
  ·rename_i h
   refine ⟨h,?_⟩
   generalize sqN n=r at h1 h2 h
   have e:(r+1+1) * (r+1+1)=(r+1) * (r+1)+2 * r+3:=by
    simp only [Nat.mul_add,Nat.add_mul];omega
   omega
  ·rename_i h
   exact ⟨by omega,by omega⟩
theorem mul_self_le {a b:Int} (ha:0≤a) (h:a≤b):a * a≤b * b:=by
 have h1:a * a≤a * b:=Int.mul_le_mul_of_nonneg_left h ha
 have h2:a * b≤b * b:=Int.mul_le_mul_of_nonneg_right h (by omega)
 omega
theorem lt_of_self {a b:Int} (hb:0≤b) (h:a * a < b * b):a < b:=by
 rcases Int.lt_or_le a b with g | g
 ·exact g
 ·have:=mul_self_le hb g
  omega
theorem root_spec {n:Int} (h:0≤n):0≤rootZ n∧rootZ n * rootZ n≤n∧n < (rootZ n+1) * (rootZ n+1):=by
 obtain ⟨h1,h2⟩:=sqN_spec n.toNat
 unfold rootZ
 refine ⟨by omega,?_,?_⟩
 ·rw [← Int.natCast_mul];omega
 ·have e:((sqN n.toNat:Int)+1) * ((sqN n.toNat:Int)+1)=(((sqN n.toNat+1) * (sqN n.toNat+1):Nat):Int):=by
   rw [Int.natCast_mul,Int.natCast_add];rfl
  rw [e];omega
theorem root_unique {n r:Int} (hr:0≤r) (h1:r * r≤n) (h2:n < (r+1) * (r+1)):rootZ n=r:=by
 have hn:0≤n:=Int.le_trans (Int.mul_nonneg hr hr) h1
 obtain ⟨g0,g1,g2⟩:=root_spec hn
 have a1:=lt_of_self (a:=r) (b:=rootZ n+1) (by omega) (by omega)
 have a2:=lt_of_self (a:=rootZ n) (b:=r+1) (by omega) (by omega)
 omega
theorem root_none {n:Int} (h:n < 1):rootZ n=0:=by
 have e:n.toNat=0:=by omega
 unfold rootZ
 rw [e];rfl
def Pw (d:Int):Prop:=∃ k:Nat,k≤31∧d=((2 ^ k:Nat):Int)
theorem pw_bound {d:Int} (h:Pw d):1≤d∧d≤2147483648:=by
 obtain ⟨k,hk,rfl⟩:=h
 have h1:1≤2 ^ k:=Nat.one_le_two_pow
 have h2:2 ^ k≤2 ^ 31:=Nat.pow_le_pow_right (by omega) hk
 omega
theorem pw_half {d:Int} (h:Pw d):(d=1∧d / 2=0)∨(d=2 * (d / 2)∧Pw (d / 2)):=by
 obtain ⟨k,hk,rfl⟩:=h
 cases k with
 | zero=>left;decide
 | succ k=>
  right
  have e:((2 ^ (k+1):Nat):Int)=2 * ((2 ^ k:Nat):Int):=by rw [Nat.pow_succ];omega
  refine ⟨by omega,k,by omega,by omega⟩
def RInv (n r d:Int):Prop:=0≤r∧r * r≤n∧((d=0∧n < (r+1) * (r+1))∨(Pw d∧n < (r+2 * d) * (r+2 * d)))
theorem rinv_bound {n r d:Int} (hn:n≤9223372036854775807) (h:RInv n r d):0≤r∧r≤3037000499∧0≤d∧d≤2147483648:=by
 obtain ⟨h0,h1,h2⟩:=h
 have a:=lt_of_self (a:=r) (b:=3037000500) (by omega) (by omega)
 rcases h2 with ⟨rfl,_⟩ | ⟨h2,_⟩
 ·omega
 ·have:=pw_bound h2;omega
theorem rinv_up {n r d:Int} (h:RInv n r d) (hd:0 < d) (hc:(r+d) * (r+d)≤n):RInv n (r+d) (d / 2):=by
 obtain ⟨h0,h1,h2⟩:=h
 rcases h2 with ⟨rfl,_⟩ | ⟨h2,h3⟩
 ·omega
 ·refine ⟨by omega,hc,?_⟩
  have e:r+d+d=r+2 * d:=by omega
  rcases pw_half h2 with ⟨g1,g2⟩ | ⟨g1,g2⟩
  ·left
   refine ⟨g2,?_⟩
   have e1:r+d+1=r+2 * d:=by omega
   rw [e1];exact h3
  ·right
   refine ⟨g2,?_⟩
   have e1:r+d+2 * (d / 2)=r+2 * d:=by omega
   rw [e1];exact h3
theorem rinv_stay {n r d:Int} (h:RInv n r d) (hd:0 < d) (hc:n < (r+d) * (r+d)):RInv n r (d / 2):=by
 obtain ⟨h0,h1,h2⟩:=h
 rcases h2 with ⟨rfl,_⟩ | ⟨h2,h3⟩
 ·omega
 ·refine ⟨h0,h1,?_⟩
  rcases pw_half h2 with ⟨g1,g2⟩ | ⟨g1,g2⟩
  ·left
   refine ⟨g2,?_⟩
   rw [← g1];rw [g1] at hc ⊢;exact hc
  ·right
   refine ⟨g2,?_⟩
   rw [← g1];exact hc
theorem rinv_end {n r:Int} (h:RInv n r 0):rootZ n=r:=by
 obtain ⟨h0,h1,h2⟩:=h
 rcases h2 with ⟨_,h3⟩ | ⟨h2,h3⟩
 ·exact root_unique h0 h1 h3
 ·have:=pw_bound h2;omega
theorem le_quo {n t:Int} (ht:0 < t):t≤n / t↔t * t≤n:=Int.le_ediv_iff_mul_le ht
theorem bits_spec {n:Int} (h:1≤n) (h':n≤9223372036854775807):∃ L:Nat,bitsZ n=L∧1≤L∧L≤63∧((2 ^ (L - 1):Nat):Int)≤n∧n < ((2 ^ L:Nat):Int):=by
 obtain ⟨a,b,c⟩:=Lib.bitLenAux_bounds 64 n.toNat (by omega) (by omega)
 have d:=Lib.bitLen_le n.toNat 63 (by omega) (by omega)
 refine ⟨Lib.bitLen n.toNat,rfl,a,d,?_,?_⟩
 ·have b':2 ^ (Lib.bitLen n.toNat - 1)≤n.toNat:=b
  omega
 ·have c':n.toNat < 2 ^ Lib.bitLen n.toNat:=c
  omega
theorem bits_none {n:Int} (h:n < 1):bitsZ n=0:=by
 have e:n.toNat=0:=by omega
 unfold bitsZ
 rw [e];rfl
theorem root_begin {n:Int} (h:1≤n) (h':n≤9223372036854775807):RInv n 0 ((2 ^ ((bitsZ n - 1) / 2).toNat:Nat):Int):=by
 obtain ⟨L,e,l1,l2,b1,b2⟩:=bits_spec h h'
 rw [e]
 have e2:(((L:Int) - 1) / 2).toNat=(L - 1) / 2:=by omega
 rw [e2]
 refine ⟨by omega,by omega,Or.inr ⟨⟨(L - 1) / 2,by omega,rfl⟩,?_⟩⟩
 have e3:(0+2 * ((2 ^ ((L - 1) / 2):Nat):Int))=((2 ^ ((L - 1) / 2+1):Nat):Int):=by
  rw [Nat.pow_succ];omega
 rw [e3,← Int.natCast_mul,← Nat.pow_add]
 have:2 ^ L≤2 ^ ((L - 1) / 2+1+((L - 1) / 2+1)):=Nat.pow_le_pow_right (by omega) (by omega)
 omega
end Pt
namespace Pt
open Go.ChangeShapes Go.WideShapes Go.ChangeAt Go.RowKit
theorem wrap_same {a:Int} (h:-9223372036854775808≤a) (h':a≤9223372036854775807):wrap64 a=a:=by
 unfold wrap64
 omega
theorem len_c (x:Int) (w:World) (h0:0≤x) (h1:x≤18446744073709551615) :
  Calls Tryz.prog 216 #[.int .u64 x] w fun e w'=>e=.returned (.int .i64 (bitsZ x))∧w=w':=
 (bits_Len64 x w h0 h1).mono fun _ _ ⟨a,b⟩=>⟨a,b.symm⟩
theorem bits_c (n:Int) (hn:(Lit.int .i64 n).wf=true) (w:World) :
  Calls Tryz.prog 215 #[.int .i64 n] w fun e w'=>e=.returned (.int .i64 (bitsZ n))∧w=w':=by
 have hn':=bounds_i64 hn
 clear hn
 by_cases c:n < 1
 ·rw [bits_none c]
  go_enter Tryz.func215,Tryz.ntmps215
  go_wp2
  go_ret
  exact ⟨rfl,rfl⟩
 ·go_enter Tryz.func215,Tryz.ntmps215
  go_wp2_with (go_at_call 216;refine (len_c _ _ (by omega) (by omega)).mono ?_;rintro e w' ⟨rfl,rfl⟩)
  go_ret
  exact ⟨rfl,rfl⟩
theorem gh {p:Prop} (h:p):Hid p:=h
theorem pow_cast (k:Nat):(2:Int) ^ k=((2 ^ k:Nat):Int):=by rw [Int.natCast_pow];rfl
theorem pow_wrap {k:Nat} (h:k≤62):wrap64 ((2:Int) ^ k)=((2 ^ k:Nat):Int):=by
 have h1:2 ^ k≤2 ^ 62:=Nat.pow_le_pow_right (by omega) h
 have h0:1≤2 ^ k:=Nat.one_le_two_pow
 rw [pow_cast,wrap_same (by omega) (by omega)]
theorem ret_int {k:IntKind} {a b:Int} (h:a=b):Ending.returned (.int k a)=.returned (.int k b):=by rw [h]
theorem digit_none (n:Int) (c:n < 1) (w:World) :
  Calls Tryz.prog 214 #[.int .i64 n] w fun e w'=>e=.returned (.int .i64 0)∧w=w':=by
 go_enter Tryz.func214,Tryz.ntmps214
 go_wp2
 go_ret
 exact ⟨rfl,rfl⟩
theorem digit_c (n:Int) (hn:(Lit.int .i64 n).wf=true) (c:1≤n) (w:World) :
  Calls Tryz.prog 214 #[.int .i64 n] w fun e w'=>e=.returned (.int .i64 ((2 ^ ((bitsZ n - 1) / 2).toNat:Nat):Int))∧w=w':=by
 have hn':=bounds_i64 hn
 have hc:=bits_c n hn
 obtain ⟨L,e,l1,l2,b1,b2⟩:=bits_spec c hn'.2
 rw [e] at hc ⊢
 clear e hn b1 b2
 go_enter Tryz.func214,Tryz.ntmps214
 go_wp2_with (go_at_call 215;refine (hc _).mono ?_;rintro e w' ⟨rfl,rfl⟩)
 go_ret
 refine ⟨ret_int ?_,rfl⟩
 rw [pow_wrap (by omega)]
 have e:(((L:Int) - 1) / 2).toNat=(L - 1) / 2:=by omega
 rw [e]
theorem root_c (n:Int) (hn:(Lit.int .i64 n).wf=true) (w:World) :
  Calls Tryz.prog 212 #[.int .i64 n] w fun e w'=>e=.returned (.int .i64 (rootZ n))∧w=w':=by
 have hn':=bounds_i64 hn
 by_cases c:n < 1
 ·have hc:=digit_none n c
  rw [root_none c]
  go_enter Tryz.func212,Tryz.ntmps212
  go_wp2_with (go_at_call 214;refine (hc _).mono ?_;rintro e w' ⟨rfl,rfl⟩)
  refine wp_loop_rounds 1 ?_
  rw [rounds_succ]
  go_wp2
  go_ret
  exact ⟨rfl,rfl⟩
 ·have hc:=digit_c n hn (by omega)
  have HB:=gh (root_begin (n:=n) (by omega) hn'.2)
  obtain ⟨z,ez⟩:∃ z,rootZ n=z:=⟨_,rfl⟩
  have HE:=gh ez
  rw [ez]
  generalize ((2 ^ ((bitsZ n - 1) / 2).toNat:Nat):Int)=d at hc HB
  clear ez hn
  go_enter Tryz.func212,Tryz.ntmps212
  go_wp2_with (go_at_call 214;refine (hc _).mono ?_;rintro e w' ⟨rfl,rfl⟩)
  go_loop [3,4,5] (fun r d _=>∃ x y:Int,Hid (RInv n x y)∧r=.int .i64 x∧d=.int .i64 y) (fun _ d _=>(intOf d).toNat)
  case atStart=>exact ⟨0,d,HB,rfl,rfl⟩
  case round=>
   obtain ⟨x,y,H,rfl,rfl⟩:=hrel
   obtain ⟨x0,x1,y0,y1⟩:=rinv_bound hn'.2 H.out
   by_cases f:0 < y
   ·have q:=le_quo (n:=n) (t:=x+y) (by omega)
    by_cases g:(x+y) * (x+y)≤n
    ·have H2:=gh (rinv_up H.out f g)
     have g':=q.mpr g
     clear q g H HB HE hc
     go_wp2
     go_round
     case rel=>exact ⟨x+y,y / 2,H2,rfl,rfl⟩
     case measure=>simp [intOf];omega
    ·have H2:=gh (rinv_stay H.out f (by omega))
     have g':¬ x+y≤n / (x+y):=fun h=>g (q.mp h)
     clear q g H HB HE hc
     go_wp2
     go_round
     case rel=>exact ⟨x,y / 2,H2,rfl,rfl⟩
     case measure=>simp [intOf];omega
   ·obtain rfl:y=0:=by omega
    have e:x=z:=by rw [← HE.out];exact (rinv_end H.out).symm
    subst e
    clear H HB HE hc
    go_wp2
    go_ret
    exact ⟨rfl,rfl⟩
end Pt
namespace Pt
open Go
def degZ (n:Int):Int:=if 2≤n∧n≤16384 then max 2 (rootZ n) else 0
def eachZ (n:Int):Int:=n / degZ n
def moreZ (n:Int):Int:=n % degZ n
def sizeZ (n i:Int):Int:=if 0≤i∧i < degZ n then (if i < moreZ n then eachZ n+1 else eachZ n) else 0
def aheadZ (n i:Int):Int:=i * eachZ n+min i (moreZ n)
def fromZ (n i:Int):Int:=if 0≤i∧i < degZ n then aheadZ n i else 0
def limZ (n:Int):Int:=if 0≤n∧n≤16384 then n / 4+2 else 0
def celF:Nat→Int→Int
 | 0,n=>if n=0 then 1 else 0
 | f+1,n=>if n < 0∨16384 < n then 0 else if n < 2 then n+1 else
   4+degZ n * 2+(degZ n - moreZ n) * celF f (eachZ n)+moreZ n * celF f (eachZ n+1)
def celZ (n:Int):Int:=celF n.toNat n
theorem deg_none {n:Int} (h:n < 2∨16384 < n):degZ n=0:=by
 unfold degZ
 rw [if_neg (by omega)]
theorem deg_some {n:Int} (h:2≤n) (h':n≤16384):degZ n=max 2 (rootZ n):=by
 unfold degZ
 rw [if_pos ⟨h,h'⟩]
theorem root_bound {n:Int} (h:2≤n) (h':n≤16384):1≤rootZ n∧rootZ n≤128∧rootZ n < n:=by
 obtain ⟨g0,g1,g2⟩:=root_spec (n:=n) (by omega)
 have a:=lt_of_self (a:=rootZ n) (b:=129) (by omega) (by omega)
 have b:1≤rootZ n:=by
  rcases Int.lt_or_le (rootZ n) 1 with k | k
  ·have e:rootZ n=0:=by omega
   rw [e] at g2;omega
  ·exact k
 refine ⟨b,by omega,?_⟩
 rcases Int.lt_or_le (rootZ n) 2 with k | k
 ·omega
 ·have c:rootZ n * 2≤rootZ n * rootZ n:=Int.mul_le_mul_of_nonneg_left k (by omega)
  omega
theorem deg_bound {n:Int} (h:2≤n) (h':n≤16384):2≤degZ n∧degZ n≤128∧degZ n≤n:=by
 have:=root_bound h h'
 rw [deg_some h h']
 omega
theorem deg_nat (n:Int):0≤degZ n∧degZ n≤128:=by
 by_cases c:2≤n∧n≤16384
 ·have:=deg_bound c.1 c.2;omega
 ·rw [deg_none (by omega)];omega
theorem deg_pos {n:Int} (h:0 < degZ n):2≤n∧n≤16384:=by
 by_cases c:2≤n∧n≤16384
 ·exact c
 ·rw [deg_none (by omega)] at h;omega
theorem split_eq {n:Int} (h:0 < degZ n):degZ n * eachZ n+moreZ n=n∧0≤moreZ n∧moreZ n < degZ n:=by
 unfold eachZ moreZ
 have a:=Int.mul_ediv_add_emod n (degZ n)
 have b:=Int.emod_nonneg n (show degZ n≠0 by omega)
 have c:=Int.emod_lt_of_pos n h
 omega
theorem each_bound {n:Int} (h:0 < degZ n):1≤eachZ n∧eachZ n < n∧eachZ n≤8192∧(0 < moreZ n→eachZ n+1 < n):=by
 obtain ⟨h1,h2⟩:=deg_pos h
 obtain ⟨d1,d2,d3⟩:=deg_bound h1 h2
 obtain ⟨s1,s2,s3⟩:=split_eq h
 have a:1≤eachZ n:=by
  unfold eachZ
  exact (Int.le_ediv_iff_mul_le h).mpr (by omega)
 have b:2 * eachZ n≤degZ n * eachZ n:=Int.mul_le_mul_of_nonneg_right d1 (by omega)
 omega
theorem size_none {n i:Int} (h:i < 0∨degZ n≤i):sizeZ n i=0:=by
 unfold sizeZ
 rw [if_neg (by omega)]
theorem size_more {n i:Int} (h0:0≤i) (h1:i < degZ n) (h:i < moreZ n):sizeZ n i=eachZ n+1:=by
 unfold sizeZ
 rw [if_pos ⟨h0,h1⟩,if_pos h]
theorem size_each {n i:Int} (h0:0≤i) (h1:i < degZ n) (h:moreZ n≤i):sizeZ n i=eachZ n:=by
 unfold sizeZ
 rw [if_pos ⟨h0,h1⟩,if_neg (by omega)]
theorem size_cases {n i:Int} (h0:0≤i) (h1:i < degZ n):(i < moreZ n∧sizeZ n i=eachZ n+1)∨(moreZ n≤i∧sizeZ n i=eachZ n):=by
 rcases Int.lt_or_le i (moreZ n) with k | k
 ·exact Or.inl ⟨k,size_more h0 h1 k⟩
 ·exact Or.inr ⟨k,size_each h0 h1 k⟩
theorem size_bound {n i:Int} (h0:0≤i) (h1:i < degZ n):1≤sizeZ n i∧sizeZ n i < n:=by
 obtain ⟨e1,e2,e3,e4⟩:=each_bound (n:=n) (by omega)
 rcases size_cases h0 h1 with ⟨k,e⟩ | ⟨k,e⟩ <;> rw [e]
 ·have:=e4 (by omega);omega
 ·omega
theorem ahead_zero {n:Int} (h:0 < degZ n):aheadZ n 0=0:=by
 have:=split_eq h
 unfold aheadZ
 omega
theorem ahead_step {n i:Int} (h0:0≤i) (h1:i < degZ n):aheadZ n (i+1)=aheadZ n i+sizeZ n i:=by
 have e:(i+1) * eachZ n=i * eachZ n+eachZ n:=by rw [Int.add_mul,Int.one_mul]
 unfold aheadZ
 rw [e]
 rcases size_cases h0 h1 with ⟨k,e⟩ | ⟨k,e⟩ <;> rw [e] <;> omega
theorem ahead_end {n:Int} (h:0 < degZ n):aheadZ n (degZ n)=n:=by
 obtain ⟨s1,s2,s3⟩:=split_eq h
 unfold aheadZ
 omega
theorem ahead_bound {n i:Int} (h0:0≤i) (h1:i≤degZ n) (h:0 < degZ n):0≤i * eachZ n∧i * eachZ n≤16384∧0≤aheadZ n i∧aheadZ n i≤16384:=by
 obtain ⟨s1,s2,s3⟩:=split_eq h
 have d:=deg_pos h
 obtain ⟨e1,e2,e3,e4⟩:=each_bound h
 have a:0≤i * eachZ n:=Int.mul_nonneg h0 (by omega)
 have b:i * eachZ n≤degZ n * eachZ n:=Int.mul_le_mul_of_nonneg_right h1 (by omega)
 unfold aheadZ
 omega
theorem from_none {n i:Int} (h:i < 0∨degZ n≤i):fromZ n i=0:=by
 unfold fromZ
 rw [if_neg (by omega)]
theorem from_some {n i:Int} (h0:0≤i) (h1:i < degZ n):fromZ n i=aheadZ n i:=by
 unfold fromZ
 rw [if_pos ⟨h0,h1⟩]
theorem celF_more (f:Nat):∀ n:Int,n.toNat≤f→celF f n=celF n.toNat n:=by
 induction f using Nat.strongRecOn with
 | _ f ih=>
  intro n hn
  have key:∀ g:Nat,n.toNat≤g→(∀ m:Int,m.toNat < n.toNat→celF (g - 1) m=celZ m)→celF g n=if n < 0∨16384 < n then 0 else if n < 2 then n+1 else
   4+degZ n * 2+(degZ n - moreZ n) * celZ (eachZ n)+(if moreZ n=0 then 0 else moreZ n * celZ (eachZ n+1)):=by
   intro g hg hm
   cases g with
   | zero=>
    unfold celF
    by_cases c:n=0
    ·rw [if_pos c,if_neg (by omega),if_pos (by omega),c];rfl
    ·rw [if_neg c,if_pos (by omega)]
   | succ g=>
    unfold celF
    by_cases c:n < 0∨16384 < n
    ·rw [if_pos c,if_pos c]
    ·by_cases c2:n < 2
     ·rw [if_neg c,if_neg c,if_pos c2,if_pos c2]
     ·rw [if_neg c,if_neg c,if_neg c2,if_neg c2]
      have d:=deg_bound (n:=n) (by omega) (by omega)
      obtain ⟨e1,e2,e3,e4⟩:=each_bound (n:=n) (by omega)
      have m1:=hm (eachZ n) (by omega)
      simp only [Nat.add_sub_cancel] at m1
      rw [m1]
      by_cases c3:moreZ n=0
      ·rw [if_pos c3,c3,Int.zero_mul]
      ·have s:=split_eq (n:=n) (by omega)
       have:=e4 (by omega)
       have m2:=hm (eachZ n+1) (by omega)
       simp only [Nat.add_sub_cancel] at m2
       rw [if_neg c3,m2]
  rcases Nat.lt_or_ge n.toNat f with k | k
  ·rw [key f hn (fun m hm=>ih (f - 1) (by omega) m (by omega)),key n.toNat (Nat.le_refl _) (fun m hm=>ih (n.toNat - 1) (by omega) m (by omega))]
  ·have:n.toNat=f:=by omega
   rw [this]
theorem cel_none {n:Int} (h:n < 0∨16384 < n):celZ n=0:=by
 unfold celZ
 cases k:n.toNat with
 | zero=>unfold celF;rw [if_neg (by omega)]
 | succ f=>unfold celF;rw [if_pos h]
theorem cel_few {n:Int} (h:0≤n) (h':n < 2):celZ n=n+1:=by
 unfold celZ
 cases k:n.toNat with
 | zero=>unfold celF;rw [if_pos (by omega)];omega
 | succ f=>unfold celF;rw [if_neg (by omega),if_pos (by omega)]
theorem cel_some {n:Int} (h:0 < degZ n):celZ n=4+degZ n * 2+(degZ n - moreZ n) * celZ (eachZ n)+moreZ n * celZ (eachZ n+1):=by
 have p:=deg_pos h
 obtain ⟨e1,e2,e3,e4⟩:=each_bound h
 obtain ⟨f,hf⟩:∃ f,n.toNat=f+1:=⟨n.toNat - 1,by omega⟩
 have e:celZ n=celF (f+1) n:=by unfold celZ;rw [hf]
 rw [e]
 unfold celF
 rw [if_neg (by omega),if_neg (by omega),celF_more f _ (by omega),show celF (eachZ n).toNat (eachZ n)=celZ (eachZ n) from rfl]
 by_cases c3:moreZ n=0
 ·rw [c3,Int.zero_mul,Int.zero_mul]
 ·have s:=split_eq h
  have:=e4 (by omega)
  rw [celF_more f _ (by omega)]
  rfl
theorem cel_bound {n:Int} (h:1≤n):0≤celZ n∧celZ n≤10 * n - 8:=by
 suffices H:∀ (f:Nat) (n:Int),1≤n→n.toNat≤f→0≤celZ n∧celZ n≤10 * n - 8 from H n.toNat n h (Nat.le_refl _)
 intro f
 induction f with
 | zero=>intro n h hn;omega
 | succ f ih=>
  intro n h hn
  by_cases c:16384 < n
  ·rw [cel_none (Or.inr c)];omega
  ·by_cases c2:n < 2
   ·rw [cel_few (by omega) c2];omega
   ·have d:=deg_bound (n:=n) (by omega) (by omega)
    obtain ⟨e1,e2,e3,e4⟩:=each_bound (n:=n) (by omega)
    obtain ⟨s1,s2,s3⟩:=split_eq (n:=n) (by omega)
    have i1:=ih (eachZ n) (by omega) (by omega)
    have a1:0≤(degZ n - moreZ n) * celZ (eachZ n):=Int.mul_nonneg (by omega) (by omega)
    have a2:(degZ n - moreZ n) * celZ (eachZ n)≤(degZ n - moreZ n) * (10 * eachZ n - 8):=Int.mul_le_mul_of_nonneg_left (by omega) (by omega)
    have a3:0≤moreZ n * celZ (eachZ n+1)∧moreZ n * celZ (eachZ n+1)≤moreZ n * (10 * (eachZ n+1) - 8):=by
     by_cases c3:moreZ n=0
     ·rw [c3,Int.zero_mul,Int.zero_mul];omega
     ·have:=e4 (by omega)
      have i2:=ih (eachZ n+1) (by omega) (by omega)
      exact ⟨Int.mul_nonneg (by omega) (by omega),Int.mul_le_mul_of_nonneg_left (by omega) (by omega)⟩
    have a4:(degZ n - moreZ n) * (10 * eachZ n - 8)=10 * (degZ n * eachZ n) - 8 * degZ n - 10 * (moreZ n * eachZ n)+8 * moreZ n:=by
     simp only [Int.sub_mul,Int.mul_sub,Int.mul_left_comm _ (10:Int)]
     omega
    have a5:moreZ n * (10 * (eachZ n+1) - 8)=10 * (moreZ n * eachZ n)+2 * moreZ n:=by
     have:10 * (eachZ n+1) - 8=10 * eachZ n+2:=by omega
     rw [this,Int.mul_add,Int.mul_left_comm]
     omega
    rw [cel_some (by omega)]
    omega
theorem cel_nat (n:Int):0≤celZ n∧celZ n≤163832:=by
 by_cases c:n < 0∨16384 < n
 ·rw [cel_none c];omega
 ·by_cases c2:n < 2
  ·rw [cel_few (by omega) c2];omega
  ·have:=cel_bound (n:=n) (by omega);omega
def csZ (n i:Int):Int:=if i≤moreZ n then i * celZ (eachZ n+1) else moreZ n * celZ (eachZ n+1)+(i - moreZ n) * celZ (eachZ n)
theorem cs_zero {n:Int} (h:0 < degZ n):csZ n 0=0:=by
 have:=split_eq h
 unfold csZ
 rw [if_pos (by omega),Int.zero_mul]
theorem cs_step {n i:Int} (h0:0≤i) (h1:i < degZ n):csZ n (i+1)=csZ n i+celZ (sizeZ n i):=by
 unfold csZ
 rcases size_cases h0 h1 with ⟨k,e⟩ | ⟨k,e⟩
 ·rw [if_pos (by omega),if_pos (by omega),e,Int.add_mul,Int.one_mul]
 ·rw [if_neg (by omega),e]
  by_cases g:i≤moreZ n
  ·have:i=moreZ n:=by omega
   have e2:i+1 - moreZ n=1:=by omega
   rw [if_pos g,e2,Int.one_mul,this]
  ·have e2:i+1 - moreZ n=(i - moreZ n)+1:=by omega
   rw [if_neg g,e2,Int.add_mul,Int.one_mul]
   omega
theorem cs_end {n:Int} (h:0 < degZ n):celZ n=4+degZ n * 2+csZ n (degZ n):=by
 have:=split_eq h
 unfold csZ
 rw [if_neg (by omega),cel_some h]
 omega
theorem cs_nat {n i:Int} (h:0 < degZ n) (h0:0≤i) (h1:i≤degZ n):0≤csZ n i∧csZ n i≤41940992:=by
 have k0:=cel_nat (eachZ n)
 have k1:=cel_nat (eachZ n+1)
 have d:=deg_nat n
 have m:=split_eq h
 unfold csZ
 split
 ·have a:0≤i * celZ (eachZ n+1):=Int.mul_nonneg h0 k1.1
  have b:i * celZ (eachZ n+1)≤128 * 163832:=Int.mul_le_mul (by omega) k1.2 k1.1 (by omega)
  omega
 ·have a:0≤moreZ n * celZ (eachZ n+1):=Int.mul_nonneg (by omega) k1.1
  have b:moreZ n * celZ (eachZ n+1)≤128 * 163832:=Int.mul_le_mul (by omega) k1.2 k1.1 (by omega)
  have a':0≤(i - moreZ n) * celZ (eachZ n):=Int.mul_nonneg (by omega) k0.1
  have b':(i - moreZ n) * celZ (eachZ n)≤128 * 163832:=Int.mul_le_mul (by omega) k0.2 k0.1 (by omega)
  omega
end Pt
namespace Pt
open Go
theorem wide {n K:Int} (h:2≤n) (h':n≤16384) (hK:2≤K) (hn:n≤(K - 1) * K):n≤degZ n * K:=by
 obtain ⟨r1,r2,r3⟩:=root_bound h h'
 obtain ⟨g0,g1,g2⟩:=root_spec (n:=n) (by omega)
 obtain ⟨d1,d2,d3⟩:=deg_bound h h'
 have dr:rootZ n≤degZ n:=by rw [deg_some h h'];omega
 have a:rootZ n * K≤degZ n * K:=Int.mul_le_mul_of_nonneg_right dr (by omega)
 rcases Int.lt_or_le (rootZ n) (K - 1) with k | k
 ·have b:rootZ n * (rootZ n+2)≤rootZ n * K:=Int.mul_le_mul_of_nonneg_left (by omega) (by omega)
  have c:(rootZ n+1) * (rootZ n+1)=rootZ n * (rootZ n+2)+1:=by
   simp only [Int.add_mul,Int.mul_add];omega
  omega
 ·have b:(K - 1) * K≤rootZ n * K:=Int.mul_le_mul_of_nonneg_right (by omega) (by omega)
  omega
theorem cel_is_0:celZ 0=1:=rfl
end Pt
namespace Pt
open Go.ChangeShapes Go.WideShapes Go.ChangeAt Go.RowKit
theorem may_yes (n:Int) (h:0≤n) (h':n≤16384) (w:World) :
  Calls Tryz.prog 169 #[.int .i64 n] w fun e w'=>e=.returned (.bool true)∧w=w':=by
 go_enter Tryz.func169,Tryz.ntmps169
 go_wp2
 go_ret
 exact ⟨rfl,rfl⟩
theorem may_no (n:Int) (h:n < 0∨16384 < n) (w:World) :
  Calls Tryz.prog 169 #[.int .i64 n] w fun e w'=>e=.returned (.bool false)∧w=w':=by
 rcases h with h | h
 ·go_enter Tryz.func169,Tryz.ntmps169
  go_wp2
  go_ret
  exact ⟨rfl,rfl⟩
 ·go_enter Tryz.func169,Tryz.ntmps169
  go_wp2
  go_ret
  exact ⟨congrArg (fun b=>Ending.returned (.bool b)) (decide_eq_false (by omega)),rfl⟩
theorem deg_c (n:Int) (hn:(Lit.int .i64 n).wf=true) (w:World) :
  Calls Tryz.prog 203 #[.int .i64 n] w fun e w'=>e=.returned (.int .i64 (degZ n))∧w=w':=by
 have hn':=bounds_i64 hn
 by_cases c:n < 0∨16384 < n
 ·have hc:=may_no n c
  rw [deg_none (by omega)]
  clear hn
  go_enter Tryz.func203,Tryz.ntmps203
  go_wp2_with (go_at_call 169;refine (hc _).mono ?_;rintro e w' ⟨rfl,rfl⟩)
  go_ret
  exact ⟨rfl,rfl⟩
 ·have hc:=may_yes n (by omega) (by omega)
  by_cases c2:n < 2
  ·rw [deg_none (by omega)]
   clear hn
   go_enter Tryz.func203,Tryz.ntmps203
   go_wp2_with (go_at_call 169;refine (hc _).mono ?_;rintro e w' ⟨rfl,rfl⟩)
   go_ret
   exact ⟨rfl,rfl⟩
  ·have hr:=root_c n hn
   have b:=root_bound (n:=n) (by omega) (by omega)
   rw [deg_some (by omega) (by omega)]
   obtain ⟨r,er⟩:∃ r,rootZ n=r:=⟨_,rfl⟩
   rw [er] at hr b ⊢
   clear hn er
   go_enter Tryz.func203,Tryz.ntmps203
   go_wp2_with (first | (go_at_call 169;refine (hc _).mono ?_;rintro e w' ⟨rfl,rfl⟩) | (go_at_call 212;refine (hr _).mono ?_;rintro e w' ⟨rfl,rfl⟩))
   go_ret
   exact ⟨rfl,rfl⟩
theorem lim_c (n:Int) (hn:(Lit.int .i64 n).wf=true) (w:World) :
  Calls Tryz.prog 130 #[.int .i64 n] w fun e w'=>e=.returned (.int .i64 (limZ n))∧w=w':=by
 have hn':=bounds_i64 hn
 clear hn
 by_cases c:n < 0∨16384 < n
 ·have hc:=may_no n c
  have e:limZ n=0:=by unfold limZ;rw [if_neg (by omega)]
  rw [e]
  clear e
  go_enter Tryz.func130,Tryz.ntmps130
  go_wp2_with (go_at_call 169;refine (hc _).mono ?_;rintro e w' ⟨rfl,rfl⟩)
  go_ret
  exact ⟨rfl,rfl⟩
 ·have hc:=may_yes n (by omega) (by omega)
  have e:limZ n=n / 4+2:=by unfold limZ;rw [if_pos (by omega)]
  rw [e]
  clear e
  go_enter Tryz.func130,Tryz.ntmps130
  go_wp2_with (go_at_call 169;refine (hc _).mono ?_;rintro e w' ⟨rfl,rfl⟩)
  go_ret
  exact ⟨rfl,rfl⟩
theorem lim_r (n:Int) (hn:(Lit.int .i64 n).wf=true) (w:World) :
  Calls Tryz.prog 88 #[.int .i64 n] w fun e w'=>e=.returned (.int .i64 (limZ n))∧w=w':=by
 have hn':=bounds_i64 hn
 clear hn
 by_cases c:n < 0
 ·have e:limZ n=0:=by unfold limZ;rw [if_neg (by omega)]
  rw [e]
  clear e
  go_enter Tryz.func88,Tryz.ntmps88
  go_wp2
  go_ret
  exact ⟨rfl,rfl⟩
 ·by_cases c2:16384 < n
  ·have e:limZ n=0:=by unfold limZ;rw [if_neg (by omega)]
   rw [e]
   clear e
   go_enter Tryz.func88,Tryz.ntmps88
   go_wp2
   go_ret
   exact ⟨rfl,rfl⟩
  ·have e:limZ n=n / 4+2:=by unfold limZ;rw [if_pos (by omega)]
   rw [e]
   clear e
   go_enter Tryz.func88,Tryz.ntmps88
   go_wp2
   go_ret
   exact ⟨rfl,rfl⟩
theorem part_c (n i:Int) (hn:(Lit.int .i64 n).wf=true) (w:World) :
  Calls Tryz.prog 204 #[.int .i64 n,.int .i64 i] w fun e w'=>e=.returned (.bool (decide (0≤i∧i < degZ n)))∧w=w':=by
 have hd:=deg_c n hn
 have d:=deg_nat n
 obtain ⟨z,ez⟩:∃ z,degZ n=z:=⟨_,rfl⟩
 rw [ez] at hd d ⊢
 clear hn ez
 by_cases c:i < 0
 ·have e:decide (0≤i∧i < z)=false:=decide_eq_false (by omega)
  rw [e]
  clear e
  go_enter Tryz.func204,Tryz.ntmps204
  go_wp2
  go_ret
  exact ⟨rfl,rfl⟩
 ·by_cases c2:i < z
  ·have e:decide (0≤i∧i < z)=true:=decide_eq_true (by omega)
   rw [e]
   clear e
   go_enter Tryz.func204,Tryz.ntmps204
   go_wp2_with (go_at_call 203;refine (hd _).mono ?_;rintro e w' ⟨rfl,rfl⟩)
   go_ret
   exact ⟨rfl,rfl⟩
  ·have e:decide (0≤i∧i < z)=false:=decide_eq_false (by omega)
   rw [e]
   clear e
   go_enter Tryz.func204,Tryz.ntmps204
   go_wp2_with (go_at_call 203;refine (hd _).mono ?_;rintro e w' ⟨rfl,rfl⟩)
   go_ret
   exact ⟨congrArg (fun b=>Ending.returned (.bool b)) (decide_eq_false (by omega)),rfl⟩
end Pt
section
open Go.Shelf
attribute [local go_sem] Oper.semAt_some
def meetB (s:Mst) (x:Int) (p:Int × Int):Bool:=(x == p.2) || (x == tgt s p.2)
def inTreeB (s:Mst) (x:Int):Bool:=soundB s && (spotsL s (fuel s)).any (meetB s x)
def calmW (s:Mst) (x:Int):Bool:=if kd x=4 then false else if kd x=3 then (!(s.look (ad x+2) == 1) && decide (s.look (ad x+3) < Pt.limZ (s.look (ad x+1)))) else true
def calmS (s:Mst) (p:Int × Int):Bool:=!(kd (s.look p.1) == 5) && calmW s p.2
def calmB (s:Mst):Bool:=soundB s && (spotsL s (fuel s)).all (calmS s)
theorem spotsF_i64 {s:Mst} (ho:s.ok):∀ (f:Nat) (x:Int),∀ p ∈ spotsF s f x,I64 p.2
 | 0,_,_,h=>by cases h
 | f+1,x,p,h=>by
  rw [spotsF_succ,List.mem_flatMap] at h
  obtain ⟨q,_,hq⟩:=h
  rcases List.mem_cons.1 hq with rfl | hq
  ·exact ho.logic _
  ·exact spotsF_i64 ho f _ p hq
theorem spotsL_i64 {s:Mst} (ho:s.ok) (f:Nat):∀ p ∈ spotsL s f,I64 p.2:=by
 intro p h
 rcases List.mem_cons.1 h with rfl | h
 ·exact ho.logic _
 ·exact spotsF_i64 ho f _ p h
theorem isCalm_p (w:World) (b:Nat) (s:Mst) (x:Int) (r:Bool) (h:PM w b s) (ho:s.ok) (hx:I64 x) (e1:calmW s x=r) :
  Calls Tryz.prog 87 #[.pointer (some ⟨b,0,none⟩),.int .i64 x] w fun e w'=>e=.returned (.bool r)∧w=w':=by
 have H:=gh h
 have HX:=gh hx
 obtain ⟨k,hk⟩:∃ k,kd x=k:=⟨_,rfl⟩
 obtain ⟨p,hp⟩:∃ p,ad x=p:=⟨_,rfl⟩
 have kr:=ad_range x
 rw [hp] at kr
 obtain ⟨p0,p1⟩:=kr
 have HK:=gh hk
 have HP:=gh hp
 have e2:r=if k=4 then false else if k=3 then (!(s.look (p+2) == 1) && decide (s.look (p+3) < Pt.limZ (s.look (p+1)))) else true:=by rw [← e1,calmW,hk,hp]
 by_cases k4:k=4
 ·have HR:Hid (r=false):=gh (by rw [e2,if_pos k4])
  subst k4
  clear h hx hk hp e1 e2
  go_enter Tryz.func87,Tryz.ntmps87
  go_wp2_with (fail)
  refine (ak_p _ x p HX.out HP.out).mono ?_
  rintro e w' ⟨rfl,rfl⟩
  go_wp2_with (fail)
  refine (kk_p _ x 4 HX.out HK.out).mono ?_
  rintro e w' ⟨rfl,rfl⟩
  go_wp2
  go_ret
  exact ⟨by rw [HR.out];rfl,rfl⟩
 by_cases k3:k=3
 ·obtain ⟨z1,hz1⟩:∃ z,s.look (p+1)=z:=⟨_,rfl⟩
  obtain ⟨z2,hz2⟩:∃ z,s.look (p+2)=z:=⟨_,rfl⟩
  obtain ⟨z3,hz3⟩:∃ z,s.look (p+3)=z:=⟨_,rfl⟩
  obtain ⟨m,hm⟩:∃ m,Pt.limZ z1=m:=⟨_,rfl⟩
  have HB1:Hid (I64 z1):=gh (by rw [← hz1];exact ho.look _)
  have HZ1:=gh hz1
  have HZ2:=gh hz2
  have HZ3:=gh hz3
  have HM:Hid (∀ W,Calls Tryz.prog 130 #[.int .i64 z1] W fun e w'=>e=.returned (.int .i64 m)∧W=w'):=gh (fun W=>by
   refine (Pt.lim_c z1 HB1.out.wf W).mono ?_
   rw [← hm]
   rintro e w' ⟨rfl,rfl⟩
   exact ⟨rfl,rfl⟩)
  have E2:Hid (r=(!(z2 == 1) && decide (z3 < m))):=gh (by rw [e2,if_neg k4,if_pos k3,hz1,hz2,hz3,hm])
  subst k3
  clear h hx hk hp e1 e2 hz1 hz2 hz3 hm k4
  by_cases y2:z2=1
  ·subst y2
   have HR:Hid (r=false):=gh (by rw [E2.out];rfl)
   go_enter Tryz.func87,Tryz.ntmps87
   go_wp2_with (fail)
   refine (ak_p _ x p HX.out HP.out).mono ?_
   rintro e w' ⟨rfl,rfl⟩
   go_wp2_with (fail)
   refine (kk_p _ x 3 HX.out HK.out).mono ?_
   rintro e w' ⟨rfl,rfl⟩
   go_wp2_with (fail)
   refine (lk_p _ b s (p+1) z1 H.out HZ1.out).mono ?_
   rintro e w' ⟨rfl,rfl⟩
   go_wp2_with (fail)
   refine (HM.out _).mono ?_
   rintro e w' ⟨rfl,rfl⟩
   go_wp2_with (fail)
   refine (lk_p _ b s (p+2) 1 H.out HZ2.out).mono ?_
   rintro e w' ⟨rfl,rfl⟩
   go_wp2
   go_ret
   exact ⟨by rw [HR.out];rfl,rfl⟩
  ·have g1:(z2 == 1)=false:=by simp [y2]
   have g2:(z2 != 1)=true:=by simp [y2]
   clear y2
   by_cases y3:z3 < m
   ·have HR:Hid (r=true):=gh (by rw [E2.out,g1];simp [y3])
    go_enter Tryz.func87,Tryz.ntmps87
    go_wp2_with (fail)
    refine (ak_p _ x p HX.out HP.out).mono ?_
    rintro e w' ⟨rfl,rfl⟩
    go_wp2_with (fail)
    refine (kk_p _ x 3 HX.out HK.out).mono ?_
    rintro e w' ⟨rfl,rfl⟩
    go_wp2_with (fail)
    refine (lk_p _ b s (p+1) z1 H.out HZ1.out).mono ?_
    rintro e w' ⟨rfl,rfl⟩
    go_wp2_with (fail)
    refine (HM.out _).mono ?_
    rintro e w' ⟨rfl,rfl⟩
    go_wp2_with (fail)
    refine (lk_p _ b s (p+2) z2 H.out HZ2.out).mono ?_
    rintro e w' ⟨rfl,rfl⟩
    go_wp2_with (fail)
    refine (lk_p _ b s (p+3) z3 H.out HZ3.out).mono ?_
    rintro e w' ⟨rfl,rfl⟩
    go_wp2
    go_ret
    exact ⟨by rw [HR.out];rfl,rfl⟩
   ·have HR:Hid (r=false):=gh (by rw [E2.out,g1];simp [y3])
    have y3':decide (z3 < m)=false:=by simp [y3]
    have y4:m≤z3:=by omega
    clear y3
    go_enter Tryz.func87,Tryz.ntmps87
    go_wp2_with (fail)
    refine (ak_p _ x p HX.out HP.out).mono ?_
    rintro e w' ⟨rfl,rfl⟩
    go_wp2_with (fail)
    refine (kk_p _ x 3 HX.out HK.out).mono ?_
    rintro e w' ⟨rfl,rfl⟩
    go_wp2_with (fail)
    refine (lk_p _ b s (p+1) z1 H.out HZ1.out).mono ?_
    rintro e w' ⟨rfl,rfl⟩
    go_wp2_with (fail)
    refine (HM.out _).mono ?_
    rintro e w' ⟨rfl,rfl⟩
    go_wp2_with (fail)
    refine (lk_p _ b s (p+2) z2 H.out HZ2.out).mono ?_
    rintro e w' ⟨rfl,rfl⟩
    go_wp2_with (fail)
    refine (lk_p _ b s (p+3) z3 H.out HZ3.out).mono ?_
    rintro e w' ⟨rfl,rfl⟩
    go_wp2
    go_ret
    exact ⟨by rw [HR.out];rfl,rfl⟩
 ·have HR:Hid (r=true):=gh (by rw [e2,if_neg k4,if_neg k3])
  have g1:(k == 4)=false:=by simp [k4]
  have g2:(k == 3)=false:=by simp [k3]
  clear h hx hk hp e1 e2 k4 k3
  go_enter Tryz.func87,Tryz.ntmps87
  go_wp2_with (fail)
  refine (ak_p _ x p HX.out HP.out).mono ?_
  rintro e w' ⟨rfl,rfl⟩
  go_wp2_with (fail)
  refine (kk_p _ x k HX.out HK.out).mono ?_
  rintro e w' ⟨rfl,rfl⟩
  go_wp2
  go_ret
  exact ⟨by rw [HR.out];rfl,rfl⟩
set_option maxHeartbeats 2000000 in
theorem isInTree_p (w:World) (b:Nat) (s:Mst) (x:Int) (h:PM w b s) (ho:s.ok) (hx:I64 x) (r:Bool) (e1:inTreeB s x=r) :
  Calls Tryz.prog 94 #[.pointer (some ⟨b,0,none⟩),.int .i64 x] w fun e w'=>e=.returned (.bool r)∧Kept w w':=by
 have H:=gh h
 have HO:=gh ho
 have HX:=gh hx
 clear hx
 obtain ⟨n,hn⟩:∃ n,w.heap.size=n:=⟨_,rfl⟩
 obtain ⟨W1,hW1⟩:∃ W1,((w.alloc (.cells #[.pointer (some ⟨b,0,none⟩)] 36)).alloc (.cells #[.int .i64 x] 2)).alloc (.cells #[.bool false] 4)=W1:=⟨_,rfl⟩
 have z1:W1.heap.size=n+3:=by rw [← hW1];simp [hn]
 have t1:Kept w W1:=by
  rw [← hW1]
  exact (((Kept.refl w).alloc _).alloc _).alloc _
 have bx:∀ (X:World) (T:TypeId) (v:Value) (m:Nat),X.heap.size=m→Boxed (X.alloc (.cells #[v] T)) m T v:=fun X T v m e=>by rw [← e];exact Boxed.new X T v
 have bM:Boxed W1 n 36 (.pointer (some ⟨b,0,none⟩)):=by
  rw [← hW1];exact ((bx w 36 _ n hn).alloc _).alloc _
 have bX:Boxed W1 (n+1) 2 (.int .i64 x):=by
  rw [← hW1];exact (bx _ 2 _ (n+1) (by simp [hn])).alloc _
 have bR:Boxed W1 (n+2) 4 (.bool false):=by
  rw [← hW1];exact bx _ 4 _ (n+2) (by simp [hn])
 have K1:=gh t1
 have HN0:=gh hn
 have Z1:=gh z1
 obtain ⟨q,hq⟩:∃ q,soundB s=q:=⟨_,rfl⟩
 have HQ:=gh hq
 have BM:=gh bM
 have BX:=gh bX
 have BR:=gh bR
 have c0:=bM.cell
 have cR:=bR.cell
 have fR:=bR.frozen
 have HE:Hid (inTreeB s x=r):=gh e1
 clear h ho e1 t1 bx bM bX bR hq z1
 refine calls_marks Tryz.func94 rfl ?_
 simp only [Tryz.ntmps94,List.size_toArray,List.length_cons,List.length_nil,Nat.reduceAdd,Nat.reduceSub,Array.replicate_succ,Array.replicate_zero,List.push_toArray,List.append_toArray,List.nil_append,List.cons_append]
 go_wp2_with (fail)
 clear hW1 hn
 refine (sound_p W1 b s (H.out.kept K1.out) HO.out q HQ.out).mono ?_
 rintro e W2 ⟨rfl,k2⟩
 have K2:=gh (K1.out.trans k2)
 have BM2:=gh (k2.boxed BM.out id)
 have BX2:=gh (k2.boxed BX.out id)
 have BR2:=gh (k2.boxed BR.out id)
 have c0:=BM2.out.cell
 have cR:=BR2.out.cell
 have fR:=BR2.out.frozen
 have Z2:Hid (n+3≤W2.heap.size):=gh (by have:=k2.size;have:=Z1.out;omega)
 clear k2
 cases q with
 | false=>
  have HR:Hid (r=false):=gh (by rw [← HE.out,inTreeB,HQ.out];rfl)
  have tS:Td (fun k=>k=n+2) W2 (W2.setCell ⟨n+2,0,none⟩ (.bool false)):=Td.setCell _ _ _ rfl
  have KS:=gh (K2.out.did (by have:=HN0.out;omega) tS)
  have CS:=gh (BR2.out.set (.bool false)).cell
  clear tS
  go_wp2
  refine leave_marks [] _ ?_ ?_ ?_
  ·intro k hk;cases hk
  ·simp
  ·intro X' hX'
   have q1:=hX'.cell CS.out (by simp)
   exact ⟨.bool false,by simp [results,Tryz.results94,go_sem,q1],by rw [HR.out],KS.out.trans (hX'.mono fun _ _ h=>by cases h)⟩
 | true=>
  have hWf:=wf_root HO.out HQ.out
  have HWF:=gh hWf
  have HE2:Hid ((spotsL s (fuel s)).any (meetB s x)=r):=gh (by rw [← HE.out,inTreeB,HQ.out];rfl)
  clear hWf
  go_wp2_with (fail)
  refine (spots_k W2 b).mono ?_
  rintro e W3 ⟨B1,rfl,k3,b1,l1⟩
  have K3:=gh (K2.out.trans k3)
  have BM3:=gh (k3.boxed BM2.out id)
  have BX3:=gh (k3.boxed BX2.out id)
  have BR3:=gh (k3.boxed BR2.out id)
  have BS3:=gh b1
  have L1:Hid (n+3≤B1):=gh (by have:=Z2.out;omega)
  have Z3:Hid (n+3≤W3.heap.size):=gh (by have:=k3.size;have:=Z2.out;omega)
  clear k3 b1 l1 c0 cR fR
  go_wp2_with (fail)
  refine wp_range3 (gf:=127) rfl (enters_of Tryz.func127 (by kernel_rfl) rfl) (encs:=encS) (xs:=spotsL s (fuel s)) (R:=SpotR w B1)
   (fun X hX=>spots_i w X (K3.out.trans hX) b s H.out HO.out (fuel s) HWF.out B1 (hX.boxed BS3.out id)) (fun _=>rfl)
   (fun k=>k=n+2) (fun O pre A=>(∀ p ∈ pre,meetB s x p=false)∧Cell1 (n+2) 4 (.bool false) O pre A) (fun c O pre A=>c=.ret∧(∃ p ∈ pre,meetB s x p=true)∧Cell1 (n+2) 4 (.bool true) O pre A) ?hR
   (good_and (Cell1.good _ _ _) _) (fun c=>good_only (good_and (Cell1.good _ _ _) _) c .ret) ⟨(by intro p hp;cases hp),fun _=>Iff.rfl,BR3.out⟩ (fun p=>#[.int .i64 p.1,.int .i64 p.2]) 94 ?ab ?done ?stop
  case hR=>
   rintro k (hk | rfl)
   ·have h1:=K3.out.size
    have h2:=HN0.out
    exact ⟨by omega,by omega⟩
   ·have h1:=BS3.out.lt
    have h2:=L1.out
    exact ⟨h1,by omega⟩
  case ab=>
   apply Exists.intro
   refine ⟨?_,?_⟩
   ·intro l' p X m K hm hK
    gi_wp2
    exact hK
   ·rintro l' O pre ⟨sl,y⟩ rest B m hx' tB sB ⟨hpre,hO,rB⟩ hm nOm _
    have HOO:=gh hO
    have HPRE:=gh hpre
    have KB:=gh (K3.out.did (by have:=HN0.out;omega) tB)
    have MB:=gh (H.out.kept KB.out)
    have cM:=(tB.boxed BM3.out (by omega)).cell
    have cX:=(tB.boxed BX3.out (by omega)).cell
    have HYI:Hid (I64 y):=gh (spotsL_i64 HO.out (fuel s) (sl,y) (by rw [hx'];simp))
    have RB:=gh rB
    have cq0:B.heap[m]? = some (.cells #[.int .i64 sl,.int .i64 y] 94):=hm
    have GO:Hid (∀ X,Kept B X→meetB s x (sl,y)=false→∃ O',Sub O' O B.heap.size∧Td O B X∧(∀ p ∈ pre++[(sl,y)],meetB s x p=false)∧Cell1 (n+2) 4 (.bool false) O' (pre++[(sl,y)]) X):=gh (fun X kX hm=>by
     refine ⟨O,Sub.refl _ _,kX.mono (fun _ _ h=>h.elim),?_,HOO.out,kX.boxed RB.out id⟩
     intro p hp
     rcases List.mem_append.1 hp with hp | hp
     ·exact HPRE.out p hp
     ·simp at hp;rw [hp];exact hm)
    have OUT:Hid (∀ X,Kept B X→meetB s x (sl,y)=true→∃ O',Sub O' O B.heap.size∧Td O B (X.setCell ⟨n+2,0,none⟩ (.bool true))∧(∃ p ∈ pre++[(sl,y)],meetB s x p=true)∧Cell1 (n+2) 4 (.bool true) O' (pre++[(sl,y)]) (X.setCell ⟨n+2,0,none⟩ (.bool true))):=gh (fun X kX hm=>by
     have tS:Td (fun k=>k=n+2) X (X.setCell ⟨n+2,0,none⟩ (.bool true)):=Td.setCell _ _ _ rfl
     refine ⟨O,Sub.refl _ _,(Td.trans kX tS (fun _ h=>h.elim) (fun k _ h=>(HOO.out k).2 h)),⟨(sl,y),by simp,hm⟩,HOO.out,(kX.boxed RB.out id).set _⟩)
    clear hx' tB sB hpre hO rB hm nOm
    obtain ⟨V,hV⟩:∃ V,B.drew=V:=⟨_,rfl⟩
    have kV:Kept B V:=by rw [← hV];exact Kept.drew _
    have KBV:=gh kV
    have x0:∀ u:Wd (fun U=>U=V),u.w.cell? ⟨n,0,none⟩=some (.pointer (some ⟨b,0,none⟩)):=fun u=>by rw [u.ok];exact KBV.out.cell cM id
    have x1:∀ u:Wd (fun U=>U=V),u.w.cell? ⟨n+1,0,none⟩=some (.int .i64 x):=fun u=>by rw [u.ok];exact KBV.out.cell cX id
    have x2:∀ u:Wd (fun U=>U=V),u.w.cell? ⟨m,1,none⟩=some (.int .i64 y):=fun u=>by
     rw [u.ok]
     refine kV.cell ?_ id
     simp [World.cell?,cq0]
    have RV:=gh (kV.boxed RB.out id)
    have KV:=gh kV
    have HV:=gh hV
    have c6:=RV.out.cell
    have f6:=RV.out.frozen
    clear cM cX cq0 hV kV
    obtain ⟨t,ht⟩:∃ t,tgt s y=t:=⟨_,rfl⟩
    have HT:=gh ht
    by_cases xy:x=y
    ·subst xy
     have MM:Hid (meetB s x (sl,x)=true):=gh (by simp [meetB])
     clear ht
     gi_wp2_with (fail)
     refine region_round [0,1,2,3,4,5,6,7,8,9,10,11] (fun U=>U=V) (by kernel_rfl) (by kernel_rfl) (by kernel_rfl) HV.out (fun _=>?_)
     rw [HV.out]
     repeat (refine pq rfl rfl ?_;go_big_quiet_step (fail);refine wpQuiet_nil ?_)
     refine ps rfl rfl rfl (Wd.mem rfl) ?_
     go_big_quiet_skip
     refine wpQuiet_nil ?_
     repeat (refine pq rfl rfl ?_;go_big_quiet_step (fail);refine wpQuiet_nil ?_)
     refine perm_done ?_
     gi_wp2
     obtain ⟨O',q1,q2,q3,q4⟩:=OUT.out V KV.out MM.out
     exact ⟨O',q1,q2,rfl,q3,q4⟩
    ·have g1:(x == y)=false:=by simp [xy]
     by_cases xt:x=t
     ·have MM:Hid (meetB s x (sl,y)=true):=gh (by simp [meetB,ht,xt])
      subst xt
      clear ht xy
      gi_wp2_with (fail)
      refine region_round [0,1,2,3,4,5,6,7,8,9,10,11] (fun U=>U=V) (by kernel_rfl) (by kernel_rfl) (by kernel_rfl) HV.out (fun _=>?_)
      rw [HV.out]
      repeat (refine pq rfl rfl ?_;go_big_quiet_step (fail);refine wpQuiet_nil ?_)
      refine pl rfl rfl ?_
      gi_wp2_with (fail)
      refine ⟨trivial,?_⟩
      refine (callsIn_wide.2 (target_p _ b s y x (MB.out.kept KBV.out) HYI.out HT.out)).mono ?_
      rintro e U ⟨rfl,rfl⟩
      gi_wp2_with (fail)
      refine ⟨Wd.mem rfl,?_⟩
      repeat (refine pq rfl rfl ?_;go_big_quiet_step (fail);refine wpQuiet_nil ?_)
      refine perm_done ?_
      gi_wp2
      obtain ⟨O',q1,q2,q3,q4⟩:=OUT.out V KV.out MM.out
      exact ⟨O',q1,q2,rfl,q3,q4⟩
     ·have g2:(x == t)=false:=by simp [xt]
      have MM:Hid (meetB s x (sl,y)=false):=gh (by simp [meetB,ht,xt,xy])
      clear ht xy xt
      gi_wp2_with (fail)
      refine region_round [0,1,2,3,4,5,6,7,8,9,10,11] (fun U=>U=V) (by kernel_rfl) (by kernel_rfl) (by kernel_rfl) HV.out (fun _=>?_)
      rw [HV.out]
      repeat (refine pq rfl rfl ?_;go_big_quiet_step (fail);refine wpQuiet_nil ?_)
      refine pl rfl rfl ?_
      gi_wp2_with (fail)
      refine ⟨trivial,?_⟩
      refine (callsIn_wide.2 (target_p _ b s y t (MB.out.kept KBV.out) HYI.out HT.out)).mono ?_
      rintro e U ⟨rfl,rfl⟩
      gi_wp2_with (fail)
      refine ⟨Wd.mem rfl,?_⟩
      repeat (refine pq rfl rfl ?_;go_big_quiet_step (fail);refine wpQuiet_nil ?_)
      refine perm_done ?_
      gi_wp2
      exact GO.out V KV.out MM.out
  case done=>
   rintro D O X hD nD tX sX ⟨hpre,hO,rX⟩ hK
   have HR:Hid (r=false):=gh (by rw [← HE2.out];exact List.any_eq_false.2 (fun p hp=>by simp [hpre p hp]))
   have nD2:D≠n+2:=by have:=Z3.out;omega
   have c6:=rX.cell
   have f6:=rX.frozen
   have tS:Td (fun k=>k=n+2) X (X.setCell ⟨n+2,0,none⟩ (.bool false)):=Td.setCell _ _ _ rfl
   have hK2:Hid ((X.setCell ⟨n+2,0,none⟩ (.bool false)).heap[D]? = some (.deferred (some []))):=gh (tS.heap hK nD2)
   have CS:Hid ((X.setCell ⟨n+2,0,none⟩ (.bool false)).cell? ⟨n+2,0,none⟩=some (.bool false)):=gh (rX.set (.bool false)).cell
   have KX:Hid (Kept w (X.setCell ⟨n+2,0,none⟩ (.bool false))):=gh ((K3.out.did (by have:=HN0.out;omega) tX).did (by have:=HN0.out;omega) tS)
   clear hK rX tS tX sX hO nD
   go_wp2
   refine leave_marks [D] _ ?_ ?_ ?_
   ·intro k hk
    simp at hk
    rw [hk]
    exact hK2.out
   ·simp
   ·intro X' hX'
    have q1:=hX'.cell CS.out (by simp;omega)
    exact ⟨.bool false,by simp [results,Tryz.results94,go_sem,q1],by rw [HR.out],KX.out.own (fun i hi=>by simp at hi;have:=K3.out.size;omega) hX'⟩
  case stop=>
   rintro D O c pre rest X hD nD tX sX hx' ⟨rfl,⟨p,hp,hm⟩,hO,rX⟩ hK
   have HR:Hid (r=true):=gh (by rw [← HE2.out];exact List.any_eq_true.2 ⟨p,by rw [hx'];exact List.mem_append_left _ hp,hm⟩)
   have nD2:D≠n+2:=by have:=Z3.out;omega
   have c6:=rX.cell
   have f6:=rX.frozen
   have tS:Td (fun k=>k=n+2) X X:=Td.refl _ _
   have hK2:Hid (X.heap[D]? = some (.deferred (some []))):=gh (tS.heap hK nD2)
   have CS:Hid (X.cell? ⟨n+2,0,none⟩=some (.bool true)):=gh rX.cell
   have KX:Hid (Kept w X):=gh ((K3.out.did (by have:=HN0.out;omega) tX).did (by have:=HN0.out;omega) tS)
   clear hK rX tS tX sX hO nD
   go_wp2
   refine leave_marks [D] _ ?_ ?_ ?_
   ·intro k hk
    simp at hk
    rw [hk]
    exact hK2.out
   ·simp
   ·intro X' hX'
    have q1:=hX'.cell CS.out (by simp;omega)
    exact ⟨.bool true,by simp [results,Tryz.results94,go_sem,q1],by rw [HR.out],KX.out.own (fun i hi=>by simp at hi;have:=K3.out.size;omega) hX'⟩
set_option maxHeartbeats 2000000 in
theorem calm_p (w:World) (b:Nat) (s:Mst) (h:PM w b s) (ho:s.ok) (r:Bool) (e1:calmB s=r) :
  Calls Tryz.prog 32 #[.pointer (some ⟨b,0,none⟩)] w fun e w'=>e=.returned (.bool r)∧Kept w w':=by
 have H:=gh h
 have HO:=gh ho
 obtain ⟨n,hn⟩:∃ n,w.heap.size=n:=⟨_,rfl⟩
 obtain ⟨W1,hW1⟩:∃ W1,(w.alloc (.cells #[.pointer (some ⟨b,0,none⟩)] 36)).alloc (.cells #[.bool false] 4)=W1:=⟨_,rfl⟩
 have z1:W1.heap.size=n+2:=by rw [← hW1];simp [hn]
 have t1:Kept w W1:=by
  rw [← hW1]
  exact ((Kept.refl w).alloc _).alloc _
 have bx:∀ (X:World) (T:TypeId) (v:Value) (m:Nat),X.heap.size=m→Boxed (X.alloc (.cells #[v] T)) m T v:=fun X T v m e=>by rw [← e];exact Boxed.new X T v
 have bM:Boxed W1 n 36 (.pointer (some ⟨b,0,none⟩)):=by
  rw [← hW1];exact (bx w 36 _ n hn).alloc _
 have bR:Boxed W1 (n+1) 4 (.bool false):=by
  rw [← hW1];exact bx _ 4 _ (n+1) (by simp [hn])
 have K1:=gh t1
 have HN0:=gh hn
 have Z1:=gh z1
 obtain ⟨q,hq⟩:∃ q,soundB s=q:=⟨_,rfl⟩
 have HQ:=gh hq
 have BM:=gh bM
 have BR:=gh bR
 have c0:=bM.cell
 have cR:=bR.cell
 have fR:=bR.frozen
 have HE:Hid (calmB s=r):=gh e1
 clear h ho e1 t1 bx bM bR hq z1
 refine calls_marks Tryz.func32 rfl ?_
 simp only [Tryz.ntmps32,List.size_toArray,List.length_cons,List.length_nil,Nat.reduceAdd,Nat.reduceSub,Array.replicate_succ,Array.replicate_zero,List.push_toArray,List.append_toArray,List.nil_append,List.cons_append]
 go_wp2_with (fail)
 clear hW1 hn
 refine (sound_p W1 b s (H.out.kept K1.out) HO.out q HQ.out).mono ?_
 rintro e W2 ⟨rfl,k2⟩
 have K2:=gh (K1.out.trans k2)
 have BM2:=gh (k2.boxed BM.out id)
 have BR2:=gh (k2.boxed BR.out id)
 have c0:=BM2.out.cell
 have cR:=BR2.out.cell
 have fR:=BR2.out.frozen
 have Z2:Hid (n+2≤W2.heap.size):=gh (by have:=k2.size;have:=Z1.out;omega)
 clear k2
 cases q with
 | false=>
  have HR:Hid (r=false):=gh (by rw [← HE.out,calmB,HQ.out];rfl)
  have tS:Td (fun k=>k=n+1) W2 (W2.setCell ⟨n+1,0,none⟩ (.bool false)):=Td.setCell _ _ _ rfl
  have KS:=gh (K2.out.did (by have:=HN0.out;omega) tS)
  have CS:=gh (BR2.out.set (.bool false)).cell
  clear tS
  go_wp2
  refine leave_marks [] _ ?_ ?_ ?_
  ·intro k hk;cases hk
  ·simp
  ·intro X' hX'
   have q1:=hX'.cell CS.out (by simp)
   exact ⟨.bool false,by simp [results,Tryz.results32,go_sem,q1],by rw [HR.out],KS.out.trans (hX'.mono fun _ _ h=>by cases h)⟩
 | true=>
  have hWf:=wf_root HO.out HQ.out
  have HWF:=gh hWf
  have HE2:Hid ((spotsL s (fuel s)).all (calmS s)=r):=gh (by rw [← HE.out,calmB,HQ.out];rfl)
  clear hWf
  go_wp2_with (fail)
  refine (spots_k W2 b).mono ?_
  rintro e W3 ⟨B1,rfl,k3,b1,l1⟩
  have K3:=gh (K2.out.trans k3)
  have BM3:=gh (k3.boxed BM2.out id)
  have BR3:=gh (k3.boxed BR2.out id)
  have BS3:=gh b1
  have L1:Hid (n+2≤B1):=gh (by have:=Z2.out;omega)
  have Z3:Hid (n+2≤W3.heap.size):=gh (by have:=k3.size;have:=Z2.out;omega)
  clear k3 b1 l1 c0 cR fR
  go_wp2_with (fail)
  refine wp_range3 (gf:=127) rfl (enters_of Tryz.func127 (by kernel_rfl) rfl) (encs:=encS) (xs:=spotsL s (fuel s)) (R:=SpotR w B1)
   (fun X hX=>spots_i w X (K3.out.trans hX) b s H.out HO.out (fuel s) HWF.out B1 (hX.boxed BS3.out id)) (fun _=>rfl)
   (fun k=>k=n+1) (fun O pre A=>(∀ p ∈ pre,calmS s p=true)∧Cell1 (n+1) 4 (.bool false) O pre A) (fun c O pre A=>c=.ret∧(∃ p ∈ pre,calmS s p=false)∧Cell1 (n+1) 4 (.bool false) O pre A) ?hR
   (good_and (Cell1.good _ _ _) _) (fun c=>good_only (good_and (Cell1.good _ _ _) _) c .ret) ⟨(by intro p hp;cases hp),fun _=>Iff.rfl,BR3.out⟩ (fun p=>#[.int .i64 p.1,.int .i64 p.2]) 94 ?ab ?done ?stop
  case hR=>
   rintro k (hk | rfl)
   ·have h1:=K3.out.size
    have h2:=HN0.out
    exact ⟨by omega,by omega⟩
   ·have h1:=BS3.out.lt
    have h2:=L1.out
    exact ⟨h1,by omega⟩
  case ab=>
   apply Exists.intro
   refine ⟨?_,?_⟩
   ·intro l' p X m K hm hK
    gi_wp2
    exact hK
   ·rintro l' O pre ⟨sl,y⟩ rest B m hx' tB sB ⟨hpre,hO,rB⟩ hm nOm _
    have HOO:=gh hO
    have HPRE:=gh hpre
    have KB:=gh (K3.out.did (by have:=HN0.out;omega) tB)
    have MB:=gh (H.out.kept KB.out)
    have cM:=(tB.boxed BM3.out (by omega)).cell
    have HYI:Hid (I64 y):=gh (spotsL_i64 HO.out (fuel s) (sl,y) (by rw [hx'];simp))
    have RB:=gh rB
    have cq0:B.heap[m]? = some (.cells #[.int .i64 sl,.int .i64 y] 94):=hm
    have GO:Hid (∀ X,Kept B X→calmS s (sl,y)=true→∃ O',Sub O' O B.heap.size∧Td O B X∧(∀ p ∈ pre++[(sl,y)],calmS s p=true)∧Cell1 (n+1) 4 (.bool false) O' (pre++[(sl,y)]) X):=gh (fun X kX hm=>by
     refine ⟨O,Sub.refl _ _,kX.mono (fun _ _ h=>h.elim),?_,HOO.out,kX.boxed RB.out id⟩
     intro p hp
     rcases List.mem_append.1 hp with hp | hp
     ·exact HPRE.out p hp
     ·simp at hp;rw [hp];exact hm)
    have OUT:Hid (∀ X,Kept B X→calmS s (sl,y)=false→∃ O',Sub O' O B.heap.size∧Td O B (X.setCell ⟨n+1,0,none⟩ (.bool false))∧(∃ p ∈ pre++[(sl,y)],calmS s p=false)∧Cell1 (n+1) 4 (.bool false) O' (pre++[(sl,y)]) (X.setCell ⟨n+1,0,none⟩ (.bool false))):=gh (fun X kX hm=>by
     have tS:Td (fun k=>k=n+1) X (X.setCell ⟨n+1,0,none⟩ (.bool false)):=Td.setCell _ _ _ rfl
     refine ⟨O,Sub.refl _ _,(Td.trans kX tS (fun _ h=>h.elim) (fun k _ h=>(HOO.out k).2 h)),⟨(sl,y),by simp,hm⟩,HOO.out,(kX.boxed RB.out id).set _⟩)
    clear hx' tB sB hpre hO rB hm nOm
    have cq1:B.cell? ⟨m,0,none⟩=some (.int .i64 sl):=by simp [World.cell?,cq0]
    have cq2:B.cell? ⟨m,1,none⟩=some (.int .i64 y):=by simp [World.cell?,cq0]
    have c6:=RB.out.cell
    have f6:=RB.out.frozen
    obtain ⟨z,hz⟩:∃ z,s.look sl=z:=⟨_,rfl⟩
    obtain ⟨k,hk⟩:∃ k,kd z=k:=⟨_,rfl⟩
    obtain ⟨v,hv⟩:∃ v,calmW s y=v:=⟨_,rfl⟩
    have HZ:=gh hz
    have HK:=gh hk
    have HVV:=gh hv
    have HZI:Hid (I64 z):=gh (by rw [← hz];exact HO.out.look _)
    have MC:=MB
    have MM:Hid (calmS s (sl,y)=(!(k == 5) && v)):=gh (by simp only [calmS,hz,hk,hv])
    clear cq0 hz hk hv
    by_cases k5:k=5
    ·subst k5
     have M2:Hid (calmS s (sl,y)=false):=gh (by rw [MM.out];rfl)
     gi_wp2_with (fail)
     refine ⟨trivial,?_⟩
     refine (CallsIn.inRound l' (callsIn_wide.2 (lk_p _ b s sl z MC.out HZ.out))).mono ?_
     rintro e U ⟨rfl,rfl⟩
     gi_wp2_with (fail)
     refine ⟨trivial,?_⟩
     refine (CallsIn.inRound l' (callsIn_wide.2 (kk_p _ z 5 HZI.out HK.out))).mono ?_
     rintro e U ⟨rfl,rfl⟩
     gi_wp2
     refine ⟨trivial,?_⟩
     gi_wp2
     obtain ⟨O',q1,q2,q3,q4⟩:=OUT.out _ (Kept.refl _) M2.out
     exact ⟨O',q1,q2,rfl,q3,q4⟩
    ·have g1:(k == 5)=false:=by simp [k5]
     clear k5
     cases v with
     | true=>
      have M2:Hid (calmS s (sl,y)=true):=gh (by rw [MM.out,g1];rfl)
      gi_wp2_with (fail)
      refine ⟨trivial,?_⟩
      refine (CallsIn.inRound l' (callsIn_wide.2 (lk_p _ b s sl z MC.out HZ.out))).mono ?_
      rintro e U ⟨rfl,rfl⟩
      gi_wp2_with (fail)
      refine ⟨trivial,?_⟩
      refine (CallsIn.inRound l' (callsIn_wide.2 (kk_p _ z k HZI.out HK.out))).mono ?_
      rintro e U ⟨rfl,rfl⟩
      gi_wp2_with (fail)
      refine ⟨trivial,?_⟩
      refine (CallsIn.inRound l' (callsIn_wide.2 (isCalm_p _ b s y _ MC.out HO.out HYI.out HVV.out))).mono ?_
      rintro e U ⟨rfl,rfl⟩
      gi_wp2
      exact GO.out _ (Kept.refl _) M2.out
     | false=>
      have M2:Hid (calmS s (sl,y)=false):=gh (by rw [MM.out,g1];rfl)
      gi_wp2_with (fail)
      refine ⟨trivial,?_⟩
      refine (CallsIn.inRound l' (callsIn_wide.2 (lk_p _ b s sl z MC.out HZ.out))).mono ?_
      rintro e U ⟨rfl,rfl⟩
      gi_wp2_with (fail)
      refine ⟨trivial,?_⟩
      refine (CallsIn.inRound l' (callsIn_wide.2 (kk_p _ z k HZI.out HK.out))).mono ?_
      rintro e U ⟨rfl,rfl⟩
      gi_wp2_with (fail)
      refine ⟨trivial,?_⟩
      refine (CallsIn.inRound l' (callsIn_wide.2 (isCalm_p _ b s y _ MC.out HO.out HYI.out HVV.out))).mono ?_
      rintro e U ⟨rfl,rfl⟩
      gi_wp2
      obtain ⟨O',q1,q2,q3,q4⟩:=OUT.out _ (Kept.refl _) M2.out
      exact ⟨O',q1,q2,rfl,q3,q4⟩
  case done=>
   rintro D O X hD nD tX sX ⟨hpre,hO,rX⟩ hK
   have HR:Hid (r=true):=gh (by rw [← HE2.out];exact List.all_eq_true.2 hpre)
   have nD2:D≠n+1:=by have:=Z3.out;omega
   have c6:=rX.cell
   have f6:=rX.frozen
   have tS:Td (fun k=>k=n+1) X (X.setCell ⟨n+1,0,none⟩ (.bool true)):=Td.setCell _ _ _ rfl
   have hK2:Hid ((X.setCell ⟨n+1,0,none⟩ (.bool true)).heap[D]? = some (.deferred (some []))):=gh (tS.heap hK nD2)
   have CS:Hid ((X.setCell ⟨n+1,0,none⟩ (.bool true)).cell? ⟨n+1,0,none⟩=some (.bool true)):=gh (rX.set (.bool true)).cell
   have KX:Hid (Kept w (X.setCell ⟨n+1,0,none⟩ (.bool true))):=gh ((K3.out.did (by have:=HN0.out;omega) tX).did (by have:=HN0.out;omega) tS)
   clear hK rX tS tX sX hO nD
   go_wp2
   refine leave_marks [D] _ ?_ ?_ ?_
   ·intro k hk
    simp at hk
    rw [hk]
    exact hK2.out
   ·simp
   ·intro X' hX'
    have q1:=hX'.cell CS.out (by simp;omega)
    exact ⟨.bool true,by simp [results,Tryz.results32,go_sem,q1],by rw [HR.out],KX.out.own (fun i hi=>by simp at hi;have:=K3.out.size;omega) hX'⟩
  case stop=>
   rintro D O c pre rest X hD nD tX sX hx' ⟨rfl,⟨p,hp,hm⟩,hO,rX⟩ hK
   have HR:Hid (r=false):=gh (by rw [← HE2.out];exact List.all_eq_false.2 ⟨p,by rw [hx'];exact List.mem_append_left _ hp,by simp [hm]⟩)
   have nD2:D≠n+1:=by have:=Z3.out;omega
   have c6:=rX.cell
   have f6:=rX.frozen
   have tS:Td (fun k=>k=n+1) X X:=Td.refl _ _
   have hK2:Hid (X.heap[D]? = some (.deferred (some []))):=gh (tS.heap hK nD2)
   have CS:Hid (X.cell? ⟨n+1,0,none⟩=some (.bool false)):=gh rX.cell
   have KX:Hid (Kept w X):=gh ((K3.out.did (by have:=HN0.out;omega) tX).did (by have:=HN0.out;omega) tS)
   clear hK rX tS tX sX hO nD
   go_wp2
   refine leave_marks [D] _ ?_ ?_ ?_
   ·intro k hk
    simp at hk
    rw [hk]
    exact hK2.out
   ·simp
   ·intro X' hX'
    have q1:=hX'.cell CS.out (by simp;omega)
    exact ⟨.bool false,by simp [results,Tryz.results32,go_sem,q1],by rw [HR.out],KX.out.own (fun i hi=>by simp at hi;have:=K3.out.size;omega) hX'⟩
end
section
theorem freeN_take {N:Nat} {t:Tk} {a:Nat}:∀ (n:Nat),a+n≤N→freeB t a n=true→freeN N (takeT t a n)+n≤freeN N t
 | 0,_,_=>by rw [takeT_zero];exact Nat.le_refl _
 | n+1,h,hf=>by
  rw [freeB_succ] at hf
  simp only [Bool.and_eq_true] at hf
  have ih:=freeN_take (N:=N) (t:=t) (a:=a) n (by omega) hf.1
  have h1:freeN N (takeT t a (n+1)) < freeN N (takeT t a n):=by
   refine countP_lt' _ _ ?_ N (a+n) (by omega) ?_ ?_
   ·intro j hj
    simp only [takeT,Bool.not_or,Bool.and_eq_true] at hj ⊢
    refine ⟨hj.1,?_⟩
    have:=hj.2
    simp only [Bool.not_eq_true',decide_eq_false_iff_not] at this ⊢
    omega
   ·simp [takeT]
   ·have:=hf.2
    rw [takeT_at]
    exact this
  omega
theorem take_count {N:Nat} {t u:Tk} {a n:Nat} (h:takeO N t a n=some u):freeN N u+n≤freeN N t:=by
 unfold takeO at h
 split at h
 ·rename_i c
  simp only [Bool.and_eq_true,decide_eq_true_eq] at c
  simp only [Option.some.injEq] at h
  subst h
  exact freeN_take n c.1.2 c.2
 ·cases h
theorem spotsF_more {s:Mst}:∀ {f g:Nat} {x:Int},Wf s f x→f≤g→spotsF s g x=spotsF s f x
 | 0,_,_,h,_=>h.elim
 | f+1,0,_,_,h=>absurd h (by omega)
 | f+1,g+1,x,h,hg=>by
  rw [spotsF_succ,spotsF_succ]
  unfold oneF
  have:∀ (L:List (Int × Int)),(∀ p ∈ L,Wf s f (s.logicZ p.2))→L.flatMap (fun p=>(p.2,s.logicZ p.2) :: spotsF s g (s.logicZ p.2))=L.flatMap (fun p=>(p.2,s.logicZ p.2) :: spotsF s f (s.logicZ p.2)):=by
   intro L
   induction L with
   | nil=>intro _;rfl
   | cons p L ih=>
    intro hL
    rw [List.flatMap_cons,List.flatMap_cons,ih (fun q hq=>hL q (List.mem_cons_of_mem _ hq)),spotsF_more (hL p List.mem_cons_self) (by omega)]
  exact this _ h.2
theorem slotsL_tgt {s:Mst} {x:Int} (h:kd (tgt s x)=3):slotsL s (tgt s x)=slotsL s x:=by
 unfold slotsL degN atN;rw [tgt_tgt h]
theorem Wf.down {s:Mst} (ho:s.ok) {f:Nat} {x:Int} (h:Wf s f x) (h3:kd (tgt s x)=3):Wf s f (tgt s x):=by
 obtain ⟨g,rfl,h1,h2⟩:=h.pos
 refine ⟨⟨tgt_i64 ho h1.i64,?_,?_⟩,?_⟩
 ·rw [tgt_tgt h3];exact h1.deg
 ·intro h4;rw [h3] at h4;cases h4
 ·rw [slotsL_tgt h3];exact h2
theorem spotsF_tgt {s:Mst} {f:Nat} {x:Int} (h3:kd (tgt s x)=3):spotsF s f (tgt s x)=spotsF s f x:=by
 cases f with
 | zero=>rfl
 | succ f=>rw [spotsF_succ,spotsF_succ,slotsL_tgt h3]
theorem spotsF_none {s:Mst} {f:Nat} {x:Int} (h3:kd (tgt s x)≠3):spotsF s f x=[]:=by
 cases f with
 | zero=>rfl
 | succ f=>rw [spotsF_succ,slotsL_none h3];rfl
theorem chain_count {s:Mst} {f a d:Nat} {lo hi:Int} (ih:∀ (x lo hi:Int) (t u:Tk),I64 x→sndW s f x lo hi t=some u→(spotsF s f x).length+freeN (s.xs.length+1) u≤freeN (s.xs.length+1) t) (ho:s.ok) :
  ∀ (n:Nat) (t u:Tk),chain (kidG s (sndW s f) a d lo hi) n t=some u→(((List.range n).map (fun i:Nat=>((i:Int),childS a d i))).flatMap (oneF s f)).length+freeN (s.xs.length+1) u≤n+freeN (s.xs.length+1) t
 | 0,t,u,h=>by simp [chain] at h;subst h;simp
 | n+1,t,u,h=>by
  rw [chain,Option.bind_eq_some_iff] at h
  obtain ⟨v,h1,h2⟩:=h
  have i1:=chain_count ih ho n t v h1
  unfold kidG sndSlot at h2
  split at h2
  ·have i2:=ih _ _ _ _ _ (ho.logic _) h2
   rw [List.range_succ,List.map_append,List.flatMap_append,List.length_append]
   simp only [List.map_cons,List.map_nil,List.flatMap_cons,List.flatMap_nil,List.append_nil,oneF,List.length_cons] at i1 ⊢
   omega
  ·cases h2
theorem spots_count {s:Mst} (ho:s.ok):∀ (f:Nat) (x lo hi:Int) (t u:Tk),I64 x→sndW s f x lo hi t=some u→(spotsF s f x).length+freeN (s.xs.length+1) u≤freeN (s.xs.length+1) t
 | 0,_,_,_,_,_,_,h=>by cases h
 | f+1,x,lo,hi,t,u,hx,h=>by
  have ih:=spots_count ho f
  have hm:=sndW_free s (f+1) x lo hi t u h
  have hwf:=wf_of_snd ho (f+1) x lo hi t u hx h
  rw [sndW_succ] at h
  have plain:kd x≠3→kd x≠4→(spotsF s (f+1) x).length+freeN (s.xs.length+1) u≤freeN (s.xs.length+1) t:=fun h3 h4=>by
   rw [spotsF_none (by rw [tgt,if_neg h4];exact h3)]
   simpa using hm
  split at h
  ·rename_i k;exact plain (by omega) (by omega)
  ·split at h
   ·rename_i k;exact plain (by omega) (by omega)
   ·split at h
    ·rename_i k3
     have e:tgt s x=x:=by rw [tgt,if_neg (by omega)]
     have ha:=ad_range x
     have ea:(((ad x).toNat:Nat):Int)=ad x:=by omega
     unfold sndInner at h
     rw [ea] at h
     split at h
     ·cases h
     ·rename_i hd
      rw [Option.bind_eq_some_iff] at h
      obtain ⟨t1,h1,h2⟩:=h
      split at h2
      ·have c1:=take_count h1
       have c2:=chain_count ih ho _ _ _ h2
       have e3:slotsL s x=(List.range (s.look (ad x)).toNat).map (fun i:Nat=>((i:Int),childS (ad x).toNat (s.look (ad x)).toNat i)):=by
        unfold slotsL degN atN
        rw [e,if_pos k3]
       rw [spotsF_succ,e3]
       omega
      ·cases h2
    ·split at h
     ·rename_i k4
      split at h
      ·rename_i k3
       rw [Option.bind_eq_some_iff] at h
       obtain ⟨t1,h1,h2⟩:=h
       have c1:=take_count h1
       have e:tgt s x=s.look (ad x):=by rw [tgt,if_pos k4]
       have hw2:=wf_of_snd ho f _ _ _ _ _ (ho.look _) h2
       have c2:=ih _ _ _ _ _ (ho.look _) h2
       rw [← spotsF_tgt (by rw [e];exact k3),e,spotsF_more hw2 (by omega)]
       omega
      ·cases h
     ·cases h
theorem spotsL_len {s:Mst} (ho:s.ok) (h:soundB s=true):(spotsL s (fuel s)).length≤70000:=by
 unfold soundB at h
 simp only [Bool.and_eq_true] at h
 have h4:=h.2
 cases e:sndSlot s (sndW s (fuel s)) 6 (-9223372036854775808) 9223372036854775807 base0 with
 | none=>rw [e] at h4;cases h4
 | some u=>
  unfold sndSlot at e
  split at e
  ·have:=spots_count ho _ _ _ _ _ _ (ho.logic _) e
   have h1:=freeN_le (s.xs.length+1) base0
   have h2:=ho.2
   unfold spotsL
   rw [List.length_cons]
   omega
  ·cases e
def WordOk (s:Mst) (x:Int):Prop:=1≤kd x∧kd x≤4∧(kd x=3→shutB s (ad x).toNat=true)
theorem wordOk_of_snd {s:Mst}:∀ (f:Nat) (x lo hi:Int) (t u:Tk),sndW s f x lo hi t=some u→WordOk s x
 | 0,_,_,_,_,_,h=>by cases h
 | f+1,x,lo,hi,t,u,h=>by
  rw [sndW_succ] at h
  split at h
  ·rename_i k;exact ⟨by omega,by omega,fun h'=>by omega⟩
  ·split at h
   ·rename_i k;exact ⟨by omega,by omega,fun h'=>by omega⟩
   ·split at h
    ·rename_i k
     refine ⟨by omega,by omega,fun _=>?_⟩
     unfold sndInner at h
     split at h
     ·cases h
     ·rw [Option.bind_eq_some_iff] at h
      obtain ⟨t1,_,h2⟩:=h
      split at h2
      ·rename_i c
       simp only [Bool.and_eq_true] at c
       exact c.2
      ·cases h2
    ·split at h
     ·rename_i k;exact ⟨by omega,by omega,fun h'=>by omega⟩
     ·cases h
theorem spots_ok {s:Mst} (ho:s.ok):∀ (f:Nat) (x lo hi:Int) (t u:Tk),I64 x→sndW s f x lo hi t=some u→∀ p ∈ spotsF s f x,WordOk s p.2∧p.2=s.logicZ p.1
 | 0,_,_,_,_,_,_,h=>by cases h
 | f+1,x,lo,hi,t,u,hx,h=>by
  have ih:=spots_ok ho f
  have kids:∀ (a d n:Nat) (lo hi:Int) (t u:Tk),chain (kidG s (sndW s f) a d lo hi) n t=some u→∀ p ∈ ((List.range n).map (fun i:Nat=>((i:Int),childS a d i))).flatMap (oneF s f),WordOk s p.2∧p.2=s.logicZ p.1:=by
   intro a d n lo hi t u hc p hp
   rw [List.mem_flatMap] at hp
   obtain ⟨q,hq,hp⟩:=hp
   rw [List.mem_map] at hq
   obtain ⟨i,hi',rfl⟩:=hq
   simp only [List.mem_range] at hi'
   obtain ⟨l,h',t',u',h3⟩:=chain_all hc i hi'
   unfold oneF at hp
   rcases List.mem_cons.1 hp with rfl | hp
   ·exact ⟨wordOk_of_snd f _ _ _ _ _ h3,rfl⟩
   ·exact ih _ _ _ _ _ (ho.logic _) h3 p hp
  rw [sndW_succ] at h
  have plain:kd x≠3→kd x≠4→∀ p ∈ spotsF s (f+1) x,WordOk s p.2∧p.2=s.logicZ p.1:=fun h3 h4 p hp=>by
   rw [spotsF_none (by rw [tgt,if_neg h4];exact h3)] at hp
   cases hp
  split at h
  ·rename_i k;exact plain (by omega) (by omega)
  ·split at h
   ·rename_i k;exact plain (by omega) (by omega)
   ·split at h
    ·rename_i k3
     have e:tgt s x=x:=by rw [tgt,if_neg (by omega)]
     have ha:=ad_range x
     have ea:(((ad x).toNat:Nat):Int)=ad x:=by omega
     unfold sndInner at h
     rw [ea] at h
     split at h
     ·cases h
     ·rw [Option.bind_eq_some_iff] at h
      obtain ⟨t1,h1,h2⟩:=h
      split at h2
      ·have e3:slotsL s x=(List.range (s.look (ad x)).toNat).map (fun i:Nat=>((i:Int),childS (ad x).toNat (s.look (ad x)).toNat i)):=by
        unfold slotsL degN atN
        rw [e,if_pos k3]
       rw [spotsF_succ,e3]
       exact kids _ _ _ _ _ _ _ h2
      ·cases h2
    ·split at h
     ·rename_i k4
      split at h
      ·rename_i k3
       rw [Option.bind_eq_some_iff] at h
       obtain ⟨t1,h1,h2⟩:=h
       have e:tgt s x=s.look (ad x):=by rw [tgt,if_pos k4]
       have hw2:=wf_of_snd ho f _ _ _ _ _ (ho.look _) h2
       rw [← spotsF_tgt (by rw [e];exact k3),e,spotsF_more hw2 (by omega)]
       exact ih _ _ _ _ _ (ho.look _) h2
      ·cases h
     ·cases h
theorem spotsL_ok {s:Mst} (ho:s.ok) (h:soundB s=true):∀ p ∈ spotsL s (fuel s),WordOk s p.2∧p.2=s.logicZ p.1:=by
 unfold soundB at h
 simp only [Bool.and_eq_true] at h
 have h4:=h.2
 cases e:sndSlot s (sndW s (fuel s)) 6 (-9223372036854775808) 9223372036854775807 base0 with
 | none=>rw [e] at h4;cases h4
 | some u=>
  unfold sndSlot at e
  split at e
  ·intro p hp
   rcases List.mem_cons.1 hp with rfl | hp
   ·exact ⟨wordOk_of_snd _ _ _ _ _ _ e,rfl⟩
   ·exact spots_ok ho _ _ _ _ _ _ (ho.logic _) e p hp
  ·cases e
end
section
def flat:List (Int × Int)→List Value
 | []=>[]
 | p :: xs=>.int .i64 p.1 :: .int .i64 p.2 :: flat xs
theorem flat_append:(xs ys:List (Int × Int))→flat (xs++ys)=flat xs++flat ys
 | [],_=>rfl
 | p :: xs,ys=>by simp [flat,flat_append xs ys]
theorem flat_length:(xs:List (Int × Int))→(flat xs).length=xs.length * 2
 | []=>rfl
 | p :: xs=>by simp [flat,flat_length xs];omega
theorem flat_at:{xs:List (Int × Int)}→{j:Nat}→{p:Int × Int}→xs[j]? = some p→(flat xs)[j * 2]? = some (.int .i64 p.1)∧(flat xs)[j * 2+1]? = some (.int .i64 p.2)
 | x :: xs,0,p,h=>by
  obtain rfl:x=p:=by simpa using h
  exact ⟨rfl,rfl⟩
 | x :: xs,j+1,p,h=>by
  have:=flat_at (xs:=xs) (j:=j) (p:=p) (by simpa using h)
  rw [show (j+1) * 2=j * 2+1+1 by omega]
  simpa [flat] using this
theorem flat_of:{xs:List (Int × Int)}→{j:Nat}→{u:Value}→(flat xs)[j]? = some u→∃ i p,xs[i]? = some p∧((j=i * 2∧u=.int .i64 p.1)∨(j=i * 2+1∧u=.int .i64 p.2))
 | x :: _,0,u,h=>⟨0,x,rfl,.inl ⟨rfl,by simpa [flat] using h.symm⟩⟩
 | x :: _,1,u,h=>⟨0,x,rfl,.inr ⟨rfl,by simpa [flat] using h.symm⟩⟩
 | x :: xs,j+2,u,h=>by
  obtain ⟨i,p,h1,h2⟩:=flat_of (xs:=xs) (j:=j) (u:=u) (by simpa [flat] using h)
  refine ⟨i+1,p,by simpa using h1,?_⟩
  rcases h2 with ⟨e,h⟩ | ⟨e,h⟩
  ·exact .inl ⟨by omega,h⟩
  ·exact .inr ⟨by omega,h⟩
theorem flat_one:(xs:List (Int × Int))→∀ u ∈ flat xs,u.oneCell'=true
 | []=>by simp [flat]
 | p :: xs=>by
  intro u hu
  simp only [flat,List.mem_cons] at hu
  rcases hu with rfl | rfl | hu
  ·rfl
  ·rfl
  ·exact flat_one xs u hu
def PReads (w:World) (a:Option Addr) (xs:List (Int × Int)):Prop:=
 xs=[]∨∃ bl off,a=some ⟨bl,off,none⟩∧∀ j p,xs[j]? = some p→w.cell? ⟨bl,off+j * 2,none⟩=some (.int .i64 p.1)∧w.cell? ⟨bl,off+(j * 2+1),none⟩=some (.int .i64 p.2)
theorem PReads.turned {w w':World} {a:Option Addr} {xs:List (Int × Int)} (h:PReads w a xs) {R:Nat→Prop} (ht:Td R w w') (hR:∀ k,k < w.heap.size→(∃ ad,a=some ad∧ad.block=k)→¬ R k):PReads w' a xs:=by
 rcases h with h | ⟨bl,off,rfl,h⟩
 ·exact .inl h
 ·refine .inr ⟨bl,off,rfl,fun j p hp=>?_⟩
  have hc:=h j p hp
  have hn:=hR bl (World.block_lt_of_cell? _ _ hc.1) ⟨_,rfl,rfl⟩
  exact ⟨ht.cell hc.1 hn,ht.cell hc.2 hn⟩
theorem PReads.kept {w w':World} {a:Option Addr} {xs:List (Int × Int)} (h:PReads w a xs) (ht:Kept w w'):PReads w' a xs:=h.turned ht (fun _ _ _ e=>e)
theorem PReads.at {w:World} {a:Option Addr} {xs:List (Int × Int)} (h:PReads w a xs) {j:Nat} {p:Int × Int} (hp:xs[j]? = some p):∃ bl off,a=some ⟨bl,off,none⟩∧bl < w.heap.size∧w.cell? ⟨bl,off+j * 2,none⟩=some (.int .i64 p.1)∧w.cell? ⟨bl,off+(j * 2+1),none⟩=some (.int .i64 p.2):=by
 rcases h with h | ⟨bl,off,ha,hc⟩
 ·rw [h] at hp
  simp at hp
 ·exact ⟨bl,off,ha,World.block_lt_of_cell? _ _ (hc j p hp).1,hc j p hp⟩
theorem PReads.news {w:World} {bl off:Nat} {xs:List (Int × Int)} (h:∀ j p,xs[j]? = some p→w.cell? ⟨bl,off+j * 2,none⟩=some (.int .i64 p.1)∧w.cell? ⟨bl,off+(j * 2+1),none⟩=some (.int .i64 p.2)) :
  ∀ (j:Nat) (u:Value),(flat xs)[j]? = some u→w.cell? ((⟨bl,off,none⟩:Addr).add j)=some u:=by
 intro j u hu
 obtain ⟨i,p,h1,⟨rfl,rfl⟩ | ⟨rfl,rfl⟩⟩:=flat_of hu
 ·rcases i with _ | i
  ·simpa [Addr.add] using (h 0 p h1).1
  ·exact (h (i+1) p h1).1
 ·exact (h i p h1).2
abbrev PRow (w:World) (n₀:Nat) (E:TypeId) (v:Value) (xs:List (Int × Int)):Prop:=w.ownsRow n₀ E 2 v xs.length (flat xs)
theorem PRow.reads {w:World} {n₀:Nat} {E:TypeId} {v:Value} {xs:List (Int × Int)} (h:PRow w n₀ E v xs):∃ a cap,v=.slice a xs.length cap∧PReads w a xs∧xs.length≤cap∧cap≤maxLen∧(a=none→cap=0)∧∀ ad,a=some ad→n₀≤ad.block:=by
 rcases h.2 with ⟨rfl,h0⟩ | ⟨g,cap,cur,rfl,hg,_,hc,hm,_⟩
 ·obtain rfl:=List.length_eq_zero_iff.1 h0
  exact ⟨none,0,rfl,.inl rfl,Nat.le_refl _,Nat.zero_le _,fun _=>rfl,fun _ e=>by cases e⟩
 ·refine ⟨_,cap,rfl,.inr ⟨g,0,rfl,fun j p hp=>?_⟩,hc,hm,fun e=>(by cases e),fun ad e=>by cases e;exact hg⟩
  have hj:=(List.getElem?_eq_some_iff.1 hp).1
  rw [Nat.zero_add,Nat.zero_add,h.cellAt (j * 2) (by omega),h.cellAt (j * 2+1) (by omega)]
  exact flat_at hp
theorem PRow.turned {w w':World} {n₀:Nat} {E:TypeId} {v:Value} {xs:List (Int × Int)} (h:PRow w n₀ E v xs) {R:Nat→Prop} (ht:Td R w w') (hn:∀ g,v.ownBlock=some g→¬ R g):PRow w' n₀ E v xs:=by
 obtain ⟨h1,h2⟩:=h
 refine ⟨h1,?_⟩
 rcases h2 with h2 | ⟨g,cap,cur,rfl,hg,hh,r⟩
 ·exact .inl h2
 ·exact .inr ⟨g,cap,cur,rfl,hg,ht.heap hh (hn g rfl),r⟩
theorem PRow.kept {w w':World} {n₀:Nat} {E:TypeId} {v:Value} {xs:List (Int × Int)} (h:PRow w n₀ E v xs) (ht:Kept w w'):PRow w' n₀ E v xs:=h.turned ht (fun _ _ e=>e)
theorem PRow.low {w:World} {n₀ m:Nat} {E:TypeId} {v:Value} {xs:List (Int × Int)} (h:PRow w n₀ E v xs) (hm:m≤n₀):PRow w m E v xs:=by
 obtain ⟨h1,h2⟩:=h
 refine ⟨h1,?_⟩
 rcases h2 with h2 | ⟨g,cap,cur,rfl,hg,r⟩
 ·exact .inl h2
 ·exact .inr ⟨g,cap,cur,rfl,Nat.le_trans hm hg,r⟩
theorem PRow.nil (w:World) (n₀:Nat) (E:TypeId):PRow w n₀ E (.slice none 0 0) []:=⟨rfl,.inl ⟨rfl,rfl⟩⟩
structure PT (S E:TypeId):Prop where
 under:Tryz.prog.underlying S=some (.slice E)
 info:(Tryz.prog.info? E).map (fun i=>(i.zero,i.size,i.bytes))=some (some (.agg #[.int .i64 0,.int .i64 0]),2,16)
theorem ptS:PT 45 94:=⟨Tryz.underlying45,by kernel_rfl⟩
theorem ptP:PT 44 59:=⟨Tryz.underlying44,by kernel_rfl⟩
theorem two_cells {w:World} {m:Nat} {x y:Int} {E:TypeId} (h:w.heap[m]? = some (.cells #[.int .i64 x,.int .i64 y] E)):∀ (j:Nat) (u:Value),(flat [(x,y)])[j]? = some u→w.cell? ((⟨m,0,none⟩:Addr).add j)=some u:=by
 refine PReads.news (fun j p hp=>?_)
 rcases j with _ | j
 ·simp at hp
  subst hp
  simp [World.cell?,h]
 ·simp at hp
section
variable {S E:TypeId} {w:World} {ops:Array Oper} {rest:List Oper} {o:Oper} {a:Act} {Q:Exit→Act→World→Prop}
theorem wpList_append_pair (pt:PT S E) (hgd:o.guard=none) (s x:Operand) (ho:o.op=.call { callee:=.builtin .append,args:=#[s,x],argTypes:=#[S,S] })
  (base:Nat) (v:Value) (xs ys:List (Int × Int)) (hs:a.eval s=v) (hown:PRow w base E v xs) (m:Nat) (p q:Int) (hx:a.eval x=.slice (some ⟨m,0,none⟩) 1 1) (hc:w.heap[m]? = some (.cells #[.int .i64 p,.int .i64 q] E))
  (hl:xs.length≤1000000) (hbase:base≤w.heap.size) (hy:ys=xs++[(p,q)])
  (h:∀ v' w',PRow w' base E v' ys→w.grownBy w' v.ownBlock→(v'.ownBlock=v.ownBlock∨v'.ownBlock=some w.heap.size)→wpList Tryz.prog ops Q rest (a.put o.dst v') w'):wpList Tryz.prog ops Q (o :: rest) a w:=by
 obtain ⟨i0,hi,hz0,hz1,hz2⟩:=info_parts pt.info
 refine wpList_append_own_at w hgd s x S ho base E i0 _ 2 16 pt.under hi hz0 hz1 hz2 rfl (by decide) v xs.length (flat xs) hs hown ⟨m,0,none⟩ 1 1 (flat [(p,q)]) hx rfl (two_cells hc) (flat_one _) (by unfold maxLen;omega) (by omega) hbase ?_
 intro v' w' h1 h2 _ h4
 refine h v' w' ?_ h2 h4
 rw [hy]
 show World.ownsRow _ _ _ _ _ (xs++[(p,q)]).length (flat (xs++[(p,q)]))
 rw [List.length_append,flat_append]
 exact h1
theorem wpListIn_append_pair {F:Fence} {nF:Nat} (pt:PT S E) (hgd:o.guard=none) (s x:Operand) (ho:o.op=.call { callee:=.builtin .append,args:=#[s,x],argTypes:=#[S,S] })
  (base:Nat) (v:Value) (xs ys:List (Int × Int)) (hs:a.eval s=v) (hown:PRow w base E v xs) (m:Nat) (p q:Int) (hx:a.eval x=.slice (some ⟨m,0,none⟩) 1 1) (hc:w.heap[m]? = some (.cells #[.int .i64 p,.int .i64 q] E))
  (hl:xs.length≤1000000) (hbase:base≤w.heap.size) (hy:ys=xs++[(p,q)])
  (h:∀ v' w',PRow w' base E v' ys→w.grownBy w' v.ownBlock→(v'.ownBlock=v.ownBlock∨v'.ownBlock=some w.heap.size)→wpListIn F nF Tryz.prog ops Q rest (a.put o.dst v') w'):wpListIn F nF Tryz.prog ops Q (o :: rest) a w:=by
 obtain ⟨i0,hi,hz0,hz1,hz2⟩:=info_parts pt.info
 refine wpListIn_append_own_at w hgd s x S ho base E i0 _ 2 16 pt.under hi hz0 hz1 hz2 rfl (by decide) v xs.length (flat xs) hs hown ⟨m,0,none⟩ 1 1 (flat [(p,q)]) hx rfl (two_cells hc) (flat_one _) (by unfold maxLen;omega) (by omega) hbase ?_
 intro v' w' h1 h2 _ h4
 refine h v' w' ?_ h2 h4
 rw [hy]
 show World.ownsRow _ _ _ _ _ (xs++[(p,q)]).length (flat (xs++[(p,q)]))
 rw [List.length_append,flat_append]
 exact h1
theorem wpList_append_pairs (pt:PT S E) (hgd:o.guard=none) (s x:Operand) (ho:o.op=.call { callee:=.builtin .append,args:=#[s,x],argTypes:=#[S,S] })
  (base:Nat) (v:Value) (xs zs ys:List (Int × Int)) (hs:a.eval s=v) (hown:PRow w base E v xs) (aw:Option Addr) (M cw:Nat) (hM:zs.length=M) (hx:a.eval x=.slice aw M cw) (hr:PReads w aw zs) (h0:aw=none→cw=0)
  (hl:xs.length+zs.length≤1000000) (hbase:base≤w.heap.size) (hy:ys=xs++zs)
  (h:∀ v' w',PRow w' base E v' ys→w.grownBy w' v.ownBlock→(v'.ownBlock=v.ownBlock∨v'.ownBlock=some w.heap.size)→wpList Tryz.prog ops Q rest (a.put o.dst v') w'):wpList Tryz.prog ops Q (o :: rest) a w:=by
 obtain ⟨i0,hi,hz0,hz1,hz2⟩:=info_parts pt.info
 have fin:∀ v' w',w'.ownsRow base E 2 v' (xs.length+zs.length) (flat xs++flat zs)→PRow w' base E v' ys:=fun v' w' h1=>by
  rw [hy]
  show World.ownsRow _ _ _ _ _ (xs++zs).length (flat (xs++zs))
  rw [List.length_append,flat_append]
  exact h1
 subst hM
 cases aw with
 | none=>
  have e0:zs=[]:=by
   rcases hr with e | ⟨_,_,e,_⟩
   ·exact e
   ·cases e
  subst e0
  obtain rfl:=h0 rfl
  refine wpList_plain hgd fun K hK=>?_
  have hrun:=run_append_owned_none (P:=Tryz.prog) (w:=w) base S o.type E i0 2 pt.under hi v xs.length (flat xs) hown
  unfold Oper.wp execOp
  simp only [ho,resolve,invoke,builtin,Sem.run_bind,Sem.run_pure,Result.andThen_ok,List.map_toArray,List.map_cons,List.map_nil,hs,hx,List.length_nil,hrun]
  exact hK _ _ (h v w (by rw [hy,List.append_nil];exact hown) (World.grownBy.refl _ _) (.inl rfl))
 | some ad=>
  by_cases e0:zs=[]
  ·subst e0
   exact wpList_append_own_at w hgd s x S ho base E i0 _ 2 16 pt.under hi hz0 hz1 hz2 rfl (by decide) v xs.length (flat xs) hs hown ad 0 cw [] hx rfl (by simp) (by simp) (by simp at hl;unfold maxLen;omega) (by simp at hl;omega) hbase (fun v' w' h1 h2 _ h4=>h v' w' (fin v' w' (by simpa [flat] using h1)) h2 h4)
  ·obtain ⟨bl,off,e,hrow⟩:∃ bl off,some ad=some ⟨bl,off,none⟩∧∀ j p,zs[j]? = some p→w.cell? ⟨bl,off+j * 2,none⟩=some (.int .i64 p.1)∧w.cell? ⟨bl,off+(j * 2+1),none⟩=some (.int .i64 p.2):=by
    rcases hr with e | h
    ·exact (e0 e).elim
    ·exact h
   obtain rfl:ad=⟨bl,off,none⟩:=Option.some.inj e
   exact wpList_append_own_at w hgd s x S ho base E i0 _ 2 16 pt.under hi hz0 hz1 hz2 rfl (by decide) v xs.length (flat xs) hs hown ⟨bl,off,none⟩ zs.length cw (flat zs) hx (flat_length _) (PReads.news hrow) (flat_one _) (by unfold maxLen;omega) (by omega) hbase (fun v' w' h1 h2 _ h4=>h v' w' (fin v' w' h1) h2 h4)
end
theorem pkept_append {w0 w w1:World} {E:TypeId} {v:Value} {xs:List (Int × Int)} (k:Kept w0 w) (hr:PRow w w0.heap.size E v xs) (hg:w.grownBy w1 v.ownBlock):Kept w0 w1:=
 k.own (O:=fun j=>v.ownBlock=some j) (fun i e=>(hr.lt i e).1) (Td.of_grownBy (R:=fun j=>v.ownBlock=some j) hg (fun _ h=>h))
structure Pst (S E:TypeId) (w:World) (n₀ b:Nat) (v:Value) (xs:List (Int × Int)):Prop where
 le:n₀≤b
 box:Boxed w b S v
 row:PRow w n₀ E v xs
namespace Pst
variable {S E:TypeId} {w w':World} {n₀ b:Nat} {v:Value} {xs:List (Int × Int)}
theorem turned (h:Pst S E w n₀ b v xs) {R:Nat→Prop} (ht:Td R w w') (hn:∀ k,Foot b v k→¬ R k):Pst S E w' n₀ b v xs:=
 ⟨h.le,ht.boxed h.box (hn b (.inl rfl)),h.row.turned ht (fun g hg=>hn g (.inr hg))⟩
theorem kept (h:Pst S E w n₀ b v xs) (ht:Kept w w'):Pst S E w' n₀ b v xs:=h.turned ht (fun _ _ e=>e)
theorem lt (h:Pst S E w n₀ b v xs):∀ k,Foot b v k→n₀≤k∧k < w.heap.size:=by
 rintro k (rfl | hk)
 ·exact ⟨h.le,h.box.lt⟩
 ·exact h.row.lt k hk
end Pst
def Grew (S E:TypeId) (n₀ b:Nat) (v:Value) (ys:List (Int × Int)) (w w':World):Prop:=
 ∃ v',Pst S E w' n₀ b v' ys∧Td (Foot b v) w w'∧∀ k,Foot b v' k→Foot b v k∨w.heap.size≤k
theorem grew_of {S E:TypeId} {w w1:World} {n₀ b:Nat} {v v':Value} {xs ys:List (Int × Int)} {tmp:Obj} (hSE:S≠E) (hn:n₀≤w.heap.size) (h:Pst S E w n₀ b v xs)
  (hown:PRow w1 n₀ E v' ys) (hgrow:(w.alloc tmp).grownBy w1 v.ownBlock) (hnew:v'.ownBlock=v.ownBlock∨v'.ownBlock=some (w.alloc tmp).heap.size) :
  Boxed w1 b S v∧Grew S E n₀ b v ys w (w1.setCell ⟨b,0,none⟩ v'):=by
 obtain ⟨hv1,hv2,hr2,hk2,hb2⟩:=h.box.appended hSE h.row hn h.le hown hgrow
 refine ⟨hv1,v',⟨h.le,hv2,hr2⟩,?_,?_⟩
 ·have h1:Td (Foot b v) w (w.alloc tmp):=Td.alloc _ _ _
  have h2:Td (Foot b v) (w.alloc tmp) w1:=Td.of_grownBy hgrow (fun k hk=>.inr hk)
  have h3:Td (Foot b v) w1 (w1.setCell ⟨b,0,none⟩ v'):=Td.setCell _ _ _ (.inl rfl)
  exact (h1.trans h2 (fun _ h=>h) (fun _ _ h=>h)).trans h3 (fun _ h=>h) (fun _ _ h=>h)
 ·rintro k (rfl | hk)
  ·exact .inl (.inl rfl)
  ·rcases hnew with e | e
   ·exact .inl (.inr (by rw [← e];exact hk))
   ·right
    rw [e] at hk
    simp at hk
    omega
def Coll (S E:TypeId) (n₀ b:Nat) (f:List (Int × Int)→List (Int × Int)):Inv (Int × Int):=fun O pre A=>∃ v,(∀ j,O j↔Foot b v j)∧Pst S E A n₀ b v (f pre)
theorem Coll.good (S E:TypeId) (n₀ b:Nat) (f:List (Int × Int)→List (Int × Int)):Good (Coll S E n₀ b f):=by
 constructor
 ·rintro O pre A B ⟨v,hO,hp⟩ ht
  exact ⟨v,hO,hp.turned ht (fun k hk hn=>hn ((hO k).2 hk))⟩
 ·rintro O pre A ⟨v,hO,hp⟩ k hk
  exact (hp.lt k ((hO k).1 hk)).2
theorem Coll.next {S E:TypeId} {n₀ b:Nat} {f:List (Int × Int)→List (Int × Int)} {O:Nat→Prop} {pre ys:List (Int × Int)} {v:Value} {A A':World} (hO:∀ j,O j↔Foot b v j) (h:Grew S E n₀ b v ys A A') (e:f pre=ys) :
  ∃ O',Sub O' O A.heap.size∧Td O A A'∧Coll S E n₀ b f O' pre A':=by
 obtain ⟨v',hp,ht,hs⟩:=h
 refine ⟨Foot b v',fun k hk=>(hs k hk).imp (fun h=>(hO k).2 h) id,ht.mono (fun k _ hk=>(hO k).2 hk),v',fun _=>Iff.rfl,by rw [e];exact hp⟩
theorem good_false {α:Type}:Good (fun (_:Nat→Prop) (_:List α) (_:World)=>False):=⟨fun _ _ _ _ h _=>h,fun _ _ _ h=>h.elim⟩
end
section
open Go.Shelf
attribute [local go_sem] Oper.semAt_some
def PSliced (E:TypeId) (xs:List (Int × Int)) (w:World) (e:Ending) (w':World):Prop:=∃ v,e=.returned v∧PRow w' w.heap.size E v xs∧Kept w w'
set_option maxHeartbeats 1000000 in
theorem appendSeq_p (w W:World) (hk:Kept w W) (b:Nat) (s:Mst) (hM:PM w b s) (ho:s.ok) (f:Nat) (hw:Wf s f (s.logicZ 6)) (hl:(spotsL s f).length≤70000) (B1:Nat) (h1:Boxed W B1 36 (.pointer (some ⟨b,0,none⟩))) :
  Calls Tryz.prog 132 #[.slice none 0 0,.func (.func 127) #[] #[.pointer (some ⟨B1,0,none⟩)]] W (PSliced 94 (spotsL s f) W):=by
 obtain ⟨n,hn⟩:∃ n,W.heap.size=n:=⟨_,rfl⟩
 have t2:Kept W (W.alloc (.cells #[.slice none 0 0] 45)):=(Kept.refl W).alloc _
 have hP:Pst 45 94 (W.alloc (.cells #[.slice none 0 0] 45)) n n (.slice none 0 0) []:=⟨Nat.le_refl _,by rw [← hn];exact Boxed.new W 45 _,PRow.nil _ _ _⟩
 have HP:=gh hP
 have BB:=gh (t2.boxed h1 id)
 have K2:=gh (hk.trans t2)
 have T2:=gh t2
 have HM:=gh hM
 have HO:=gh ho
 have HW:=gh hw
 have HL:=gh hl
 have zw:=hk.size
 have HB1:=gh h1.lt
 have HN:=gh hn
 clear hP h1 hk t2 hM ho hw hl
 refine calls_marks Tryz.func132 rfl ?_
 simp only [Tryz.ntmps132,List.size_toArray,List.length_cons,List.length_nil,Nat.reduceAdd,Nat.reduceSub,Array.replicate_succ,Array.replicate_zero,List.push_toArray,List.append_toArray,List.nil_append,List.cons_append]
 go_wp2_with (fail)
 obtain ⟨W2,hW2⟩:∃ W2,W.alloc (.cells #[.slice none 0 0] 45)=W2:=⟨_,rfl⟩
 have z2:W2.heap.size=n+1:=by rw [← hW2];simp [hn]
 rw [hW2] at HP BB K2 T2 ⊢
 clear hW2 hn
 have HZ2:=gh z2
 clear z2
 refine wp_range3 (gf:=127) rfl (enters_of Tryz.func127 (by kernel_rfl) rfl) (encs:=encS) (xs:=spotsL s f) (R:=SpotR w B1)
  (fun X hX=>spots_i w X (K2.out.trans hX) b s HM.out HO.out f HW.out B1 (hX.boxed BB.out id)) (fun _=>rfl)
  (Foot n (.slice none 0 0)) (Coll 45 94 n n id) (fun _ _ _ _=>False) ?hR (Coll.good _ _ _ _ _) (fun _=>good_false) ⟨_,fun _=>Iff.rfl,HP.out⟩ (fun p=>#[.int .i64 p.1,.int .i64 p.2]) 94 ?ab ?done (fun _ _ _ _ _ _ _ _ _ _ _ h=>h.elim)
 case hR=>
  rintro k (hk | rfl)
  ·have h2:=HN.out
   have h3:=HZ2.out
   refine ⟨by omega,?_⟩
   rintro (h | h)
   ·omega
   ·simp [Value.ownBlock] at h
  ·have h2:=HN.out
   have h3:=HB1.out
   have h4:=HZ2.out
   refine ⟨by omega,?_⟩
   rintro (h | h)
   ·omega
   ·simp [Value.ownBlock] at h
 case ab=>
  apply Exists.intro
  refine ⟨?_,?_⟩
  ·intro l' p X m K hm hK
   gi_wp2
   exact hK
  ·rintro l' O pre ⟨sl,y⟩ rest B m hx' tB sB ⟨v,hO,hp⟩ hm nOm hWm
   have hpl:pre.length≤70000:=by
    have:=congrArg List.length hx'
    simp at this
    have:=HL.out
    omega
   have zB:=tB.size
   have z2:=HZ2.out
   have cX:=hp.box.cell
   have cm0:B.cell? ⟨m,0,none⟩=some (.int .i64 sl):=by simp [World.cell?,hm]
   have cm1:B.cell? ⟨m,1,none⟩=some (.int .i64 y):=by simp [World.cell?,hm]
   have HOO:=gh hO
   have HPP:=gh hp
   have hrow:=gh (PRow.kept hp.row (Kept.alloc (Kept.refl B) (.cells #[.int .i64 sl,.int .i64 y] 94)))
   have hnw:(B.alloc (.cells #[.int .i64 sl,.int .i64 y] 94)).heap[B.heap.size]? = some (.cells #[.int .i64 sl,.int .i64 y] 94):=heap_new _ _
   have HNW:=gh hnw
   clear hx' tB sB hO hp hm nOm hWm hnw
   gi_wp2_with (gi_at_builtin;refine Stop.out ?_)
   refine ⟨?_⟩
   refine wpListIn_append_pair ptS rfl _ _ rfl n v (id pre) (pre++[(sl,y)]) rfl hrow.out B.heap.size sl y rfl HNW.out (by show pre.length≤1000000;omega) (by simp;omega) rfl ?_
   intro v' A1 hown hgrow hat
   obtain ⟨a',cap',hv',_⟩:=hown.reads
   obtain ⟨M,hMM⟩:∃ M,(pre++[(sl,y)]).length=M:=⟨_,rfl⟩
   rw [hMM] at hv'
   clear hMM
   subst hv'
   obtain ⟨hb1,hg⟩:=grew_of (tmp:=.cells #[.int .i64 sl,.int .i64 y] 94) (by decide) (by omega) HPP.out hown hgrow (by simpa using hat)
   have hc1:=hb1.cell
   have hf1:=hb1.frozen
   have HG:=gh hg
   clear hg hown hgrow hat cX
   gi_wp2
   exact Coll.next HOO.out HG.out rfl
 case done=>
  rintro D O X hD nD tX sX ⟨v,hO,hp⟩ hK
  have cX:=hp.box.cell
  have HK:=gh hK
  have HPP:=gh hp
  have nD2:¬ Foot n v D:=fun h=>nD ((hO D).2 h)
  have ND:=gh nD2
  have zX:=tX.size
  have z2:=HZ2.out
  have hn:=HN.out
  have KX:Hid (Kept W X):=gh (T2.out.own (O:=Foot n (.slice none 0 0)) (fun i hi=>by
   rcases hi with h | h
   ·omega
   ·simp [Value.ownBlock] at h) tX)
  clear hK hp hO nD tX sX nD2 hn
  go_wp2
  refine leave_marks [D] X ?_ ?_ ?_
  ·intro k hk
   simp at hk
   rw [hk]
   exact HK.out
  ·simp
  ·intro X' hX'
   refine ⟨_,results_tmp rfl _ _ _,v,rfl,?_,?_⟩
   ·rw [HN.out]
    exact HPP.out.row.turned hX' (fun g hg h=>ND.out (.inr (by simp at h;rw [← h];exact hg)))
   ·have:=HN.out
    exact KX.out.own (fun i hi=>by simp at hi;omega) hX'
theorem spots_p (w:World) (b:Nat) (s:Mst) (h:PM w b s) (ho:s.ok) (xs:List (Int × Int)) (e1:(if soundB s=true then spotsL s (fuel s) else [])=xs) :
  Calls Tryz.prog 38 #[.pointer (some ⟨b,0,none⟩)] w (PSliced 94 xs w):=by
 have H:=gh h
 have HO:=gh ho
 obtain ⟨q,hq⟩:∃ q,soundB s=q:=⟨_,rfl⟩
 have HQ:=gh hq
 rw [hq] at e1
 cases q with
 | false=>
  have HX:Hid (xs=[]):=gh (by rw [← e1];rfl)
  clear h ho hq e1
  go_enter Tryz.func38,Tryz.ntmps38
  go_wp2_with (fail)
  refine (sound_p _ b s H.out HO.out false HQ.out).mono ?_
  rintro e W2 ⟨rfl,k2⟩
  have K2:=gh k2
  clear k2
  go_wp2
  go_ret
  exact ⟨_,rfl,by rw [HX.out];exact PRow.nil _ _ _,K2.out⟩
 | true=>
  have HX:Hid (xs=spotsL s (fuel s)):=gh (by rw [← e1];rfl)
  clear h ho hq e1
  go_enter Tryz.func38,Tryz.ntmps38
  go_wp2_with (fail)
  refine (sound_p _ b s H.out HO.out true HQ.out).mono ?_
  rintro e W2 ⟨rfl,k2⟩
  have K2:=gh k2
  clear k2
  go_wp2_with (fail)
  refine (spots_k W2 b).mono ?_
  rintro e W3 ⟨B1,rfl,k3,b1,l1⟩
  have K3:=gh (K2.out.trans k3)
  have BB:=gh b1
  clear k3 b1 l1
  go_wp2_with (fail)
  refine (show Calls Tryz.prog 91 #[.func (.func 127) #[] #[.pointer (some ⟨B1,0,none⟩)]] W3 (PSliced 94 (spotsL s (fuel s)) W3) from ?_).mono ?_
  ·have HS:=gh (appendSeq_p w W3 K3.out b s H.out HO.out (fuel s) (wf_root HO.out HQ.out) (spotsL_len HO.out HQ.out) B1 BB.out)
   go_enter Tryz.func91,Tryz.ntmps91
   go_wp2_with (fail)
   refine HS.out.mono ?_
   rintro e W4 ⟨v,rfl,hr,k4⟩
   have HR:=gh hr
   have K4:=gh k4
   clear hr k4 HS
   go_wp2
   go_ret
   exact ⟨_,rfl,HR.out,K4.out⟩
  ·rintro e W4 ⟨v,rfl,hr,k4⟩
   have HR:=gh (hr.low K3.out.size)
   have K4:=gh (K3.out.trans k4)
   clear hr k4
   go_wp2
   go_ret
   exact ⟨_,rfl,by rw [HX.out];exact HR.out,K4.out⟩
end
section
theorem flat_take {α β:Type} (F:α→List β) {L:List α} {k:Nat} {p:α} (h:L[k]? = some p):(L.take (k+1)).flatMap F=(L.take k).flatMap F++F p:=by
 rw [← (at_split h).2,List.flatMap_append];simp
theorem flat_take_le {α β:Type} (F:α→List β) (L:List α) (k:Nat):((L.take k).flatMap F).length≤(L.flatMap F).length:=by
 conv=>rhs;rw [← List.take_append_drop k L,List.flatMap_append,List.length_append]
 omega
def SpotsD (f:Nat):Prop:=∀ (w:World) (b:Nat) (s:Mst) (_:DM w b s) (_:s.ok) (x:Int) (_:Wf s f x) (_:(spotsF s f x).length≤70000),Calls Tryz.prog 92 #[.pointer (some ⟨b,0,none⟩),.int .i64 x] w (PSliced 94 (spotsF s f x) w)
set_option maxHeartbeats 2000000 in
set_option maxRecDepth 20000 in
theorem spots_inner (f:Nat) (ih:SpotsD f) (w:World) (b:Nat) (s:Mst) (h:DM w b s) (ho:s.ok) (x:Int) (hw:Wf s (f+1) x) (k3:kd x=3) (hl:(spotsF s (f+1) x).length≤70000) :
  Calls Tryz.prog 92 #[.pointer (some ⟨b,0,none⟩),.int .i64 x] w (PSliced 94 (spotsF s (f+1) x) w):=by
 have e0:tgt s x=x:=by rw [tgt,if_neg (by rw [k3];decide)]
 obtain ⟨hwh,hwk⟩:=hw
 obtain ⟨p,hp⟩:∃ p,ad x=p:=⟨_,rfl⟩
 have pr:=ad_range x
 rw [hp] at pr
 obtain ⟨a,rfl⟩:∃ a:Nat,p=(a:Int):=⟨p.toNat,by omega⟩
 have a2:(a:Int)≤65536:=pr.2
 have hd:=hwh.deg (by rw [e0];exact k3)
 rw [e0,hp] at hd
 obtain ⟨d,hd'⟩:∃ d:Nat,s.look (a:Int)=(d:Int):=⟨(s.look a).toNat,by omega⟩
 rw [hd'] at hd
 obtain ⟨d2,d3⟩:=hd
 have eA:atN s x=a:=by unfold atN;rw [e0,hp];omega
 have eD:degN s x=d:=by unfold degN;rw [e0,hp,hd'];omega
 have HLA:Hid (∀ k,k < d→(slotsL s x)[k]? = some ((k:Int),childS a d k)):=gh (fun k hk=>by
  have:=slotsL_at (s:=s) (x:=x) (by rw [e0];exact k3) (k:=k) (by rw [eD];exact hk)
  rwa [eA,eD] at this)
 have HLL:Hid ((slotsL s x).length=d):=gh (by rw [slotsL_len (by rw [e0];exact k3),eD])
 rw [spotsF_succ] at hl ⊢
 have H:=gh h
 have HO:=gh ho
 have HX:=gh hwh.i64
 have HP:=gh hp
 have HD:=gh hd'
 have K3:=gh k3
 have IH:=gh ih
 have HWK:=gh hwk
 have HL:=gh hl
 clear h ho hwh hp hd' k3 ih hwk hl pr e0 eA eD
 go_enter Tryz.func92,Tryz.ntmps92
 go_wp2_with (fail)
 refine (ak_d _ x a HX.out HP.out).mono ?_
 rintro e w' ⟨rfl,rfl⟩
 go_wp2_with (fail)
 refine (kk_d _ x 3 HX.out K3.out).mono ?_
 rintro e w' ⟨rfl,rfl⟩
 go_wp2_with (fail)
 refine (lk_d _ b s a d H.out HD.out).mono ?_
 rintro e w' ⟨rfl,rfl⟩
 go_wp2
 go_loopw [5,8] (fun v i wr=>∃ (k:Nat) (ys:List (Int × Int)),k≤d∧i=.int .i64 (k:Int)∧Hid (ys=((slotsL s x).take k).flatMap (oneF s f))∧Hid (PRow wr w.heap.size 94 v ys)∧Hid (Kept w wr)) (fun _ i _=>d - (intOf i).toNat)
 case atStart=>exact ⟨0,[],by omega,by simp,gh (by simp),gh (PRow.nil _ _ _),gh (Kept.refl _)⟩
 case round=>
  obtain ⟨k,ys,hk,rfl,HY,HR,HK⟩:=hrel
  by_cases hkn:k < d
  ·have j1:(k:Int) < (d:Int):=by omega
   have hcz:=gh (childZ_in (n:=a) (d:=(d:Int)) (i:=k) (by omega) (by omega) (by omega) (by omega) (by omega) (by omega))
   obtain ⟨sl,hsl⟩:∃ sl,(a:Int)+4+(d:Int)+k=sl:=⟨_,rfl⟩
   rw [hsl] at hcz
   obtain ⟨y,hy⟩:∃ y,s.logicZ sl=y:=⟨_,rfl⟩
   have HYY:=gh hy
   have hat:=HLA.out k hkn
   have hat':(slotsL s x)[k]? = some ((k:Int),sl):=by rw [hat];unfold childS;rw [hsl]
   have hone:oneF s f ((k:Int),sl)=(sl,y) :: spotsF s f y:=by rw [oneF,hy]
   have hwf:Wf s f y:=by
    have:=HWK.out ((k:Int),sl) (List.mem_of_getElem? hat')
    rwa [hy] at this
   have HWF:=gh hwf
   have hnx:((slotsL s x).take (k+1)).flatMap (oneF s f)=ys++((sl,y) :: spotsF s f y):=by rw [flat_take _ hat',← HY.out,hone]
   have hlen:(ys++((sl,y) :: spotsF s f y)).length≤70000:=by rw [← hnx];exact Nat.le_trans (flat_take_le _ _ _) HL.out
   rw [List.length_append,List.length_cons] at hlen
   obtain ⟨zs,hzs⟩:∃ zs,ys++[(sl,y)]=zs:=⟨_,rfl⟩
   have hzl:zs.length=ys.length+1:=by rw [← hzs];simp
   obtain ⟨us,hus⟩:∃ us,zs++spotsF s f y=us:=⟨_,rfl⟩
   have HUS:=gh hus.symm
   have HNX:Hid (us=((slotsL s x).take (k+1)).flatMap (oneF s f)):=gh (by rw [hnx,← hus,← hzs];simp)
   have HZS:=gh hzs.symm
   have L1:Hid (ys.length≤1000000):=gh (by omega)
   have L2:Hid ((spotsF s f y).length≤70000):=gh (by omega)
   have L3:Hid (zs.length+(spotsF s f y).length≤1000000):=gh (by omega)
   have MW:=gh (H.out.kept HK.out)
   clear hy hat hat' hone hwf hnx hlen hzs hzl hus hsl
   go_wp2_with (fail)
   refine (child_r _ a d k sl hcz.out).mono ?_
   rintro e w' ⟨rfl,rfl⟩
   go_wp2_with (fail)
   refine (logic_d _ b s sl y MW.out HO.out HYY.out).mono ?_
   rintro e w' ⟨rfl,rfl⟩
   go_wp2_with (at_builtin;refine Stop.out ?_)
   refine ⟨?_⟩
   have HRA:=gh (HR.out.kept (Kept.alloc (Kept.refl wr) (.cells #[.int .i64 sl,.int .i64 y] 94)))
   have HNW:Hid ((wr.alloc (.cells #[.int .i64 sl,.int .i64 y] 94)).heap[wr.heap.size]? = some (.cells #[.int .i64 sl,.int .i64 y] 94)):=gh (heap_new _ _)
   have HKA:=gh (HK.out.trans (Kept.alloc (Kept.refl wr) (.cells #[.int .i64 sl,.int .i64 y] 94)))
   refine wpList_append_pair ptS rfl _ _ rfl w.heap.size _ ys zs rfl HRA.out wr.heap.size sl y rfl HNW.out L1.out HKA.out.size HZS.out ?_
   intro v1 W1 hown hg _
   have HK1:=gh (pkept_append HKA.out HRA.out hg)
   have HR1:=gh hown
   have MW1:=gh (H.out.kept HK1.out)
   clear hown hg HRA HNW HKA HR HK MW
   go_wp2_with (fail)
   refine (logic_d _ b s sl y MW1.out HO.out HYY.out).mono ?_
   rintro e w' ⟨rfl,rfl⟩
   go_wp2_with (fail)
   refine (IH.out W1 b s MW1.out HO.out y HWF.out L2.out).mono ?_
   rintro e W2 ⟨v2,rfl,hr2,k2⟩
   obtain ⟨a2',c2,hv2,hrd,_,_,h0,_⟩:=hr2.reads
   obtain ⟨M,hM⟩:∃ M,(spotsF s f y).length=M:=⟨_,rfl⟩
   have HMM:=gh hM
   rw [hM] at hv2
   subst hv2
   have HR2:=gh (HR1.out.kept k2)
   have HK2:=gh (HK1.out.trans k2)
   have HRD:=gh hrd
   have H0:=gh h0
   clear hr2 k2 hrd h0 hM HR1 HK1 MW1
   go_wp2_with (at_builtin;refine Stop.out ?_)
   refine ⟨?_⟩
   refine wpList_append_pairs ptS rfl _ _ rfl w.heap.size _ zs (spotsF s f y) us rfl HR2.out a2' M c2 HMM.out rfl HRD.out H0.out L3.out HK2.out.size HUS.out ?_
   intro v3 W3 hown hg _
   have HK3:=gh (pkept_append HK2.out HR2.out hg)
   have HR3:=gh hown
   clear hown hg HR2 HK2 HRD H0
   go_wp2
   exact ⟨⟨k+1,us,by omega,by simp,HNX,HR3,HK3⟩,by simp [intOf];omega⟩
  ·have hkn':k=d:=by omega
   subst hkn'
   have j1:¬ ((k:Int) < (k:Int)):=by omega
   have HE:Hid (ys=(slotsL s x).flatMap (oneF s f)):=gh (by rw [HY.out,List.take_of_length_le (by rw [HLL.out];omega)])
   go_wp2
   go_ret
   exact ⟨_,rfl,by rw [← HE.out];exact HR.out,HK.out⟩
set_option maxHeartbeats 1000000 in
theorem spots_d:∀ f,SpotsD f
 | 0=>fun _ _ _ _ _ _ h _=>h.elim
 | f+1=>by
  have ih:=spots_d f
  intro w b s h ho x hw hl
  obtain ⟨k,hk⟩:∃ k,kd x=k:=⟨_,rfl⟩
  by_cases k3:k=3
  ·exact spots_inner f ih w b s h ho x hw (by rw [hk,k3]) hl
  obtain ⟨p,hp⟩:∃ p,ad x=p:=⟨_,rfl⟩
  have pr:=ad_range x
  rw [hp] at pr
  have H:=gh h
  have HX:=gh hw.1.i64
  have HP:=gh hp
  have HK:=gh hk
  by_cases k4:k=4
  ·have h3:=hw.1.tg (by rw [hk];exact k4)
   have e0:tgt s x=s.look p:=by rw [tgt,if_pos (by rw [hk];exact k4),hp]
   obtain ⟨z,hz⟩:∃ z,s.look p=z:=⟨_,rfl⟩
   have HZ:=gh hz
   have hw2:=hw.down ho h3
   have HS:Hid (Calls Tryz.prog 92 #[.pointer (some ⟨b,0,none⟩),.int .i64 z] w (PSliced 94 (spotsF s (f+1) x) w)):=gh (by
    rw [← spotsF_tgt h3,e0,hz]
    rw [e0,hz] at hw2 h3
    refine spots_inner f ih w b s h ho z hw2 h3 ?_
    rw [← hz,← e0,spotsF_tgt (by rw [e0,hz];exact h3)]
    exact hl)
   subst k4
   clear h ho hw hl hk hp hz e0 h3 hw2 ih k3
   go_enter Tryz.func92,Tryz.ntmps92
   go_wp2_with (fail)
   refine (ak_d _ x p HX.out HP.out).mono ?_
   rintro e w' ⟨rfl,rfl⟩
   go_wp2_with (fail)
   refine (kk_d _ x 4 HX.out HK.out).mono ?_
   rintro e w' ⟨rfl,rfl⟩
   go_wp2_with (fail)
   refine (lk_d _ b s p z H.out HZ.out).mono ?_
   rintro e w' ⟨rfl,rfl⟩
   go_wp2_with (fail)
   refine HS.out.mono ?_
   rintro e W1 ⟨v,rfl,hr,k1⟩
   have HR:=gh hr
   have K1:=gh k1
   clear hr k1 HS
   go_wp2
   go_ret
   exact ⟨_,rfl,HR.out,K1.out⟩
  ·have HE:=gh (spotsF_none (s:=s) (f:=f+1) (x:=x) (by rw [tgt,if_neg (by rw [hk];exact k4),hk];exact k3))
   have g1:(k == 4)=false:=by simp [k4]
   have g2:(k == 3)=false:=by simp [k3]
   clear h ho hw hl hk hp ih k3 k4
   go_enter Tryz.func92,Tryz.ntmps92
   go_wp2_with (fail)
   refine (ak_d _ x p HX.out HP.out).mono ?_
   rintro e w' ⟨rfl,rfl⟩
   go_wp2_with (fail)
   refine (kk_d _ x k HX.out HK.out).mono ?_
   rintro e w' ⟨rfl,rfl⟩
   go_wp2
   go_ret
   exact ⟨_,rfl,by rw [HE.out];exact PRow.nil _ _ _,Kept.refl _⟩
theorem spotsD_p (w:World) (b:Nat) (s:Mst) (h:DM w b s) (ho:s.ok) (xs:List (Int × Int)) (e1:(if soundB s=true then spotsL s (fuel s) else [])=xs) :
  Calls Tryz.prog 39 #[.pointer (some ⟨b,0,none⟩)] w (PSliced 94 xs w):=by
 have H:=gh h
 have HO:=gh ho
 obtain ⟨q,hq⟩:∃ q,soundB s=q:=⟨_,rfl⟩
 have HQ:=gh hq
 rw [hq] at e1
 cases q with
 | false=>
  have HX:Hid (xs=[]):=gh (by rw [← e1];rfl)
  clear h ho hq e1
  go_enter Tryz.func39,Tryz.ntmps39
  go_wp2_with (fail)
  refine (sound_d _ b s H.out HO.out false HQ.out).mono ?_
  rintro e W2 ⟨rfl,k2⟩
  have K2:=gh k2
  clear k2
  go_wp2
  go_ret
  exact ⟨_,rfl,by rw [HX.out];exact PRow.nil _ _ _,K2.out⟩
 | true=>
  obtain ⟨y,hy⟩:∃ y,s.logicZ 6=y:=⟨_,rfl⟩
  have HYY:=gh hy
  have HX:Hid (xs=[(6,y)]++spotsF s (fuel s) y):=gh (by rw [← e1,if_pos rfl,spotsL,hy];rfl)
  have hwf:=wf_root ho hq
  rw [hy] at hwf
  have HWF:=gh hwf
  have hlen:=spotsL_len ho hq
  rw [spotsL,hy,List.length_cons] at hlen
  have L2:Hid ((spotsF s (fuel s) y).length≤70000):=gh (by omega)
  have L3:Hid ([((6:Int),y)].length+(spotsF s (fuel s) y).length≤1000000):=gh (by rw [List.length_singleton];omega)
  clear h ho hq e1 hy hwf hlen
  go_enter Tryz.func39,Tryz.ntmps39
  go_wp2_with (fail)
  refine (sound_d _ b s H.out HO.out true HQ.out).mono ?_
  rintro e W2 ⟨rfl,k2⟩
  have K2:=gh k2
  have M2:=gh (H.out.kept k2)
  clear k2
  go_wp2_with (fail)
  refine (logic_d _ b s 6 y M2.out HO.out HYY.out).mono ?_
  rintro e w' ⟨rfl,rfl⟩
  go_wp2_with (fail)
  obtain ⟨W3,hW3⟩:∃ W3,W2.alloc (.cells #[.int .i64 6,.int .i64 y] 94)=W3:=⟨_,rfl⟩
  obtain ⟨m,hm⟩:∃ m,W2.heap.size=m:=⟨_,rfl⟩
  have k3:Kept W2 W3:=by rw [← hW3];exact (Kept.refl _).alloc _
  have r3:PRow W3 w.heap.size 94 (.slice (some ⟨m,0,none⟩) 1 1) [(6,y)]:=by
   rw [← hW3,← hm]
   exact ⟨rfl,.inr ⟨W2.heap.size,1,_,rfl,K2.out.size,heap_new _ _,Nat.le_refl _,by unfold maxLen;omega,rfl,rfl⟩⟩
  rw [hW3,hm]
  have R3:=gh r3
  have K3:=gh (K2.out.trans k3)
  have M3:=gh (H.out.kept K3.out)
  clear hW3 hm k3 r3 K2 M2
  refine (spots_d (fuel s) W3 b s M3.out HO.out y HWF.out L2.out).mono ?_
  rintro e W4 ⟨v2,rfl,hr2,k4⟩
  obtain ⟨a2',c2,hv2,hrd,_,_,h0,_⟩:=hr2.reads
  obtain ⟨M,hM⟩:∃ M,(spotsF s (fuel s) y).length=M:=⟨_,rfl⟩
  have HMM:=gh hM
  rw [hM] at hv2
  subst hv2
  have R4:=gh (R3.out.kept k4)
  have K4:=gh (K3.out.trans k4)
  have HRD:=gh hrd
  have H0:=gh h0
  clear hr2 k4 hrd h0 hM R3 K3 M3
  go_wp2_with (at_builtin;refine Stop.out ?_)
  refine ⟨?_⟩
  refine wpList_append_pairs ptS rfl _ _ rfl w.heap.size _ [(6,y)] (spotsF s (fuel s) y) xs rfl R4.out a2' M c2 HMM.out rfl HRD.out H0.out L3.out K4.out.size HX.out ?_
  intro v3 W5 hown hg _
  have K5:=gh (pkept_append K4.out R4.out hg)
  have R5:=gh hown
  clear hown hg R4 K4 HRD H0
  go_wp2
  go_ret
  exact ⟨_,rfl,R5.out,K5.out⟩
end
section
end
section
set_option maxHeartbeats 2000000 in
set_option maxRecDepth 20000 in
theorem inTree_d (w:World) (b:Nat) (s:Mst) (h:DM w b s) (ho:s.ok) (x:Int) (r:Bool) (e1:inTreeB s x=r) :
  Calls Tryz.prog 96 #[.pointer (some ⟨b,0,none⟩),.int .i64 x] w fun e w'=>e=.returned (.bool r)∧Kept w w':=by
 have H:=gh h
 have HO:=gh ho
 obtain ⟨L,hL⟩:∃ L,(if soundB s=true then spotsL s (fuel s) else [])=L:=⟨_,rfl⟩
 have HLL:=gh hL
 obtain ⟨M,hM⟩:∃ M,L.length=M:=⟨_,rfl⟩
 have hm:M≤70000:=by
  rw [← hM,← hL]
  split
  ·rename_i hs;exact spotsL_len ho hs
  ·simp
 have e2:r=L.any (meetB s x):=by
  rw [← e1,inTreeB,← hL]
  split
  ·rename_i hs;rw [hs];simp
  ·rename_i hs;simp [hs]
 have HE:=gh e2
 have OI:Hid (∀ p ∈ L,I64 p.2):=gh (by
  rw [← hL]
  split
  ·exact spotsL_i64 ho _
  ·intro p hp;cases hp)
 have HM:=gh hM
 clear h ho e1 e2 hL hM
 go_enter Tryz.func96,Tryz.ntmps96
 go_wp2_with (fail)
 refine (spotsD_p w b s H.out HO.out L HLL.out).mono ?_
 rintro e W1 ⟨v,rfl,hr,k1⟩
 obtain ⟨la,lc,hv,hrd,hlc,hlm,_,_⟩:=hr.reads
 rw [HM.out] at hv hlc
 subst hv
 have HRD:=gh hrd
 have K1:=gh k1
 clear hr hrd k1
 go_wp2
 go_loopw [6] (fun i wr=>∃ k:Nat,k≤M∧i=.int .i64 (k:Int)∧Hid (∀ p ∈ L.take k,meetB s x p=false)∧wr=W1) (fun i _=>M - (intOf i).toNat)
 case atStart=>exact ⟨0,by omega,by simp,gh (by intro p hp;simp at hp),rfl⟩
 case round=>
  obtain ⟨k,hk,rfl,HA,rfl⟩:=hrel
  by_cases hkm:k < M
  ·obtain ⟨⟨sl,y⟩,hp⟩:∃ p,L[k]? = some p:=⟨_,List.getElem?_eq_getElem (by rw [HM.out];exact hkm)⟩
   obtain ⟨bl,off,rfl,_,q0,q1⟩:=HRD.out.at hp
   have c1:wr.cell? ⟨bl,off+k * 2+1,none⟩=some (.int .i64 y):=q1
   have hmem:=List.mem_of_getElem? hp
   have YI:Hid (I64 y):=gh (OI.out _ hmem)
   have TRU:Hid (meetB s x (sl,y)=true→r=true):=gh (fun h1=>by rw [HE.out];exact List.any_eq_true.2 ⟨_,hmem,h1⟩)
   have NXT:Hid (meetB s x (sl,y)=false→∀ p ∈ L.take (k+1),meetB s x p=false):=gh (fun h1 p hp'=>by
    obtain ⟨hk1,he⟩:=List.getElem?_eq_some_iff.1 hp
    rw [List.take_succ_eq_append_getElem hk1] at hp'
    rcases List.mem_append.1 hp' with h2 | h2
    ·exact HA.out p h2
    ·rw [List.mem_singleton] at h2
     rw [h2,he];exact h1)
   have DMH:=gh (H.out.kept K1.out)
   have j1:(k:Int) < (M:Int):=by omega
   have j2:k < lc:=by omega
   have j3:(k:Int)≤70000:=by omega
   obtain ⟨a,ha⟩:∃ a,ad y=a:=⟨_,rfl⟩
   obtain ⟨kk,hkk⟩:∃ q,kd y=q:=⟨_,rfl⟩
   obtain ⟨z,hz⟩:∃ z,s.look a=z:=⟨_,rfl⟩
   have HAA:=gh ha
   have HKK:=gh hkk
   have HZ:=gh hz
   clear hp q0 q1 hmem
   by_cases ex:y=x
   ·have FIN:Hid (r=true):=gh (TRU.out (by simp [meetB,ex]))
    have g0:(y == x)=true:=by simp [ex]
    clear TRU NXT ha hkk hz ex
    go_wp2
    go_ret
    exact ⟨congrArg (fun z=>Ending.returned (.bool z)) FIN.out.symm,K1.out⟩
   ·have g0:(y == x)=false:=by simp [ex]
    by_cases e4:kk=4
    ·have et:tgt s y=z:=by rw [tgt,if_pos (by rw [hkk];exact e4),ha,hz]
     by_cases ez:z=x
     ·have FIN:Hid (r=true):=gh (TRU.out (by simp [meetB,et,ez]))
      have g1:(z == x)=true:=by simp [ez]
      subst e4
      clear TRU NXT ha hkk hz ex et ez
      go_wp2_with (fail)
      refine (kk_d _ y 4 YI.out HKK.out).mono ?_
      rintro e w' ⟨rfl,rfl⟩
      go_wp2_with (fail)
      refine (ak_d _ y a YI.out HAA.out).mono ?_
      rintro e w' ⟨rfl,rfl⟩
      go_wp2_with (fail)
      refine (lk_d _ b s a z DMH.out HZ.out).mono ?_
      rintro e w' ⟨rfl,rfl⟩
      go_wp2
      go_ret
      exact ⟨congrArg (fun z=>Ending.returned (.bool z)) FIN.out.symm,K1.out⟩
     ·have g1:(z == x)=false:=by simp [ez]
      have NX:Hid (∀ p ∈ L.take (k+1),meetB s x p=false):=gh (NXT.out (by simp [meetB,et];exact ⟨fun e=>ex e.symm,fun e=>ez e.symm⟩))
      subst e4
      clear TRU NXT ha hkk hz ex et ez
      go_wp2_with (fail)
      refine (kk_d _ y 4 YI.out HKK.out).mono ?_
      rintro e w' ⟨rfl,rfl⟩
      go_wp2_with (fail)
      refine (ak_d _ y a YI.out HAA.out).mono ?_
      rintro e w' ⟨rfl,rfl⟩
      go_wp2_with (fail)
      refine (lk_d _ b s a z DMH.out HZ.out).mono ?_
      rintro e w' ⟨rfl,rfl⟩
      go_wp2
      exact ⟨⟨k+1,by omega,by simp,NX,by first | rfl | trivial⟩,by simp [intOf];omega⟩
    ·have et:tgt s y=y:=by rw [tgt,if_neg (by rw [hkk];exact e4)]
     have g2:(kk == 4)=false:=by simp [e4]
     have NX:Hid (∀ p ∈ L.take (k+1),meetB s x p=false):=gh (NXT.out (by simp [meetB,et];exact fun e=>ex e.symm))
     clear TRU NXT ha hkk hz ex et e4
     go_wp2_with (fail)
     refine (kk_d _ y kk YI.out HKK.out).mono ?_
     rintro e w' ⟨rfl,rfl⟩
     go_wp2
     exact ⟨⟨k+1,by omega,by simp,NX,by first | rfl | trivial⟩,by simp [intOf];omega⟩
  ·have hkm':k=M:=by omega
   have j1:¬ ((k:Int) < (M:Int)):=by omega
   have FIN:Hid (r=false):=gh (by
    rw [HE.out,List.any_eq_false]
    intro p hp
    have:=HA.out p (by rw [List.take_of_length_le (by rw [HM.out];omega)];exact hp)
    simp [this])
   go_wp2
   go_ret
   exact ⟨congrArg (fun z=>Ending.returned (.bool z)) FIN.out.symm,K1.out⟩
end
end Go.Proofs.YtnjkmmmfhponlaaGreat
