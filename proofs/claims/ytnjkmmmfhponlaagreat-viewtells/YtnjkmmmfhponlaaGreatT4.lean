/-
  What the proof of YtnjkmmmfhponlaaGreatU2 goes by, part 4 of 11: contracts and plain facts; each part begins with its own sentence. No conditions beyond each theorem's own.
-/
import Derived.Test.YtnjkmmmfhponlaaGreatT3
import Derived.BigQuiet
import Derived.Deep.QuietTactic
import Derived.Test.YtnjkmmmfhponlaaGreatRows
import Derived.WalkKit
import Derived.WalkLawsBesides
import Derived.ProofKit
import Derived.OpenShut
import Derived.ShutString
import Derived.LoopTactic
import Derived.Shelf.Small.Bits
import Derived.Shelf.Strconv.Itoa0
import Derived.Shelf.Bits.Mul64
namespace Go.Proofs.YtnjkmmmfhponlaaGreat
open Go.RowKit
section
open Go.Shelf
attribute [local go_sem] Oper.semAt_some
def leafL (s:Mst) (x:Int):List (Int × Int):=if kd x=2 then [(s.look (ad x),s.look (ad x+1))] else []
theorem leafL_len (s:Mst) (x:Int):(leafL s x).length≤1:=by unfold leafL;split <;> simp
def pairsF (s:Mst) (f:Nat) (x:Int):List (Int × Int):=leafL s x++(spotsF s f x).flatMap (fun p=>leafL s p.2)
def contentB (s:Mst) (x:Int):List (Int × Int):=if inTreeB s x=true then pairsF s (fuel s) x else []
theorem leaves_len (s:Mst) (L:List (Int × Int)):(L.flatMap (fun p=>leafL s p.2)).length≤L.length:=by
 induction L with
 | nil=>simp
 | cons p L ih=>
  have:=leafL_len s p.2
  rw [List.flatMap_cons,List.length_append,List.length_cons]
  omega
def AppPost (W:World) (n₀:Nat) (v:Value) (ys:List (Int × Int)) (e:Ending) (W':World):Prop:=
 ∃ v',e=.returned v'∧PRow W' n₀ 59 v' ys∧Td (fun k=>v.ownBlock=some k) W W'∧(v'.ownBlock=v.ownBlock∨∃ k,v'.ownBlock=some k∧W.heap.size≤k)
theorem appendLeaf_p (W:World) (b:Nat) (s:Mst) (x:Int) (n₀:Nat) (v:Value) (xs ys:List (Int × Int)) (h:PM W b s) (hx:I64 x) (hr:PRow W n₀ 59 v xs) (hl:xs.length≤1000000) (hn:n₀≤W.heap.size) (e1:ys=xs++leafL s x) :
  Calls Tryz.prog 134 #[v,.pointer (some ⟨b,0,none⟩),.int .i64 x] W (AppPost W n₀ v ys):=by
 have H:=gh h
 have HX:=gh hx
 have HR:=gh hr
 have HL:=gh hl
 have HN:=gh hn
 obtain ⟨k,hk⟩:∃ k,kd x=k:=⟨_,rfl⟩
 obtain ⟨p,hp⟩:∃ p,ad x=p:=⟨_,rfl⟩
 have pr:=ad_range x
 rw [hp] at pr
 obtain ⟨p0,p1⟩:=pr
 have HK:=gh hk
 have HP:=gh hp
 obtain ⟨la,lc,hv,_⟩:=hr.reads
 obtain ⟨M,hM⟩:∃ M,xs.length=M:=⟨_,rfl⟩
 rw [hM] at hv
 by_cases k2:k=2
 ·obtain ⟨z,hz⟩:∃ z,s.look p=z:=⟨_,rfl⟩
  obtain ⟨u,hu⟩:∃ u,s.look (p+1)=u:=⟨_,rfl⟩
  have HZ:=gh hz
  have HU:=gh hu
  have HE:Hid (ys=xs++[(z,u)]):=gh (by rw [e1,leafL,if_pos (by rw [hk];exact k2),hp,hz,hu])
  subst hv k2
  clear h hx hr hl hn hk hp e1 hM hz hu
  go_enter Tryz.func134,Tryz.ntmps134
  go_wp2_with (fail)
  refine (kk_p _ x 2 HX.out HK.out).mono ?_
  rintro e w' ⟨rfl,rfl⟩
  go_wp2_with (fail)
  refine (ak_p _ x p HX.out HP.out).mono ?_
  rintro e w' ⟨rfl,rfl⟩
  go_wp2_with (fail)
  refine (lk_p _ b s _ z H.out (by first | exact HZ.out | simpa using HZ.out)).mono ?_
  rintro e w' ⟨rfl,rfl⟩
  go_wp2_with (fail)
  refine (lk_p _ b s (p+1) u H.out HU.out).mono ?_
  rintro e w' ⟨rfl,rfl⟩
  go_wp2_with (at_builtin;refine Stop.out ?_)
  refine ⟨?_⟩
  have HRA:=gh (HR.out.kept (Kept.alloc (Kept.refl W) (.cells #[.int .i64 z,.int .i64 u] 59)))
  have HNW:Hid ((W.alloc (.cells #[.int .i64 z,.int .i64 u] 59)).heap[W.heap.size]? = some (.cells #[.int .i64 z,.int .i64 u] 59)):=gh (heap_new _ _)
  refine wpList_append_pair ptP rfl _ _ rfl n₀ _ xs ys rfl HRA.out W.heap.size z u rfl HNW.out HL.out (by have:=HN.out;simp;omega) HE.out ?_
  intro v1 W1 hown hg hat
  have T1:Hid (Td (fun k=>(Value.slice la M lc).ownBlock=some k) W W1):=gh ((Td.alloc (fun _=>False) W _).trans (Td.of_grownBy (R:=fun k=>(Value.slice la M lc).ownBlock=some k) hg (fun _ h=>h)) (fun _ h=>h.elim) (fun _ _ h=>h))
  have HR1:=gh hown
  have HAT:Hid (v1.ownBlock=(Value.slice la M lc).ownBlock∨∃ k,v1.ownBlock=some k∧W.heap.size≤k):=gh (by
   rcases hat with h | h
   ·exact .inl h
   ·exact .inr ⟨_,h,by simp⟩)
  clear hown hg hat HRA HNW
  go_wp2
  go_ret
  exact ⟨_,rfl,HR1.out,T1.out,HAT.out⟩
 ·have HE:Hid (ys=xs):=gh (by rw [e1,leafL,if_neg (by rw [hk];exact k2),List.append_nil])
  have g1:(k == 2)=false:=by simp [k2]
  have g2:(k != 2)=true:=by simp [k2]
  subst hv
  clear h hx hr hl hn hk hp e1 hM k2
  go_enter Tryz.func134,Tryz.ntmps134
  go_wp2_with (fail)
  refine (kk_p _ x k HX.out HK.out).mono ?_
  rintro e w' ⟨rfl,rfl⟩
  go_wp2
  go_ret
  exact ⟨_,rfl,by rw [HE.out];exact HR.out,Td.refl _ _,.inl rfl⟩
theorem grew_set {W W':World} {n₀ b:Nat} {v v':Value} {xs ys:List (Int × Int)} (h:Pst 44 59 W n₀ b v xs) (hr:PRow W' n₀ 59 v' ys) (ht:Td (fun k=>v.ownBlock=some k) W W') (hnew:v'.ownBlock=v.ownBlock∨∃ k,v'.ownBlock=some k∧W.heap.size≤k) :
  Boxed W' b 44 v∧Grew 44 59 n₀ b v ys W (W'.setCell ⟨b,0,none⟩ v'):=by
 have nb:v.ownBlock≠some b:=by
  intro e
  rcases h.row.2 with ⟨rfl,_⟩ | ⟨g,cap,cur,rfl,_,hg,_⟩
  ·simp [Value.ownBlock] at e
  ·obtain rfl:g=b:=by simpa [Value.ownBlock] using e
   have:=(show W.heap[g]? = _ from h.box).symm.trans hg
   simp at this
 have nb':v'.ownBlock≠some b:=by
  rcases hnew with e | ⟨k,e,hk⟩
  ·rw [e];exact nb
  ·rw [e]
   have:=h.box.lt
   intro e'
   cases e'
   omega
 have hb:Boxed W' b 44 v:=ht.boxed h.box (fun e=>nb e)
 have tS:Td (fun k=>k=b) W' (W'.setCell ⟨b,0,none⟩ v'):=Td.setCell _ _ _ rfl
 refine ⟨hb,v',⟨h.le,hb.set v',hr.turned tS (fun g hg e=>nb' (by rw [hg,e]))⟩,?_,?_⟩
 ·exact (ht.mono (fun k _ e=>.inr e)).trans tS (fun _ e=>e) (fun k _ e=>.inl e)
 ·rintro k (rfl | hk)
  ·exact .inl (.inl rfl)
  ·rcases hnew with e | ⟨j,e,hj⟩
   ·exact .inl (.inr (by rw [← e];exact hk))
   ·rw [e] at hk
    cases hk
    exact .inr hj
set_option maxHeartbeats 1000000 in
theorem pairsBelow_p (w:World) (b:Nat) (s:Mst) (h:PM w b s) (ho:s.ok) (f:Nat) (x:Int) (hw:Wf s f x) (hl:(spotsF s f x).length≤70000) (zs:List (Int × Int)) (e1:pairsF s f x=zs) :
  Calls Tryz.prog 95 #[.pointer (some ⟨b,0,none⟩),.int .i64 x] w (PSliced 59 zs w):=by
 obtain ⟨n,hn⟩:∃ n,w.heap.size=n:=⟨_,rfl⟩
 obtain ⟨W1,hW1⟩:∃ W1,w.alloc (.cells #[.pointer (some ⟨b,0,none⟩)] 36)=W1:=⟨_,rfl⟩
 have t1:Kept w W1:=by rw [← hW1];exact (Kept.refl w).alloc _
 have z1:W1.heap.size=n+1:=by rw [← hW1];simp [hn]
 have bM:Boxed W1 n 36 (.pointer (some ⟨b,0,none⟩)):=by rw [← hW1,← hn];exact Boxed.new w 36 _
 have K1:=gh t1
 have BM:=gh bM
 have c0:=bM.cell
 have H:=gh h
 have HO:=gh ho
 have HW:=gh hw
 have HX:=gh (hw.pos.elim fun _ h=>h.2.1.i64)
 have HL:=gh hl
 have HN:=gh hn
 have Z1:=gh z1
 have HE:=gh e1
 clear t1 bM h ho hw hl e1 z1
 refine calls_marks Tryz.func95 rfl ?_
 simp only [Tryz.ntmps95,List.size_toArray,List.length_cons,List.length_nil,Nat.reduceAdd,Nat.reduceSub,Array.replicate_succ,Array.replicate_zero,List.push_toArray,List.append_toArray,List.nil_append,List.cons_append]
 go_wp2_with (fail)
 clear hW1 hn
 refine (appendLeaf_p W1 b s x n (.slice none 0 0) [] (leafL s x) (H.out.kept K1.out) HX.out (PRow.nil _ _ _) (by simp) (by have:=Z1.out;omega) rfl).mono ?_
 rintro e W2 ⟨v2,rfl,r2,t2,_⟩
 have k2:Kept W1 W2:=t2.mono (fun k _ e=>by simp [Value.ownBlock] at e)
 obtain ⟨la,lc,hv,_⟩:=r2.reads
 obtain ⟨M,hM⟩:∃ M,(leafL s x).length=M:=⟨_,rfl⟩
 rw [hM] at hv
 subst hv
 clear hM
 obtain ⟨W3,hW3⟩:∃ W3,W2.alloc (.cells #[.slice la M lc] 44)=W3:=⟨_,rfl⟩
 obtain ⟨m,hm⟩:∃ m,W2.heap.size=m:=⟨_,rfl⟩
 have t3:Kept W2 W3:=by rw [← hW3];exact (Kept.refl W2).alloc _
 have P3:Hid (Pst 44 59 W3 n m (.slice la M lc) (leafL s x)):=gh ⟨by have:=k2.size;have:=Z1.out;omega,by rw [← hW3,← hm];exact Boxed.new W2 44 _,r2.kept t3⟩
 have K3:=gh (K1.out.trans (k2.trans t3))
 have BM3:=gh ((k2.trans t3).boxed BM.out id)
 have c0':=BM3.out.cell
 have Z3:Hid (n+1≤m∧W3.heap.size=m+1):=gh ⟨by have:=k2.size;have:=Z1.out;omega,by rw [← hW3];simp [hm]⟩
 clear r2 t2 k2 t3 c0 BM K1
 go_wp2_with (fail)
 clear hW3 hm
 refine (below_k W3 b x).mono ?_
 rintro e W4 ⟨B1,B2,rfl,k4,b1,b2,l1,l2⟩
 have K4:=gh (K3.out.trans k4)
 have KW4:=gh k4
 have BM4:=gh (k4.boxed BM3.out id)
 have P4:=gh (P3.out.kept k4)
 have BB1:=gh b1
 have BB2:=gh b2
 have L1:Hid (m+1≤B1∧m+1≤B2∧m+1≤W4.heap.size):=gh (by have:=Z3.out;have:=k4.size;omega)
 have FT:Hid (∀ k,Foot m (.slice la M lc) k→n≤k∧k < m+1):=gh (fun k hk=>by
  have:=P3.out.lt k hk
  have:=Z3.out
  omega)
 have NM:Hid (¬ Foot m (.slice la M lc) n):=gh (by
  rintro (h | h)
  ·have:=Z3.out;omega
  ·rcases P3.out.row.2 with ⟨e,_⟩ | ⟨g,cap,cur,e,_,hg,_⟩
   ·cases e;simp [Value.ownBlock] at h
   ·cases e
    obtain rfl:g=n:=by simpa [Value.ownBlock] using h
    have:=(show W3.heap[g]? = _ from BM3.out).symm.trans hg
    simp at this)
 clear k4 b1 b2 l1 l2 c0'
 go_wp2_with (fail)
 refine wp_range3 (gf:=171) rfl (enters_of Tryz.func171 (by kernel_rfl) rfl) (encs:=encS) (xs:=spotsF s f x) (R:=SlotR w B1 B2)
  (fun X hX=>below_i w X (K4.out.trans hX) b s H.out HO.out f x HW.out B1 B2 (hX.boxed BB1.out id) (hX.boxed BB2.out id)) (fun _=>rfl)
  (Foot m (.slice la M lc)) (Coll 44 59 n m (fun pre=>leafL s x++pre.flatMap (fun p=>leafL s p.2))) (fun _ _ _ _=>False) ?hR (Coll.good _ _ _ _ _) (fun _=>good_false) ⟨_,fun _=>Iff.rfl,by simpa using P4.out⟩ (fun p=>#[.int .i64 p.1,.int .i64 p.2]) 94 ?ab ?done (fun _ _ _ _ _ _ _ _ _ _ _ h=>h.elim)
 case hR=>
  rintro k (hk | rfl | rfl)
  ·have h1:=HN.out
   have h2:=K4.out.size
   refine ⟨by omega,fun h=>?_⟩
   have:=FT.out k h
   omega
  ·refine ⟨BB1.out.lt,fun h=>?_⟩
   have:=FT.out _ h
   have:=L1.out
   omega
  ·refine ⟨BB2.out.lt,fun h=>?_⟩
   have:=FT.out _ h
   have:=L1.out
   omega
 case ab=>
  apply Exists.intro
  refine ⟨?_,?_⟩
  ·intro l' p X m K hm hK
   gi_wp2
   exact hK
  ·rintro l' O pre ⟨sl,y⟩ rest B q hx' tB sB ⟨v,hO,hp⟩ hq nOq hWq
   have hmem:(sl,y) ∈ spotsF s f x:=by rw [hx'];simp
   have HYI:=gh (spotsF_i64 HO.out f x _ hmem)
   have hpl:pre.length≤70000:=by
    have:=congrArg List.length hx'
    simp at this
    have:=HL.out
    omega
   have hyl:Hid ((leafL s x++pre.flatMap (fun p=>leafL s p.2)).length≤1000000):=gh (by
    have h1:=leafL_len s x
    have h2:=leaves_len s pre
    rw [List.length_append]
    omega)
   have KB:Hid (Kept w B):=gh (K4.out.own (O:=Foot m (.slice la M lc)) (fun i hi=>by have:=FT.out i hi;have:=HN.out;omega) tB)
   have MB:=gh (H.out.kept KB.out)
   have cM:=(tB.boxed BM4.out NM.out).cell
   have cX:=hp.box.cell
   have cm1:B.cell? ⟨q,1,none⟩=some (.int .i64 y):=by simp [World.cell?,hq]
   have HOO:=gh hO
   have HPP:=gh hp
   obtain ⟨va,vc,hv,_⟩:=hp.row.reads
   obtain ⟨N,hNN⟩:∃ N,(leafL s x++pre.flatMap (fun p=>leafL s p.2)).length=N:=⟨_,rfl⟩
   rw [hNN] at hv
   subst hv
   have zB:Hid (n≤B.heap.size):=gh (by have:=KB.out.size;have:=HN.out;omega)
   have HYS:Hid (leafL s x++List.flatMap (fun p=>leafL s p.2) (pre++[(sl,y)])=(leafL s x++pre.flatMap (fun p=>leafL s p.2))++leafL s y):=gh (by simp)
   clear hx' tB sB hO hp hq nOq hWq hmem hNN
   gi_wp2_with (fail)
   refine ⟨trivial,?_⟩
   refine (CallsIn.inRound l' (callsIn_wide.2 (appendLeaf_p B b s y n (.slice va N vc) _ _ MB.out HYI.out HPP.out.row hyl.out zB.out HYS.out))).mono ?_
   rintro e C ⟨v',rfl,r',t',hnew⟩
   obtain ⟨hb1,hg⟩:=grew_set HPP.out r' t' hnew
   obtain ⟨va',vc',hv',_⟩:=r'.reads
   obtain ⟨N',hN'⟩:∃ N',(leafL s x++List.flatMap (fun p=>leafL s p.2) (pre++[(sl,y)])).length=N':=⟨_,rfl⟩
   rw [hN'] at hv'
   subst hv'
   have hc1:=hb1.cell
   have hf1:=hb1.frozen
   have HG:=gh hg
   clear hg r' t' hnew cX hN'
   gi_wp2
   exact Coll.next HOO.out HG.out rfl
 case done=>
  rintro D O X hD nD tX sX ⟨v,hO,hp⟩ hK
  have cX:=hp.box.cell
  have HK:=gh hK
  have HPP:=gh hp
  have ND:Hid (¬ Foot m v D):=gh (fun h=>nD ((hO D).2 h))
  have KX:Hid (Kept w X):=gh (K4.out.own (O:=Foot m (.slice la M lc)) (fun i hi=>by have:=FT.out i hi;have:=HN.out;omega) tX)
  have HDn:Hid (n≤D):=gh (by have:=L1.out;have:=Z3.out;omega)
  clear hK hp hO nD tX sX
  go_wp2
  refine leave_marks [D] X ?_ ?_ ?_
  ·intro k hk
   simp at hk
   rw [hk]
   exact HK.out
  ·simp
  ·intro X' hX'
   refine ⟨_,results_tmp rfl _ _ _,v,rfl,?_,?_⟩
   ·rw [HN.out,← HE.out]
    exact HPP.out.row.turned hX' (fun g hg h=>ND.out (.inr (by simp at h;rw [← h];exact hg)))
   ·exact KX.out.own (fun i hi=>by simp at hi;have:=HDn.out;have:=HN.out;omega) hX'
theorem wf_spots {s:Mst}:∀ {f:Nat} {x:Int},Wf s f x→∀ p ∈ spotsF s f x,Wf s f p.2
 | 0,_,h,_,_=>h.elim
 | f+1,x,h,p,hp=>by
  rw [spotsF_succ,List.mem_flatMap] at hp
  obtain ⟨q,hq,hp⟩:=hp
  have hq':=h.2 q hq
  unfold oneF at hp
  rcases List.mem_cons.1 hp with rfl | hp
  ·exact hq'.mono (by omega)
  ·exact (wf_spots hq' p hp).mono (by omega)
theorem wf_tgt {s:Mst} (ho:s.ok) {f:Nat} {x:Int} (h:Wf s f x):Wf s f (tgt s x):=by
 by_cases h4:kd x=4
 ·obtain ⟨g,rfl,h1,_⟩:=h.pos
  exact h.down ho (h1.tg h4)
 ·rw [tgt,if_neg h4];exact h
theorem spotsF_sub {s:Mst}:∀ {f:Nat} {x:Int},Wf s f x→∀ p ∈ spotsF s f x,(spotsF s f p.2).length≤(spotsF s f x).length
 | 0,_,h,_,_=>h.elim
 | f+1,x,h,p,hp=>by
  rw [spotsF_succ,List.mem_flatMap] at hp
  obtain ⟨q,hq,hp⟩:=hp
  have hq':=h.2 q hq
  have hle:(oneF s f q).length≤(spotsF s (f+1) x).length:=by
   rw [spotsF_succ]
   obtain ⟨L1,L2,e⟩:=List.append_of_mem hq
   rw [e,List.flatMap_append,List.flatMap_cons,List.length_append,List.length_append]
   omega
  unfold oneF at hp hle
  rw [List.length_cons] at hle
  rcases List.mem_cons.1 hp with rfl | hp
  ·rw [spotsF_more hq' (by omega)]
   omega
  ·have:=spotsF_sub hq' p hp
   rw [spotsF_more (wf_spots hq' p hp) (by omega)]
   omega
theorem inTree_wf {s:Mst} (ho:s.ok) {x:Int} (h:inTreeB s x=true):Wf s (fuel s) x∧(spotsF s (fuel s) x).length≤70000:=by
 unfold inTreeB at h
 rw [Bool.and_eq_true] at h
 obtain ⟨hs,ha⟩:=h
 have hr:=wf_root ho hs
 have hlen:=spotsL_len ho hs
 rw [spotsL,List.length_cons] at hlen
 have all:∀ p ∈ spotsL s (fuel s),Wf s (fuel s) p.2∧(spotsF s (fuel s) p.2).length≤70000:=by
  intro p hp
  rcases List.mem_cons.1 hp with rfl | hp
  ·exact ⟨hr,by show (spotsF s (fuel s) (s.logicZ 6)).length≤70000;omega⟩
  ·exact ⟨wf_spots hr p hp,Nat.le_trans (spotsF_sub hr p hp) (by omega)⟩
 obtain ⟨p,hp,hm⟩:=List.any_eq_true.1 ha
 obtain ⟨h1,h2⟩:=all p hp
 unfold meetB at hm
 simp only [Bool.or_eq_true,beq_iff_eq] at hm
 rcases hm with rfl | rfl
 ·exact ⟨h1,h2⟩
 ·refine ⟨wf_tgt ho h1,?_⟩
  by_cases h4:kd p.2=4
  ·obtain ⟨g,hg,h1',_⟩:=h1.pos
   rw [spotsF_tgt (h1'.tg h4)]
   exact h2
  ·rw [tgt,if_neg h4];exact h2
theorem content_p (w:World) (b:Nat) (s:Mst) (x:Int) (h:PM w b s) (ho:s.ok) (hx:I64 x) (zs:List (Int × Int)) (e1:contentB s x=zs) :
  Calls Tryz.prog 46 #[.pointer (some ⟨b,0,none⟩),.int .i64 x] w (PSliced 59 zs w):=by
 have H:=gh h
 have HO:=gh ho
 have HX:=gh hx
 obtain ⟨q,hq⟩:∃ q,inTreeB s x=q:=⟨_,rfl⟩
 have HQ:=gh hq
 unfold contentB at e1
 rw [hq] at e1
 cases q with
 | false=>
  have HE:Hid (zs=[]):=gh (by rw [← e1];rfl)
  clear h ho hx hq e1
  go_enter Tryz.func46,Tryz.ntmps46
  go_wp2_with (fail)
  refine (isInTree_p _ b s x H.out HO.out HX.out false HQ.out).mono ?_
  rintro e W2 ⟨rfl,k2⟩
  have K2:=gh k2
  clear k2
  go_wp2
  go_ret
  exact ⟨_,rfl,by rw [HE.out];exact PRow.nil _ _ _,K2.out⟩
 | true=>
  have HE:Hid (pairsF s (fuel s) x=zs):=gh e1
  clear h ho hx hq e1
  go_enter Tryz.func46,Tryz.ntmps46
  go_wp2_with (fail)
  refine (isInTree_p _ b s x H.out HO.out HX.out true HQ.out).mono ?_
  rintro e W2 ⟨rfl,k2⟩
  have K2:=gh k2
  clear k2
  go_wp2_with (fail)
  refine (pairsBelow_p W2 b s (H.out.kept K2.out) HO.out (fuel s) x (inTree_wf HO.out HQ.out).1 (inTree_wf HO.out HQ.out).2 zs HE.out).mono ?_
  rintro e W3 ⟨v,rfl,hr,k3⟩
  have HR:=gh (hr.low K2.out.size)
  have K3:=gh (K2.out.trans k3)
  clear hr k3
  go_wp2
  go_ret
  exact ⟨_,rfl,HR.out,K3.out⟩
end
section
def oneC (s:Mst) (f:Nat) (p:Int × Int):List (Int × Int):=pairsF s f (s.logicZ p.2)
theorem pairsF_succ {s:Mst} {f:Nat} {x:Int} (h2:kd x≠2):pairsF s (f+1) x=(slotsL s x).flatMap (oneC s f):=by
 rw [pairsF,leafL,if_neg h2,List.nil_append,spotsF_succ,List.flatMap_assoc]
 rfl
theorem pairsF_tgt {s:Mst} {f:Nat} {x:Int} (h4:kd x=4) (h3:kd (tgt s x)=3):pairsF s f (tgt s x)=pairsF s f x:=by
 rw [pairsF,pairsF,spotsF_tgt h3,leafL,leafL,if_neg (by rw [h3];decide),if_neg (by rw [h4];decide)]
theorem pairsF_none {s:Mst} {f:Nat} {x:Int} (h2:kd x≠2) (h3:kd (tgt s x)≠3):pairsF s f x=[]:=by
 rw [pairsF,spotsF_none h3,leafL,if_neg h2];rfl
theorem pairsF_le (s:Mst) (f:Nat) (x:Int):(pairsF s f x).length≤(spotsF s f x).length+1:=by
 rw [pairsF,List.length_append]
 have h1:=leafL_len s x
 have h2:=leaves_len s (spotsF s f x)
 omega
theorem oneC_len (s:Mst) (f:Nat) (L:List (Int × Int)):(L.flatMap (oneC s f)).length≤(L.flatMap (oneF s f)).length:=by
 induction L with
 | nil=>simp
 | cons p L ih=>
  simp only [List.flatMap_cons,List.length_append]
  have:=pairsF_le s f (s.logicZ p.2)
  unfold oneC oneF
  simp only [List.length_cons]
  unfold oneC oneF at ih
  omega
def ContD (f:Nat):Prop:=∀ (w:World) (b:Nat) (s:Mst) (_:DM w b s) (_:s.ok) (x:Int) (_:Wf s f x) (_:(spotsF s f x).length≤70000),Calls Tryz.prog 89 #[.pointer (some ⟨b,0,none⟩),.int .i64 x] w (PSliced 59 (pairsF s f x) w)
set_option maxHeartbeats 2000000 in
set_option maxRecDepth 20000 in
theorem cont_inner (f:Nat) (ih:ContD f) (w:World) (b:Nat) (s:Mst) (h:DM w b s) (ho:s.ok) (x:Int) (hw:Wf s (f+1) x) (k3:kd x=3) (hl:(spotsF s (f+1) x).length≤70000) :
  Calls Tryz.prog 89 #[.pointer (some ⟨b,0,none⟩),.int .i64 x] w (PSliced 59 (pairsF s (f+1) x) w):=by
 have e0:tgt s x=x:=by rw [tgt,if_neg (by rw [k3];decide)]
 obtain ⟨hwh,hwk⟩:=hw
 obtain ⟨p,hp⟩:∃ p,ad x=p:=⟨_,rfl⟩
 have pr:=ad_range x
 rw [hp] at pr
 obtain ⟨a,rfl⟩:∃ a:Nat,p=(a:Int):=⟨p.toNat,by omega⟩
 have a2:(a:Int)≤65536:=pr.2
 have hd:=hwh.deg (by rw [e0];exact k3)
 rw [e0,hp] at hd
 obtain ⟨d,hd'⟩:∃ d:Nat,s.look (a:Int)=(d:Int):=⟨(s.look a).toNat,by omega⟩
 rw [hd'] at hd
 obtain ⟨d2,d3⟩:=hd
 have eA:atN s x=a:=by unfold atN;rw [e0,hp];omega
 have eD:degN s x=d:=by unfold degN;rw [e0,hp,hd'];omega
 have HLA:Hid (∀ k,k < d→(slotsL s x)[k]? = some ((k:Int),childS a d k)):=gh (fun k hk=>by
  have:=slotsL_at (s:=s) (x:=x) (by rw [e0];exact k3) (k:=k) (by rw [eD];exact hk)
  rwa [eA,eD] at this)
 have HLL:Hid ((slotsL s x).length=d):=gh (by rw [slotsL_len (by rw [e0];exact k3),eD])
 rw [spotsF_succ] at hl
 rw [pairsF_succ (by rw [k3];decide)]
 have H:=gh h
 have HO:=gh ho
 have HX:=gh hwh.i64
 have HP:=gh hp
 have HD:=gh hd'
 have K3:=gh k3
 have IH:=gh ih
 have HWK:=gh hwk
 have HL:=gh hl
 clear h ho hwh hp hd' k3 ih hwk hl pr e0 eA eD
 go_enter Tryz.func89,Tryz.ntmps89
 go_wp2_with (fail)
 refine (ak_d _ x a HX.out HP.out).mono ?_
 rintro e w' ⟨rfl,rfl⟩
 go_wp2_with (fail)
 refine (kk_d _ x 3 HX.out K3.out).mono ?_
 rintro e w' ⟨rfl,rfl⟩
 go_wp2_with (fail)
 refine (lk_d _ b s a d H.out HD.out).mono ?_
 rintro e w' ⟨rfl,rfl⟩
 go_wp2
 go_loopw [5,8] (fun v i wr=>∃ (k:Nat) (ys:List (Int × Int)),k≤d∧i=.int .i64 (k:Int)∧Hid (ys=((slotsL s x).take k).flatMap (oneC s f))∧Hid (PRow wr w.heap.size 59 v ys)∧Hid (Kept w wr)) (fun _ i _=>d - (intOf i).toNat)
 case atStart=>exact ⟨0,[],by omega,by simp,gh (by simp),gh (PRow.nil _ _ _),gh (Kept.refl _)⟩
 case round=>
  obtain ⟨k,ys,hk,rfl,HY,HR,HK⟩:=hrel
  by_cases hkn:k < d
  ·have j1:(k:Int) < (d:Int):=by omega
   have hcz:=gh (childZ_in (n:=a) (d:=(d:Int)) (i:=k) (by omega) (by omega) (by omega) (by omega) (by omega) (by omega))
   obtain ⟨sl,hsl⟩:∃ sl,(a:Int)+4+(d:Int)+k=sl:=⟨_,rfl⟩
   rw [hsl] at hcz
   obtain ⟨y,hy⟩:∃ y,s.logicZ sl=y:=⟨_,rfl⟩
   have HYY:=gh hy
   have hat:=HLA.out k hkn
   have hat':(slotsL s x)[k]? = some ((k:Int),sl):=by rw [hat];unfold childS;rw [hsl]
   have hone:oneC s f ((k:Int),sl)=pairsF s f y:=by rw [oneC,hy]
   have hwf:Wf s f y:=by
    have:=HWK.out ((k:Int),sl) (List.mem_of_getElem? hat')
    rwa [hy] at this
   have HWF:=gh hwf
   have hnx:((slotsL s x).take (k+1)).flatMap (oneC s f)=ys++pairsF s f y:=by rw [flat_take _ hat',← HY.out,hone]
   have hlc:((slotsL s x).flatMap (oneC s f)).length≤70000:=Nat.le_trans (oneC_len s f _) HL.out
   have hlen:(ys++pairsF s f y).length≤70000:=by rw [← hnx];exact Nat.le_trans (flat_take_le _ _ _) hlc
   rw [List.length_append] at hlen
   have hl2:(spotsF s f y).length≤70000:=by
    have h1:((slotsL s x).take (k+1)).flatMap (oneF s f)=((slotsL s x).take k).flatMap (oneF s f)++((sl,y) :: spotsF s f y):=by rw [flat_take _ hat',oneF,hy]
    have h2:=Nat.le_trans (flat_take_le (oneF s f) (slotsL s x) (k+1)) HL.out
    rw [h1,List.length_append,List.length_cons] at h2
    omega
   obtain ⟨us,hus⟩:∃ us,ys++pairsF s f y=us:=⟨_,rfl⟩
   have HUS:=gh hus.symm
   have HNX:Hid (us=((slotsL s x).take (k+1)).flatMap (oneC s f)):=gh (by rw [hnx,← hus])
   have L2:Hid ((spotsF s f y).length≤70000):=gh hl2
   have L3:Hid (ys.length+(pairsF s f y).length≤1000000):=gh (by omega)
   have MW:=gh (H.out.kept HK.out)
   clear hy hat hat' hone hwf hnx hlc hlen hl2 hus hsl
   go_wp2_with (fail)
   refine (child_r _ a d k sl hcz.out).mono ?_
   rintro e w' ⟨rfl,rfl⟩
   go_wp2_with (fail)
   refine (logic_d _ b s sl y MW.out HO.out HYY.out).mono ?_
   rintro e w' ⟨rfl,rfl⟩
   go_wp2_with (fail)
   refine (IH.out _ b s MW.out HO.out y HWF.out L2.out).mono ?_
   rintro e W2 ⟨v2,rfl,hr2,k2⟩
   obtain ⟨a2',c2,hv2,hrd,_,_,h0,_⟩:=hr2.reads
   obtain ⟨M,hM⟩:∃ M,(pairsF s f y).length=M:=⟨_,rfl⟩
   have HMM:=gh hM
   rw [hM] at hv2
   subst hv2
   have HR2:=gh (HR.out.kept k2)
   have HK2:=gh (HK.out.trans k2)
   have HRD:=gh hrd
   have H0:=gh h0
   clear hr2 k2 hrd h0 hM HR HK MW
   go_wp2_with (at_builtin;refine Stop.out ?_)
   refine ⟨?_⟩
   refine wpList_append_pairs ptP rfl _ _ rfl w.heap.size _ ys (pairsF s f y) us rfl HR2.out a2' M c2 HMM.out rfl HRD.out H0.out L3.out HK2.out.size HUS.out ?_
   intro v3 W3 hown hg _
   have HK3:=gh (pkept_append HK2.out HR2.out hg)
   have HR3:=gh hown
   clear hown hg HR2 HK2 HRD H0
   go_wp2
   exact ⟨⟨k+1,us,by omega,by simp,HNX,HR3,HK3⟩,by simp [intOf];omega⟩
  ·have hkn':k=d:=by omega
   subst hkn'
   have j1:¬ ((k:Int) < (k:Int)):=by omega
   have HE:Hid (ys=(slotsL s x).flatMap (oneC s f)):=gh (by rw [HY.out,List.take_of_length_le (by rw [HLL.out];omega)])
   go_wp2
   go_ret
   exact ⟨_,rfl,by rw [← HE.out];exact HR.out,HK.out⟩
set_option maxHeartbeats 1000000 in
theorem cont_d:∀ f,ContD f
 | 0=>fun _ _ _ _ _ _ h _=>h.elim
 | f+1=>by
  have ih:=cont_d f
  intro w b s h ho x hw hl
  obtain ⟨k,hk⟩:∃ k,kd x=k:=⟨_,rfl⟩
  by_cases k3:k=3
  ·exact cont_inner f ih w b s h ho x hw (by rw [hk,k3]) hl
  obtain ⟨p,hp⟩:∃ p,ad x=p:=⟨_,rfl⟩
  have pr:=ad_range x
  rw [hp] at pr
  have H:=gh h
  have HX:=gh hw.1.i64
  have HP:=gh hp
  have HK:=gh hk
  by_cases k2:k=2
  ·subst k2
   obtain ⟨z1,hz1⟩:∃ z,s.look p=z:=⟨_,rfl⟩
   obtain ⟨z2,hz2⟩:∃ z,s.look (p+1)=z:=⟨_,rfl⟩
   have HE:Hid (pairsF s (f+1) x=[(z1,z2)]):=gh (by
    rw [pairsF,spotsF_none (by rw [tgt,if_neg (by rw [hk];decide),hk];decide),leafL,if_pos hk,hp,hz1,hz2];rfl)
   have HZ1:=gh hz1
   have HZ2:=gh hz2
   clear h ho hw hl hk hp hz1 hz2 ih k3
   go_enter Tryz.func89,Tryz.ntmps89
   go_wp2_with (fail)
   refine (ak_d _ x p HX.out HP.out).mono ?_
   rintro e w' ⟨rfl,rfl⟩
   go_wp2_with (fail)
   refine (kk_d _ x 2 HX.out HK.out).mono ?_
   rintro e w' ⟨rfl,rfl⟩
   go_wp2_with (fail)
   refine (lk_d _ b s p z1 H.out HZ1.out).mono ?_
   rintro e w' ⟨rfl,rfl⟩
   go_wp2_with (fail)
   refine (lk_d _ b s (p+1) z2 H.out HZ2.out).mono ?_
   rintro e w' ⟨rfl,rfl⟩
   go_wp2
   go_ret
   refine ⟨_,rfl,?_,Kept.alloc (Kept.refl _) _⟩
   rw [HE.out]
   exact ⟨rfl,.inr ⟨w.heap.size,1,_,rfl,Nat.le_refl _,heap_new _ _,Nat.le_refl _,by unfold maxLen;omega,rfl,rfl⟩⟩
  by_cases k4:k=4
  ·have h3:=hw.1.tg (by rw [hk];exact k4)
   have e0:tgt s x=s.look p:=by rw [tgt,if_pos (by rw [hk];exact k4),hp]
   obtain ⟨z,hz⟩:∃ z,s.look p=z:=⟨_,rfl⟩
   have HZ:=gh hz
   have hw2:=hw.down ho h3
   have HS:Hid (Calls Tryz.prog 89 #[.pointer (some ⟨b,0,none⟩),.int .i64 z] w (PSliced 59 (pairsF s (f+1) x) w)):=gh (by
    rw [← pairsF_tgt (by rw [hk];exact k4) h3,e0,hz]
    rw [e0,hz] at hw2 h3
    refine cont_inner f ih w b s h ho z hw2 h3 ?_
    rw [← hz,← e0,spotsF_tgt (by rw [e0,hz];exact h3)]
    exact hl)
   subst k4
   clear h ho hw hl hk hp hz e0 h3 hw2 ih k3 k2
   go_enter Tryz.func89,Tryz.ntmps89
   go_wp2_with (fail)
   refine (ak_d _ x p HX.out HP.out).mono ?_
   rintro e w' ⟨rfl,rfl⟩
   go_wp2_with (fail)
   refine (kk_d _ x 4 HX.out HK.out).mono ?_
   rintro e w' ⟨rfl,rfl⟩
   go_wp2_with (fail)
   refine (lk_d _ b s p z H.out HZ.out).mono ?_
   rintro e w' ⟨rfl,rfl⟩
   go_wp2_with (fail)
   refine HS.out.mono ?_
   rintro e W1 ⟨v,rfl,hr,k1⟩
   have HR:=gh hr
   have K1:=gh k1
   clear hr k1 HS
   go_wp2
   go_ret
   exact ⟨_,rfl,HR.out,K1.out⟩
  ·have HE:=gh (pairsF_none (s:=s) (f:=f+1) (x:=x) (by rw [hk];exact k2) (by rw [tgt,if_neg (by rw [hk];exact k4),hk];exact k3))
   have g0:(k == 2)=false:=by simp [k2]
   have g1:(k == 4)=false:=by simp [k4]
   have g2:(k == 3)=false:=by simp [k3]
   clear h ho hw hl hk hp ih k3 k4 k2
   go_enter Tryz.func89,Tryz.ntmps89
   go_wp2_with (fail)
   refine (ak_d _ x p HX.out HP.out).mono ?_
   rintro e w' ⟨rfl,rfl⟩
   go_wp2_with (fail)
   refine (kk_d _ x k HX.out HK.out).mono ?_
   rintro e w' ⟨rfl,rfl⟩
   go_wp2
   go_ret
   exact ⟨_,rfl,by rw [HE.out];exact PRow.nil _ _ _,Kept.refl _⟩
def leavesL (s:Mst):List (Int × Int):=if soundB s=true then pairsF s (fuel s) (s.logicZ 6) else []
theorem leaves_d (w:World) (b:Nat) (s:Mst) (h:DM w b s) (ho:s.ok) (xs:List (Int × Int)) (e1:leavesL s=xs) :
  Calls Tryz.prog 34 #[.pointer (some ⟨b,0,none⟩)] w (PSliced 59 xs w):=by
 have H:=gh h
 have HO:=gh ho
 obtain ⟨q,hq⟩:∃ q,soundB s=q:=⟨_,rfl⟩
 have HQ:=gh hq
 rw [leavesL,hq] at e1
 cases q with
 | false=>
  have HX:Hid (xs=[]):=gh (by rw [← e1];rfl)
  clear h ho hq e1
  go_enter Tryz.func34,Tryz.ntmps34
  go_wp2_with (fail)
  refine (sound_d _ b s H.out HO.out false HQ.out).mono ?_
  rintro e W2 ⟨rfl,k2⟩
  have K2:=gh k2
  clear k2
  go_wp2
  go_ret
  exact ⟨_,rfl,by rw [HX.out];exact PRow.nil _ _ _,K2.out⟩
 | true=>
  obtain ⟨y,hy⟩:∃ y,s.logicZ 6=y:=⟨_,rfl⟩
  have HYY:=gh hy
  have HX:Hid (pairsF s (fuel s) y=xs):=gh (by rw [← e1,if_pos rfl,hy])
  have hwf:=wf_root ho hq
  rw [hy] at hwf
  have HWF:=gh hwf
  have hlen:=spotsL_len ho hq
  rw [spotsL,hy,List.length_cons] at hlen
  have L2:Hid ((spotsF s (fuel s) y).length≤70000):=gh (by omega)
  clear h ho hq e1 hy hwf hlen
  go_enter Tryz.func34,Tryz.ntmps34
  go_wp2_with (fail)
  refine (sound_d _ b s H.out HO.out true HQ.out).mono ?_
  rintro e W2 ⟨rfl,k2⟩
  have K2:=gh k2
  have M2:=gh (H.out.kept k2)
  clear k2
  go_wp2_with (fail)
  refine (logic_d _ b s 6 y M2.out HO.out HYY.out).mono ?_
  rintro e w' ⟨rfl,rfl⟩
  go_wp2_with (fail)
  refine (cont_d (fuel s) W2 b s M2.out HO.out y HWF.out L2.out).mono ?_
  rintro e W4 ⟨v2,rfl,hr2,k4⟩
  have R4:=gh hr2
  have K4:=gh (K2.out.trans k4)
  rw [HX.out] at R4
  clear hr2 k4
  go_wp2
  go_ret
  exact ⟨_,rfl,R4.out.low K2.out.size,K4.out⟩
end
section
section
variable {P:Program} {ops:Array Oper} {Q:Exit→Act→World→Prop} {md:Region.Mode} {C:World→Prop} {n:Nat}
def Closed (md:Region.Mode) (ops:Array Oper) (listed:Array Bool):Prop:=
 ∀ (j:Nat) (o:Oper),ops[j]? = some o→listed.getD j false=true→∀ e ∈ o.after,Region.binds md e=true→listed.getD e.on false=true
theorem closed_start (m:Nat):Closed md ops (Array.replicate m false):=fun j o _ h=>by
 exfalso
 rcases Nat.lt_or_ge j m with h' | h'
 ·simp [h'] at h
 ·simp [Nat.not_lt.2 h'] at h
theorem closed_step {listed:Array Bool} {j:Nat} (h:Closed md ops listed) (hj:j ∈ Region.ready md ops listed):Closed md ops (listed.setIfInBounds j true):=by
 intro k o hk hl e he hb
 by_cases hkj:j=k
 ·subst hkj
  obtain ⟨_,o',ho',hall⟩:=mem_ready.1 hj
  rw [hk] at ho'
  cases ho'
  exact getD_set_true (hall e he hb)
 ·rw [getD_set_ne false hkj] at hl
  exact getD_set_true (h k o hk hl e he hb)
inductive Anc (md:Region.Mode) (ops:Array Oper):Nat→Nat→Prop
 | direct {i:Nat} {o:Oper} {e:Edge}:ops[i]? = some o→e ∈ o.after→Region.binds md e=true→Anc md ops e.on i
 | trans {p q i:Nat}:Anc md ops p q→Anc md ops q i→Anc md ops p i
theorem anc_done {listed:Array Bool} (hc:Closed md ops listed) {p i:Nat} (h:Anc md ops p i):(∀ o,ops[i]? = some o→∀ e ∈ o.after,Region.binds md e=true→listed.getD e.on false=true)→listed.getD p false=true:=by
 induction h with
 | direct ho he hb=>exact fun h=>h _ ho _ he hb
 | trans _ _ ih1 ih2=>exact fun h=>ih1 (fun o ho e he hb=>hc _ o ho (ih2 h) e he hb)
def ancB (md:Region.Mode) (ops:Array Oper):Nat→Nat→Nat→Bool
 | 0,_,_=>false
 | f+1,p,i=>match ops[i]? with
  | none=>false
  | some o=>o.after.any fun e=>Region.binds md e && (e.on == p || ancB md ops f p e.on)
theorem ancB_sound:∀ (f p i:Nat),ancB md ops f p i=true→Anc md ops p i
 | 0,_,_,h=>by cases h
 | f+1,p,i,h=>by
  unfold ancB at h
  cases ho:ops[i]? with
  | none=>rw [ho] at h;cases h
  | some o=>
   rw [ho] at h
   obtain ⟨e,he,hb⟩:=Array.any_eq_true'.1 h
   simp only [Bool.and_eq_true,Bool.or_eq_true,beq_iff_eq] at hb
   obtain ⟨h1,h2⟩:=hb
   have hd:Anc md ops e.on i:=.direct ho he h1
   rcases h2 with h2 | h2
   ·rw [← h2]
    exact hd
   ·exact .trans (ancB_sound f p e.on h2) hd
theorem not_ready {listed:Array Bool} (hc:Closed md ops listed) {p i:Nat} (h:Anc md ops p i) (hp:p ∈ Region.ready md ops listed):i ∉ Region.ready md ops listed:=by
 intro hi
 obtain ⟨_,o,ho,hall⟩:=mem_ready.1 hi
 have h1:=anc_done hc h (fun o' ho'=>by rw [ho] at ho';cases ho';exact hall)
 have h0:=(mem_ready.1 hp).1
 rcases Nat.lt_or_ge p listed.size with h' | h'
 ·simp [h'] at h0 h1
  rw [h0] at h1
  cases h1
 ·simp [Array.getElem?_eq_none h'] at h1
def anyB (P:Program) (md:Region.Mode) (ops:Array Oper) (Q:Exit→Act→World→Prop) (C:World→Prop) (n i:Nat):Nat→Array Bool→Act→World→Prop
 | 0,_,_,_=>False
 | fuel+1,listed,a,w=>
  (Region.ready md ops listed=[]→Q .normal a w)∧
  ∀ j ∈ Region.ready md ops listed,wpOpIn Fence.wide n P ops Q j (fun a' w'=>if j=i then wpAnyIn Fence.wide n P md ops Q fuel (listed.setIfInBounds j true) a' w' else C w'∧anyB P md ops Q C n i fuel (listed.setIfInBounds j true) a' w') a w
theorem wpAnyIn_of_anyB {i:Nat}:∀ (fuel:Nat) (listed:Array Bool) (a:Act) (w:World),anyB P md ops Q C n i fuel listed a w→wpAnyIn Fence.wide n P md ops Q fuel listed a w
 | 0,_,_,_,h=>h.elim
 | fuel+1,_,_,_,h=>⟨h.1,fun j hj=>wpOpIn_mono (fun a' w' h'=>by
   by_cases e:j=i
   ·rw [if_pos e] at h'
    exact h'
   ·rw [if_neg e] at h'
    exact wpAnyIn_of_anyB fuel _ a' w' h'.2) (h.2 j hj)⟩
theorem anyB_first {p i:Nat} {oi:Oper} {v:Value} (hi:ops[p]? = some oi) (hpi:p≠i) (hanc:Anc md ops p i) (hsel:∀ (j:Nat) (o:Oper) cs b,ops[j]? = some o→o.op≠.select cs b)
  (hQ:∀ c a w,Q (.panic c) (a.put oi.dst v) w→Q (.panic c) a w) :
  ∀ (fuel:Nat) (listed:Array Bool) (a:Act) (w:World),Closed md ops listed→
   (∀ j oj,ops[j]? = some oj→j≠p→listed.getD j true=false→(∀ e ∈ oj.after,Region.binds md e=true→e.on≠p)→oi.apart ops oj=true)→
   p ∈ Region.ready md ops listed→YieldsIf P ops C oi v a→C w→
   anyB P md ops Q C n i fuel (listed.setIfInBounds p true) (a.put oi.dst v) w→anyB P md ops Q C n i (fuel+1) listed a w:=by
 intro fuel
 induction fuel with
 | zero=>
  intro listed a w _ _ _ _ _ H
  exact H.elim
 | succ fuel ih=>
  intro listed a w hcl hfree hr hy hS H
  refine ⟨fun h=>(by rw [h] at hr;cases hr),fun j hj=>?_⟩
  by_cases hjp:j=p
  ·subst hjp
   refine yieldsIf_wpOpIn hi hy hS ?_
   rw [if_neg hpi]
   exact ⟨hS,H⟩
  ·have hji:j≠i:=fun e=>not_ready hcl hanc hr (e ▸ hj)
   have h1:=H.2 j (ready_mono hj hjp)
   simp only [if_neg hji] at h1 ⊢
   obtain ⟨hjun,oj,hoj,hall⟩:=mem_ready.1 hj
   have hnot:∀ e ∈ oj.after,Region.binds md e=true→e.on≠p:=fun e he hb heq=>by
    have h1:=hall e he hb
    have h0:=(mem_ready.1 hr).1
    rw [heq] at h1
    rcases Nat.lt_or_ge p listed.size with h' | h'
    ·simp [h'] at h0 h1;rw [h0] at h1;cases h1
    ·simp [Array.getElem?_eq_none h'] at h1
   have h2:=wpOpIn_putIf hoj (hfree j oj hoj hjp hjun hnot) (fun cs b=>hsel p oi cs b hi) (fun cs b=>hsel j oj cs b hoj) hQ hy h1
   have hfree':∀ k ok,ops[k]? = some ok→k≠p→(listed.setIfInBounds j true).getD k true=false→
     (∀ e ∈ ok.after,Region.binds md e=true→e.on≠p)→oi.apart ops ok=true:=fun k ok hk hki hun hno=>by
    refine hfree k ok hk hki ?_ hno
    by_cases hjk:j=k
    ·subst hjk;exact hjun
    ·rw [getD_set_ne true hjk] at hun;exact hun
   refine wpOpIn_mono (fun a' w' h3=>⟨h3.2.1,ih (listed.setIfInBounds j true) a' w' (closed_step hcl hj) hfree' (ready_mono hr (Ne.symm hjp)) h3.1 h3.2.1 ?_⟩) h2
   rw [Array.setIfInBounds_comm _ _ hjp]
   exact h3.2.2
def wpTwo (P:Program) (ops:Array Oper) (Q:Exit→Act→World→Prop) (C:World→Prop) (n i:Nat) (is:List Nat):List Nat→Act→World→Prop
 | [],a,w=>wpOpIn Fence.wide n P ops Q i (fun a' w'=>∃ S2:World→Prop,S2 w'∧wpPerm P ops Q (fun V=>∃ x:Wd S2,V=x.w) n is a' w') a w
 | p :: ps,a,w=>match ops[p]? with
  | none=>False
  | some o=>∃ v,YieldsIf P ops C o v a∧wpTwo P ops Q C n i is ps (a.put o.dst v) w
end
section
variable {P:Program} {l:List Oper} {Q:Exit→Act→World→Prop} {C:World→Prop} {n:Nat} {i p:Nat} {is ps:List Nat} {o:Oper} {a:Act} {w:World}
theorem loud_list {K:Act→World→Prop} (ho:nth l i=some o) (h:wpListIn Fence.wide n P l.toArray (Exit.then K Q) [o] a w):wpOpIn Fence.wide n P l.toArray Q i K a w:=by
 unfold wpOpIn
 simp only [(nth_eq l i).trans ho]
 unfold wpListIn at h
 split
 ·rename_i hw
  rw [if_pos hw] at h
  unfold Oper.wpIn at h ⊢
  refine ⟨h.1,?_⟩
  have h:=h.2
  generalize (o.semAt Fence.wide.round a.eval).run P w=r at h ⊢
  cases r with
  | ok x w'=>
   cases x <;> simp only [Oper.uponIn,wpListIn,Exit.then] at h ⊢ <;> exact h
  | halt x w'=>cases x <;> simp only [Oper.uponIn,Exit.then] at h ⊢ <;> exact h
 ·rename_i hw
  rw [if_neg hw] at h
  exact h
theorem tl (ho:nth l i=some o) (h:wpListIn Fence.wide n P l.toArray (Exit.then (fun a' w'=>∃ S2:World→Prop,S2 w'∧wpPerm P l.toArray Q (fun V=>∃ x:Wd S2,V=x.w) n is a' w') Q) [o] a w):wpTwo P l.toArray Q C n i is [] a w:=by
 unfold wpTwo
 exact loud_list ho h
end
end
section
section
variable {P:Program} {ops:Array Oper} {Q:Exit→Act→World→Prop} {md:Region.Mode} {C:World→Prop} {n:Nat}
def wpLast (P:Program) (ops:Array Oper) (Q:Exit→Act→World→Prop) (C:World→Prop) (n i:Nat):List Nat→Act→World→Prop
 | [],a,w=>wpOpIn Fence.wide n P ops Q i (fun a' w'=>Q .normal a' w') a w
 | p :: ps,a,w=>match ops[p]? with
  | none=>False
  | some o=>if plainOp o.op then (∃ v,YieldsIf P ops C o v a∧wpLast P ops Q C n i ps (a.put o.dst v) w) else wpOpIn Fence.wide n P ops Q p (fun a' w'=>C w'∧wpLast P ops Q C n i ps a' w') a w
def lastB (md:Region.Mode) (ops:Array Oper) (i:Nat):List Nat→Array Bool→Bool
 | [],listed=>Region.ready md ops listed == [i] && (Region.ready md ops (listed.setIfInBounds i true)).isEmpty
 | p :: ps,listed=>(match ops[p]? with | none=>false | some o=>if plainOp o.op then (Region.ready md ops listed).contains p && Region.free md ops listed p && ancB md ops ops.size p i else Region.ready md ops listed == [p]) && p != i && lastB md ops i ps (listed.setIfInBounds p true)
theorem last_any {i:Nat} (hs:Region.noSelect ops=true) (hQ:∀ c a d v w,Q (.panic c) (Act.put a d v) w→Q (.panic c) a w):∀ (ps:List Nat) (listed:Array Bool) (a:Act) (w:World),C w→Closed md ops listed→lastB md ops i ps listed=true→wpLast P ops Q C n i ps a w→anyB P md ops Q C n i (ps.length+1) listed a w
 | [],listed,a,w,_,_,hB,h=>by
  simp only [lastB,Bool.and_eq_true,beq_iff_eq] at hB
  obtain ⟨hr,hB2⟩:=hB
  refine ⟨fun h0=>(by rw [hr] at h0;cases h0),fun j hj=>?_⟩
  rw [hr] at hj
  obtain rfl:j=i:=by simpa using hj
  refine wpOpIn_mono (fun a' w' h'=>?_) h
  rw [if_pos rfl]
  exact ⟨by simpa using hB2,h'⟩
 | p :: ps,listed,a,w,hC,hcl,hB,h=>by
  simp only [lastB,Bool.and_eq_true,bne_iff_ne,ne_eq] at hB
  obtain ⟨⟨hB1,hpi⟩,hB2⟩:=hB
  unfold wpLast at h
  cases ho:ops[p]? with
  | none=>simp [ho] at hB1
  | some o=>
   simp only [ho] at hB1 h
   by_cases hp:plainOp o.op=true
   ·simp only [hp,if_true,Bool.and_eq_true] at hB1 h
    obtain ⟨⟨hr,hf⟩,hanc⟩:=hB1
    obtain ⟨v,hy,hk⟩:=h
    have hr':p ∈ Region.ready md ops listed:=by simpa using hr
    exact anyB_first ho hpi (ancB_sound _ _ _ hanc) (Region.noSelect_spec hs) (fun c a w=>hQ c a _ v w) _ listed a w hcl (Region.free_spec ho hf) hr' hy hC (last_any hs hQ ps _ _ _ hC (closed_step hcl hr') hB2 hk)
   ·simp only [hp,Bool.false_eq_true,if_false] at hB1 h
    have hr:Region.ready md ops listed=[p]:=by simpa using hB1
    refine ⟨fun h0=>(by rw [hr] at h0;cases h0),fun j hj=>?_⟩
    rw [hr] at hj
    obtain rfl:j=p:=by simpa using hj
    have hj':j ∈ Region.ready md ops listed:=by rw [hr];simp
    refine wpOpIn_mono (fun a' w' h'=>?_) h
    rw [if_neg hpi]
    exact ⟨h'.1,last_any hs hQ ps _ _ _ h'.1 (closed_step hcl hj') hB2 h'.2⟩
end
section
variable {P:Program} {l:List Oper} {Q:Exit→Act→World→Prop} {C:World→Prop} {n:Nat} {i p:Nat} {ps:List Nat} {o:Oper} {a:Act} {w:World}
theorem lq (ho:nth l p=some o) (hp:plainOp o.op=true) (h:wpQuiet P l.toArray C (fun a'=>wpLast P l.toArray Q C n i ps a' w) [o] a):wpLast P l.toArray Q C n i (p :: ps) a w:=by
 have ho':=(nth_eq l p).trans ho
 unfold wpLast
 simp only [ho',hp,if_true]
 unfold wpQuiet at h
 by_cases hw:Region.wanted o (yielded l.toArray a.tmps)=true
 ·rw [if_pos hw] at h
  obtain ⟨v,hv,hk⟩:=h
  refine ⟨v,.inl ⟨hw,fun w1 hC=>?_⟩,hk⟩
  have h1:=hv w1 hC
  unfold Oper.quietAt at h1
  cases hr:(execOp a.eval o).run P w1 with
  | ok x w'=>
   rw [hr] at h1
   obtain ⟨u,rfl⟩:=plain_value hp hr
   simp only [Oper.quietUpon] at h1
   rw [h1.1,h1.2]
  | halt x w'=>rw [hr] at h1;exact h1.elim
 ·rw [if_neg hw] at h
  exact ⟨undef,.inr ⟨by simpa using hw,rfl⟩,h⟩
theorem ll (ho:nth l p=some o) (hp:plainOp o.op=false) (h:wpListIn Fence.wide n P l.toArray (Exit.then (fun a' w'=>C w'∧wpLast P l.toArray Q C n i ps a' w') Q) [o] a w):wpLast P l.toArray Q C n i (p :: ps) a w:=by
 unfold wpLast
 simp only [(nth_eq l p).trans ho,hp,Bool.false_eq_true,if_false]
 exact loud_list ho h
theorem lz (ho:nth l i=some o) (h:wpListIn Fence.wide n P l.toArray (Exit.then (fun a' w'=>Q .normal a' w') Q) [o] a w):wpLast P l.toArray Q C n i [] a w:=by
 unfold wpLast
 exact loud_list ho h
end
theorem region_last {P:Program} {ops:Array Oper} {Q:Exit→Act→World→Prop} {id:Nat} {a:Act} {w:World} (ps:List Nat) (i:Nat) (S:World→Prop) (hm:P.follows .mixedOrders=true)
  (hB:(Region.noSelect ops && ps.length+1 == ops.size && lastB .any ops i ps (Array.replicate ops.size false))=true)
  (hS:S w.drew) (h:Nonempty (Wd S)→wpLast P ops (calm Q) (fun w'=>∃ x:Wd S,w'=x.w) 10 i ps a w.drew):(Code.region id ops true).wp P Q a w:=by
 simp only [Bool.and_eq_true,beq_iff_eq] at hB
 have:=last_any (md:=.any) hB.1.1 (Q:=calm Q) (fun _ _ _ _ _ h=>h) ps _ a _ (Wd.mem hS) (closed_start _) hB.2 (h ⟨⟨_,hS⟩⟩)
 rw [hB.1.2] at this
 exact (wpIn_wide (n:=10)).1 (Go.wpIn_mono (wpIn_region_any hm (wpAnyIn_of_anyB _ _ _ _ this)) (fun _ _ _ h=>calm_imp h))
theorem region_last_round {P:Program} {ops:Array Oper} {Q:Exit→Act→World→Prop} {n l id:Nat} {a:Act} {w:World} (ps:List Nat) (i:Nat) (S:World→Prop) (hm:P.follows .mixedOrders=true) (hd:noDefer ops=true)
  (hB:(Region.noSelect ops && ps.length+1 == ops.size && lastB .any ops i ps (Array.replicate ops.size false))=true)
  (hS:S w.drew) (h:Nonempty (Wd S)→wpLast P ops (calm Q) (fun w'=>∃ x:Wd S,w'=x.w) n i ps a w.drew):(Code.region id ops true).wpIn (Fence.wide.inRound l) n P Q a w:=by
 simp only [Bool.and_eq_true,beq_iff_eq] at hB
 have:=last_any (md:=.any) hB.1.1 (Q:=calm Q) (fun _ _ _ _ _ h=>h) ps _ a _ (Wd.mem hS) (closed_start _) hB.2 (h ⟨⟨_,hS⟩⟩)
 rw [hB.1.2] at this
 exact Go.wpIn_mono (wpIn_region_any hm (wpAnyIn_inRound hd _ _ _ _ (wpAnyIn_of_anyB _ _ _ _ this))) (fun _ _ _ h=>calm_imp h)
theorem last_done {Q:Exit→Act→World→Prop} {a:Act} {w:World} (h:Q .normal a w):calm Q .normal a w:=h
end
section
open Go.Shelf
attribute [local go_sem] Oper.semAt_some
def levF (s:Mst):Nat→Int→Int
 | 0,_=>0
 | f+1,x=>if kd (tgt s x)=3 then 1+(slotsL s x).foldl (fun m p=>max m (levF s f (s.logicZ p.2))) 0 else 0
theorem levF_succ (s:Mst) (f:Nat) (x:Int):levF s (f+1) x=if kd (tgt s x)=3 then 1+(slotsL s x).foldl (fun m p=>max m (levF s f (s.logicZ p.2))) 0 else 0:=rfl
def depthB (s:Mst) (x:Int):Int:=if inTreeB s x=true then levF s (fuel s) x else 0
theorem fold_max {α:Type} (g:α→Int) (B:Int) (hg:∀ a,0≤g a∧g a≤B) (L:List α):∀ m,0≤m→m≤B→0≤L.foldl (fun m p=>max m (g p)) m∧L.foldl (fun m p=>max m (g p)) m≤B:=by
 induction L with
 | nil=>intro m h1 h2;exact ⟨h1,h2⟩
 | cons a L ih=>
  intro m h1 h2
  have:=hg a
  rw [List.foldl_cons]
  exact ih (max m (g a)) (by omega) (by omega)
theorem levF_bound (s:Mst):∀ (f:Nat) (x:Int),0≤levF s f x∧levF s f x≤f
 | 0,_=>by simp [levF]
 | f+1,x=>by
  unfold levF
  split
  ·have:=fold_max (fun p:Int × Int=>levF s f (s.logicZ p.2)) f (fun p=>levF_bound s f _) (slotsL s x) 0 (by omega) (by omega)
   omega
  ·omega
def Deep (n:Nat) (g:Int × Int→Int):Inv (Int × Int):=fun O pre A=>(∀ k,O k↔k=n)∧Boxed A n 3 (.int .i64 (pre.foldl (fun m p=>max m (g p)) 0))
theorem Deep.good (n:Nat) (g:Int × Int→Int):Good (Deep n g):=by
 constructor
 ·rintro O pre A B ⟨hO,hb⟩ ht
  exact ⟨hO,ht.boxed hb (fun hn=>hn ((hO n).2 rfl))⟩
 ·rintro O pre A ⟨hO,hb⟩ k hk
  rw [(hO k).1 hk]
  exact hb.lt
set_option maxHeartbeats 2000000 in
theorem levels_p:∀ (f:Nat) (w:World) (b:Nat) (s:Mst) (x:Int),PM w b s→s.ok→Wf s f x→f≤100000→
  Calls Tryz.prog 97 #[.pointer (some ⟨b,0,none⟩),.int .i64 x] w fun e w'=>e=.returned (.int .i64 (levF s f x))∧Kept w w'
 | 0,_,_,_,_,_,_,h,_=>h.elim
 | f+1,w,b,s,x,h,ho,hw,hf=>by
  have ih:=levels_p f
  obtain ⟨hwh,hwk⟩:=hw
  obtain ⟨n,hn⟩:∃ n,w.heap.size=n:=⟨_,rfl⟩
  obtain ⟨W1,hW1⟩:∃ W1,w.alloc (.cells #[.pointer (some ⟨b,0,none⟩)] 36)=W1:=⟨_,rfl⟩
  have t1:Kept w W1:=by rw [← hW1];exact (Kept.refl w).alloc _
  have z1:W1.heap.size=n+1:=by rw [← hW1];simp [hn]
  have bM:Boxed W1 n 36 (.pointer (some ⟨b,0,none⟩)):=by rw [← hW1,← hn];exact Boxed.new w 36 _
  have K1:=gh t1
  have BM:=gh bM
  have c0:=bM.cell
  have H:=gh h
  have HO:=gh ho
  have HWH:=gh hwh
  have HWK:=gh hwk
  have IH:=gh ih
  have HN:=gh hn
  have Z1:=gh z1
  have HF:=gh hf
  obtain ⟨t,ht⟩:∃ t,tgt s x=t:=⟨_,rfl⟩
  have HT:=gh ht
  have HTI:Hid (I64 t):=gh (by rw [← ht];exact tgt_i64 ho hwh.i64)
  obtain ⟨j,hj⟩:∃ j,kd t=j:=⟨_,rfl⟩
  have HJ:=gh hj
  by_cases j3:j=3
  ·obtain ⟨g,hg⟩:∃ g:Int × Int→Int,(fun p=>levF s f (s.logicZ p.2))=g:=⟨_,rfl⟩
   have HE:Hid (levF s (f+1) x=1+(slotsL s x).foldl (fun m p=>max m (g p)) 0):=gh (by subst hg;rw [levF_succ,if_pos (by rw [ht,hj];exact j3)])
   have HG:Hid (∀ p:Int × Int,levF s f (s.logicZ p.2)=g p):=gh (fun p=>by subst hg;rfl)
   have GB:Hid (∀ p:Int × Int,0≤g p∧g p≤100000):=gh (fun p=>by rw [← hg];have:=levF_bound s f (s.logicZ p.2);have:=HF.out;dsimp only;omega)
   subst j3
   clear t1 bM h ho hwh hwk ih z1 hf ht hj hg
   refine calls_marks Tryz.func97 rfl ?_
   simp only [Tryz.ntmps97,List.size_toArray,List.length_cons,List.length_nil,Nat.reduceAdd,Nat.reduceSub,Array.replicate_succ,Array.replicate_zero,List.push_toArray,List.append_toArray,List.nil_append,List.cons_append]
   go_wp2_with (fail)
   clear hW1 hn
   refine (target_p _ b s x t (H.out.kept K1.out) HWH.out.i64 HT.out).mono ?_
   rintro e w' ⟨rfl,rfl⟩
   go_wp2_with (fail)
   refine (kk_p _ t 3 HTI.out HJ.out).mono ?_
   rintro e w' ⟨rfl,rfl⟩
   have ca:=(Kept.alloc (Kept.refl W1) (.cells #[.int .i64 0] 3)).cell c0 id
   go_wp2_with (fail)
   rw [Z1.out]
   clear ca
   obtain ⟨W2,hW2⟩:∃ W2,W1.alloc (.cells #[.int .i64 0] 3)=W2:=⟨_,rfl⟩
   have zz:=Z1.out
   have t2:Kept W1 W2:=by rw [← hW2];exact (Kept.refl W1).alloc _
   have bD:Boxed W2 (n+1) 3 (.int .i64 0):=by rw [← hW2,← zz];exact Boxed.new W1 3 _
   have Z2:Hid (W2.heap.size=n+2):=gh (by rw [← hW2];simp [zz])
   have K2:=gh (K1.out.trans t2)
   have BM2:=gh (t2.boxed BM.out id)
   have BD:=gh bD
   have c0':=BM2.out.cell
   clear t2 bD c0
   rw [hW2]
   clear hW2
   refine (slots_k W2 b x).mono ?_
   rintro e W3 ⟨B1,B2,rfl,k3,b1,b2,l1,l2⟩
   have K3:=gh (K2.out.trans k3)
   have BM3:=gh (k3.boxed BM2.out id)
   have BD3:=gh (k3.boxed BD.out id)
   have BB1:=gh b1
   have BB2:=gh b2
   have L1:Hid (n+2≤B1∧n+2≤B2∧n+2≤W3.heap.size):=gh (by have:=Z2.out;have:=k3.size;omega)
   clear k3 b1 b2 l1 l2 c0' zz
   go_wp2_with (fail)
   refine wp_range2 (gf:=172) rfl (enters_of Tryz.func172 (by kernel_rfl) rfl) (encs:=enc2) (xs:=slotsL s x) (R:=SlotR w B1 B2)
    (fun X hX=>slots_i w X (K3.out.trans hX) b s H.out HO.out x HWH.out B1 B2 (hX.boxed BB1.out id) (hX.boxed BB2.out id)) (fun _=>rfl)
    (fun k=>k=n+1) (Deep (n+1) g) (fun _ _ _ _=>False) ?hR (Deep.good _ _) (fun _=>good_false) ⟨fun _=>Iff.rfl,by simpa using BD3.out⟩ ?ab ?done (fun _ _ _ _ _ _ _ _ _ _ _ h=>h.elim)
   case hR=>
    rintro k (hk | rfl | rfl)
    ·have h1:=HN.out
     have h2:=K3.out.size
     exact ⟨by omega,by omega⟩
    ·have:=L1.out
     exact ⟨BB1.out.lt,by omega⟩
    ·have:=L1.out
     exact ⟨BB2.out.lt,by omega⟩
   case ab=>
    apply Exists.intro
    refine ⟨?_,?_⟩
    ·intro l' p X K hK
     gi_wp2
     exact hK
    ·rintro l' O pre ⟨pi,sl⟩ rest B hx' tB sB ⟨hO,bD⟩
     obtain ⟨y,hy⟩:∃ y,s.logicZ sl=y:=⟨_,rfl⟩
     have HY:=gh hy
     have HWF:Hid (Wf s f y):=gh (by
      have:=HWK.out (pi,sl) (by rw [hx'];simp)
      rwa [hy] at this)
     obtain ⟨v,hv⟩:∃ v,g (pi,sl)=v:=⟨_,rfl⟩
     have HV:Hid (levF s f y=v):=gh (by rw [← hy,HG.out (pi,sl)];exact hv)
     obtain ⟨D,hD⟩:∃ D,pre.foldl (fun m p=>max m (g p)) 0=D:=⟨_,rfl⟩
     have HDN:Hid ((pre++[(pi,sl)]).foldl (fun m p=>max m (g p)) 0=max D v):=gh (by rw [List.foldl_append,hD];simp [hv])
     rw [hD] at bD
     have vb:0≤v∧v≤100000:=by rw [← hv];exact GB.out _
     have db:0≤D∧D≤100000:=by rw [← hD];exact fold_max g 100000 GB.out pre 0 (by omega) (by omega)
     have KB:Hid (Kept w B):=gh (K3.out.did (by have:=HN.out;omega) tB)
     obtain ⟨V,hV⟩:∃ V,B.drew=V:=⟨_,rfl⟩
     have kV:Kept B V:=by rw [← hV];exact Kept.drew _
     have KV:=gh kV
     have HVV:=gh hV
     have bM':=(tB.boxed BM3.out (by omega))
     have MV:=gh (H.out.kept (KB.out.trans kV))
     have x0:∀ u:Wd (fun U=>Kept V U),u.w.cell? ⟨n,0,none⟩=some (.pointer (some ⟨b,0,none⟩)):=fun u=>u.ok.cell (kV.cell bM'.cell id) id
     have x1:∀ u:Wd (fun U=>Kept V U),u.w.cell? ⟨n+1,0,none⟩=some (.int .i64 D):=fun u=>u.ok.cell (kV.cell bD.cell id) id
     have BDV:=gh (kV.boxed bD id)
     have HOO:=gh hO
     clear hx' tB sB hO bD hy hv hD hV kV bM'
     gi_wp2_with (fail)
     refine region_last_round [0,1,2,3,4,5,6] 7 (fun U=>Kept V U) (by kernel_rfl) (by kernel_rfl) (by kernel_rfl) (by rw [HVV.out];exact Kept.refl _) (fun _=>?_)
     rw [HVV.out]
     repeat (refine lq rfl rfl ?_;go_big_quiet_step (fail);refine wpQuiet_nil ?_)
     refine ll rfl rfl ?_
     gi_wp2_with (fail)
     refine ⟨trivial,?_⟩
     refine (callsIn_wide.2 (logic_p _ b s sl y MV.out HO.out HY.out)).mono ?_
     rintro e U ⟨rfl,rfl⟩
     gi_wp2_with (fail)
     refine ⟨Wd.mem (Kept.refl _),?_⟩
     refine ll rfl rfl ?_
     gi_wp2_with (fail)
     refine ⟨trivial,?_⟩
     refine (callsIn_wide.2 (IH.out V b s y MV.out HO.out HWF.out (by have:=HF.out;omega))).mono ?_
     rw [HV.out]
     rintro e U ⟨rfl,kU⟩
     have KU:=gh kU
     have BDU:=gh (kU.boxed BDV.out id)
     have cD:=BDU.out.cell
     have fD:=BDU.out.frozen
     clear kU
     gi_wp2_with (fail)
     refine ⟨Wd.mem KU.out,?_⟩
     refine ll rfl rfl ?_
     gi_wp2
     refine ⟨Wd.mem KU.out,?_⟩
     refine lz rfl ?_
     gi_wp2
     refine last_done ?_
     gi_wp2
     refine ⟨O,Sub.refl _ _,(Td.trans (KV.out.trans KU.out) (Td.setCell (R:=fun k=>k=n+1) _ _ _ rfl) (fun _ h=>h.elim) (fun k _ h=>(HOO.out k).2 h)),HOO.out,?_⟩
     rw [HDN.out]
     exact BDU.out.set _
   case done=>
    rintro D O X hD nD tX sX ⟨hO,bD⟩ hK
    obtain ⟨d,hd⟩:∃ d,(slotsL s x).foldl (fun m p=>max m (g p)) 0=d:=⟨_,rfl⟩
    rw [hd] at bD
    have db:0≤d∧d≤100000:=by rw [← hd];exact fold_max g 100000 GB.out _ 0 (by omega) (by omega)
    have HE2:Hid (levF s (f+1) x=1+d):=gh (by rw [HE.out,hd])
    have cD:=bD.cell
    have HK:=gh hK
    have KX:Hid (Kept w X):=gh (K3.out.did (by have:=HN.out;omega) tX)
    have HDn:Hid (n≤D):=gh (by have:=L1.out;omega)
    clear hK bD hO nD tX sX hd
    go_wp2
    refine leave_marks [D] X ?_ ?_ ?_
    ·intro k hk
     simp at hk
     rw [hk]
     exact HK.out
    ·simp
    ·intro X' hX'
     refine ⟨_,results_tmp rfl _ _ _,by rw [HE2.out];rfl,?_⟩
     exact KX.out.own (fun i hi=>by simp at hi;have:=HDn.out;have:=HN.out;omega) hX'
  ·have HE:Hid (levF s (f+1) x=0):=gh (by rw [levF_succ,if_neg (by rw [ht,hj];exact j3)])
   have g1:(j == 3)=false:=by simp [j3]
   have g2:(j != 3)=true:=by simp [j3]
   clear t1 bM h ho hwh hwk ih z1 hf ht hj j3
   refine calls_marks Tryz.func97 rfl ?_
   simp only [Tryz.ntmps97,List.size_toArray,List.length_cons,List.length_nil,Nat.reduceAdd,Nat.reduceSub,Array.replicate_succ,Array.replicate_zero,List.push_toArray,List.append_toArray,List.nil_append,List.cons_append]
   go_wp2_with (fail)
   clear hW1 hn
   refine (target_p _ b s x t (H.out.kept K1.out) HWH.out.i64 HT.out).mono ?_
   rintro e w' ⟨rfl,rfl⟩
   go_wp2_with (fail)
   refine (kk_p _ t j HTI.out HJ.out).mono ?_
   rintro e w' ⟨rfl,rfl⟩
   go_wp2
   refine leave_marks [] _ ?_ ?_ ?_
   ·intro k hk;cases hk
   ·simp
   ·intro X' hX'
    exact ⟨_,results_tmp rfl _ _ _,by rw [HE.out];rfl,K1.out.trans (hX'.mono fun _ _ h=>by cases h)⟩
theorem depth_p (w:World) (b:Nat) (s:Mst) (x:Int) (h:PM w b s) (ho:s.ok) (hx:I64 x) (d:Int) (e1:depthB s x=d) :
  Calls Tryz.prog 48 #[.pointer (some ⟨b,0,none⟩),.int .i64 x] w fun e w'=>e=.returned (.int .i64 d)∧Kept w w':=by
 have H:=gh h
 have HO:=gh ho
 have HX:=gh hx
 obtain ⟨q,hq⟩:∃ q,inTreeB s x=q:=⟨_,rfl⟩
 have HQ:=gh hq
 unfold depthB at e1
 rw [hq] at e1
 cases q with
 | false=>
  have HE:Hid (d=0):=gh (by rw [← e1];rfl)
  clear h ho hx hq e1
  go_enter Tryz.func48,Tryz.ntmps48
  go_wp2_with (fail)
  refine (isInTree_p _ b s x H.out HO.out HX.out false HQ.out).mono ?_
  rintro e W2 ⟨rfl,k2⟩
  have K2:=gh k2
  clear k2
  go_wp2
  go_ret
  exact ⟨by rw [HE.out];rfl,K2.out⟩
 | true=>
  have HE:Hid (levF s (fuel s) x=d):=gh e1
  have HFU:Hid (fuel s≤100000):=gh (by have:=ho.2;unfold fuel;omega)
  clear h ho hx hq e1
  go_enter Tryz.func48,Tryz.ntmps48
  go_wp2_with (fail)
  refine (isInTree_p _ b s x H.out HO.out HX.out true HQ.out).mono ?_
  rintro e W2 ⟨rfl,k2⟩
  have K2:=gh k2
  clear k2
  go_wp2_with (fail)
  refine (levels_p (fuel s) W2 b s x (H.out.kept K2.out) HO.out (inTree_wf HO.out HQ.out).1 HFU.out).mono ?_
  rw [HE.out]
  rintro e W3 ⟨rfl,k3⟩
  have K3:=gh (K2.out.trans k3)
  clear k3
  go_wp2
  go_ret
  exact ⟨rfl,K3.out⟩
end
section
def topK (s:Mst) (f:Nat) (L:List (Int × Int)):Int:=L.foldl (fun m p=>max m (levF s f (s.logicZ p.2))) 0
def topD (s:Mst) (f:Nat) (x:Int) (k:Nat):Int:=if k=0 then 0 else 1+topK s f ((slotsL s x).take k)
theorem topK_bound (s:Mst) (f:Nat) (L:List (Int × Int)):0≤topK s f L∧topK s f L≤f:=
 fold_max (fun p:Int × Int=>levF s f (s.logicZ p.2)) f (fun p=>levF_bound s f _) L 0 (by omega) (by omega)
theorem topD_step {s:Mst} {f:Nat} {x:Int} {k:Nat} {p:Int × Int} (h:(slotsL s x)[k]? = some p):topD s f x (k+1)=max (topD s f x k) (1+levF s f (s.logicZ p.2)):=by
 have e1:(slotsL s x).take (k+1)=(slotsL s x).take k++[p]:=by
  obtain ⟨h1,rfl⟩:=List.getElem?_eq_some_iff.1 h
  rw [List.take_succ_eq_append_getElem h1]
 have e2:topK s f ((slotsL s x).take (k+1))=max (topK s f ((slotsL s x).take k)) (levF s f (s.logicZ p.2)):=by
  rw [e1,topK,List.foldl_append];rfl
 have b1:=levF_bound s f (s.logicZ p.2)
 unfold topD
 rw [if_neg (by omega),e2]
 by_cases hk:k=0
 ·subst hk
  rw [if_pos rfl]
  have:topK s f ((slotsL s x).take 0)=0:=rfl
  rw [this];omega
 ·rw [if_neg hk];omega
def DepD (f:Nat):Prop:=∀ (w:World) (b:Nat) (s:Mst) (_:DM w b s) (_:s.ok) (x:Int) (_:Wf s f x),f≤100000→Calls Tryz.prog 98 #[.pointer (some ⟨b,0,none⟩),.int .i64 x] w fun e w'=>e=.returned (.int .i64 (levF s f x))∧w=w'
set_option maxHeartbeats 2000000 in
set_option maxRecDepth 20000 in
theorem dep_inner (f:Nat) (ih:DepD f) (w:World) (b:Nat) (s:Mst) (h:DM w b s) (ho:s.ok) (x:Int) (hw:Wf s (f+1) x) (k3:kd x=3) (hf:f≤99999) :
  Calls Tryz.prog 98 #[.pointer (some ⟨b,0,none⟩),.int .i64 x] w fun e w'=>e=.returned (.int .i64 (levF s (f+1) x))∧w=w':=by
 have e0:tgt s x=x:=by rw [tgt,if_neg (by rw [k3];decide)]
 obtain ⟨hwh,hwk⟩:=hw
 obtain ⟨p,hp⟩:∃ p,ad x=p:=⟨_,rfl⟩
 have pr:=ad_range x
 rw [hp] at pr
 obtain ⟨a,rfl⟩:∃ a:Nat,p=(a:Int):=⟨p.toNat,by omega⟩
 have a2:(a:Int)≤65536:=pr.2
 have hd:=hwh.deg (by rw [e0];exact k3)
 rw [e0,hp] at hd
 obtain ⟨d,hd'⟩:∃ d:Nat,s.look (a:Int)=(d:Int):=⟨(s.look a).toNat,by omega⟩
 rw [hd'] at hd
 obtain ⟨d2,d3⟩:=hd
 have eA:atN s x=a:=by unfold atN;rw [e0,hp];omega
 have eD:degN s x=d:=by unfold degN;rw [e0,hp,hd'];omega
 have HLA:Hid (∀ k,k < d→(slotsL s x)[k]? = some ((k:Int),childS a d k)):=gh (fun k hk=>by
  have:=slotsL_at (s:=s) (x:=x) (by rw [e0];exact k3) (k:=k) (by rw [eD];exact hk)
  rwa [eA,eD] at this)
 have HLL:Hid ((slotsL s x).length=d):=gh (by rw [slotsL_len (by rw [e0];exact k3),eD])
 have HE:Hid (levF s (f+1) x=topD s f x d):=gh (by
  rw [levF_succ,if_pos (by rw [e0];exact k3),topD,if_neg (by omega),List.take_of_length_le (by rw [HLL.out];omega)];rfl)
 have H:=gh h
 have HO:=gh ho
 have HX:=gh hwh.i64
 have HP:=gh hp
 have HD:=gh hd'
 have K3:=gh k3
 have IH:=gh ih
 have HWK:=gh hwk
 have HF:=gh hf
 clear h ho hwh hp hd' k3 ih hwk pr e0 eA eD
 go_enter Tryz.func98,Tryz.ntmps98
 go_wp2_with (fail)
 refine (ak_d _ x a HX.out HP.out).mono ?_
 rintro e w' ⟨rfl,rfl⟩
 go_wp2_with (fail)
 refine (kk_d _ x 3 HX.out K3.out).mono ?_
 rintro e w' ⟨rfl,rfl⟩
 go_wp2_with (fail)
 refine (lk_d _ b s a d H.out HD.out).mono ?_
 rintro e w' ⟨rfl,rfl⟩
 go_wp2
 go_loopw [6,8] (fun v i wr=>∃ (k:Nat) (y:Int),k≤d∧i=.int .i64 (k:Int)∧v=.int .i64 y∧Hid (y=topD s f x k)∧wr=w) (fun _ i _=>d - (intOf i).toNat)
 case atStart=>exact ⟨0,0,by omega,by simp,rfl,gh rfl,rfl⟩
 case round=>
  obtain ⟨k,y,hk,rfl,rfl,HY,rfl⟩:=hrel
  by_cases hkn:k < d
  ·have j1:(k:Int) < (d:Int):=by omega
   have hcz:=gh (childZ_in (n:=a) (d:=(d:Int)) (i:=k) (by omega) (by omega) (by omega) (by omega) (by omega) (by omega))
   obtain ⟨sl,hsl⟩:∃ sl,(a:Int)+4+(d:Int)+k=sl:=⟨_,rfl⟩
   rw [hsl] at hcz
   obtain ⟨z,hz⟩:∃ z,s.logicZ sl=z:=⟨_,rfl⟩
   have HZ:=gh hz
   have hat:=HLA.out k hkn
   have hat':(slotsL s x)[k]? = some ((k:Int),sl):=by rw [hat];unfold childS;rw [hsl]
   have hwf:Wf s f z:=by
    have:=HWK.out ((k:Int),sl) (List.mem_of_getElem? hat')
    rwa [hz] at this
   have HWF:=gh hwf
   obtain ⟨q,hq⟩:∃ q,levF s f z=q:=⟨_,rfl⟩
   have q0:=levF_bound s f z
   rw [hq] at q0
   have q1:0≤q∧q≤99999:=by have:=HF.out;omega
   have HNX:Hid (max y (1+q)=topD s f x (k+1)):=gh (by rw [topD_step hat',← HY.out,hz,hq])
   have HQ:=gh hq
   clear hz hat hat' hwf hq hsl q0
   go_wp2_with (fail)
   refine (child_r _ a d k sl hcz.out).mono ?_
   rintro e w' ⟨rfl,rfl⟩
   go_wp2_with (fail)
   refine (logic_d _ b s sl z H.out HO.out HZ.out).mono ?_
   rintro e w' ⟨rfl,rfl⟩
   go_wp2_with (fail)
   refine (IH.out _ b s H.out HO.out z HWF.out (by have:=HF.out;omega)).mono ?_
   rintro e w' ⟨rfl,rfl⟩
   rw [HQ.out]
   go_wp2
   exact ⟨⟨k+1,max y (1+q),by omega,by simp,by first | rfl | (congr 1;omega) | simp,HNX,by first | rfl | trivial⟩,by simp [intOf];omega⟩
  ·have hkn':k=d:=by omega
   subst hkn'
   have j1:¬ ((k:Int) < (k:Int)):=by omega
   go_wp2
   go_ret
   exact ⟨congrArg (fun z=>Ending.returned (.int .i64 z)) (HY.out.trans HE.out.symm),rfl⟩
set_option maxHeartbeats 1000000 in
theorem dep_d:∀ f,DepD f
 | 0=>fun _ _ _ _ _ _ h _=>h.elim
 | f+1=>by
  have ih:=dep_d f
  intro w b s h ho x hw hf
  obtain ⟨k,hk⟩:∃ k,kd x=k:=⟨_,rfl⟩
  by_cases k3:k=3
  ·exact dep_inner f ih w b s h ho x hw (by rw [hk,k3]) (by omega)
  obtain ⟨p,hp⟩:∃ p,ad x=p:=⟨_,rfl⟩
  have H:=gh h
  have HX:=gh hw.1.i64
  have HP:=gh hp
  have HK:=gh hk
  by_cases k4:k=4
  ·have h3:=hw.1.tg (by rw [hk];exact k4)
   have e0:tgt s x=s.look p:=by rw [tgt,if_pos (by rw [hk];exact k4),hp]
   obtain ⟨z,hz⟩:∃ z,s.look p=z:=⟨_,rfl⟩
   have HZ:=gh hz
   have hw2:=hw.down ho h3
   rw [e0,hz] at hw2 h3
   have ez:tgt s z=z:=by rw [tgt,if_neg (by rw [h3];decide)]
   have esl:slotsL s z=slotsL s x:=by
    unfold slotsL atN degN
    rw [ez,e0,hz]
   have HE:Hid (levF s (f+1) x=levF s (f+1) z):=gh (by
    rw [levF_succ,levF_succ,if_pos (by rw [e0,hz];exact h3),if_pos (by rw [ez];exact h3),esl])
   have HS:Hid (Calls Tryz.prog 98 #[.pointer (some ⟨b,0,none⟩),.int .i64 z] w fun e w'=>e=.returned (.int .i64 (levF s (f+1) z))∧w=w'):=gh (dep_inner f ih w b s h ho z hw2 h3 (by omega))
   subst k4
   clear h ho hw hk hp hz e0 h3 hw2 ih k3 ez esl hf
   go_enter Tryz.func98,Tryz.ntmps98
   go_wp2_with (fail)
   refine (ak_d _ x p HX.out HP.out).mono ?_
   rintro e w' ⟨rfl,rfl⟩
   go_wp2_with (fail)
   refine (kk_d _ x 4 HX.out HK.out).mono ?_
   rintro e w' ⟨rfl,rfl⟩
   go_wp2_with (fail)
   refine (lk_d _ b s p z H.out HZ.out).mono ?_
   rintro e w' ⟨rfl,rfl⟩
   go_wp2_with (fail)
   refine HS.out.mono ?_
   rintro e w' ⟨rfl,rfl⟩
   go_wp2
   go_ret
   exact ⟨congrArg (fun z=>Ending.returned (.int .i64 z)) HE.out.symm,rfl⟩
  ·have HE:Hid (levF s (f+1) x=0):=gh (by rw [levF_succ,if_neg];rw [tgt,if_neg (by rw [hk];exact k4),hk];exact k3)
   have g1:(k == 4)=false:=by simp [k4]
   have g2:(k == 3)=false:=by simp [k3]
   clear h ho hw hk hp ih k3 k4 hf
   go_enter Tryz.func98,Tryz.ntmps98
   go_wp2_with (fail)
   refine (ak_d _ x p HX.out HP.out).mono ?_
   rintro e w' ⟨rfl,rfl⟩
   go_wp2_with (fail)
   refine (kk_d _ x k HX.out HK.out).mono ?_
   rintro e w' ⟨rfl,rfl⟩
   go_wp2
   go_ret
   exact ⟨congrArg (fun z=>Ending.returned (.int .i64 z)) HE.out.symm,rfl⟩
end
section
theorem depthD_d (w:World) (b:Nat) (s:Mst) (x:Int) (h:DM w b s) (ho:s.ok) (d:Int) (e1:depthB s x=d) :
  Calls Tryz.prog 49 #[.pointer (some ⟨b,0,none⟩),.int .i64 x] w fun e w'=>e=.returned (.int .i64 d)∧Kept w w':=by
 have H:=gh h
 have HO:=gh ho
 obtain ⟨q,hq⟩:∃ q,inTreeB s x=q:=⟨_,rfl⟩
 have HQ:=gh hq
 unfold depthB at e1
 rw [hq] at e1
 cases q with
 | false=>
  have HE:Hid (d=0):=gh (by rw [← e1];rfl)
  clear h ho hq e1
  go_enter Tryz.func49,Tryz.ntmps49
  go_wp2_with (fail)
  refine (inTree_d w b s H.out HO.out x false HQ.out).mono ?_
  rintro e W1 ⟨rfl,k1⟩
  have K1:=gh k1
  clear k1
  go_wp2
  go_ret
  exact ⟨congrArg (fun z=>Ending.returned (.int .i64 z)) HE.out.symm,K1.out⟩
 | true=>
  have HE:Hid (levF s (fuel s) x=d):=gh (by rw [← e1];rfl)
  have HW:=gh (inTree_wf ho hq).1
  have HF:Hid (fuel s≤100000):=gh (by have:=ho.2;unfold fuel;omega)
  clear h ho hq e1
  go_enter Tryz.func49,Tryz.ntmps49
  go_wp2_with (fail)
  refine (inTree_d w b s H.out HO.out x true HQ.out).mono ?_
  rintro e W1 ⟨rfl,k1⟩
  have K1:=gh k1
  clear k1
  go_wp2_with (fail)
  refine (dep_d _ W1 b s (H.out.kept K1.out) HO.out x HW.out HF.out).mono ?_
  rintro e w' ⟨rfl,rfl⟩
  rw [HE.out]
  go_wp2
  go_ret
  exact ⟨rfl,K1.out⟩
theorem contentD_d (w:World) (b:Nat) (s:Mst) (x:Int) (h:DM w b s) (ho:s.ok) (xs:List (Int × Int)) (e1:contentB s x=xs) :
  Calls Tryz.prog 47 #[.pointer (some ⟨b,0,none⟩),.int .i64 x] w (PSliced 59 xs w):=by
 have H:=gh h
 have HO:=gh ho
 obtain ⟨q,hq⟩:∃ q,inTreeB s x=q:=⟨_,rfl⟩
 have HQ:=gh hq
 unfold contentB at e1
 rw [hq] at e1
 cases q with
 | false=>
  have HE:Hid (xs=[]):=gh (by rw [← e1];rfl)
  clear h ho hq e1
  go_enter Tryz.func47,Tryz.ntmps47
  go_wp2_with (fail)
  refine (inTree_d w b s H.out HO.out x false HQ.out).mono ?_
  rintro e W1 ⟨rfl,k1⟩
  have K1:=gh k1
  clear k1
  go_wp2
  go_ret
  exact ⟨_,rfl,by rw [HE.out];exact PRow.nil _ _ _,K1.out⟩
 | true=>
  have HE:Hid (pairsF s (fuel s) x=xs):=gh (by rw [← e1];rfl)
  have HW:=gh (inTree_wf ho hq).1
  have HL:=gh (inTree_wf ho hq).2
  clear h ho hq e1
  go_enter Tryz.func47,Tryz.ntmps47
  go_wp2_with (fail)
  refine (inTree_d w b s H.out HO.out x true HQ.out).mono ?_
  rintro e W1 ⟨rfl,k1⟩
  have K1:=gh k1
  clear k1
  go_wp2_with (fail)
  refine (cont_d _ W1 b s (H.out.kept K1.out) HO.out x HW.out HL.out).mono ?_
  rw [HE.out]
  rintro e W2 ⟨v,rfl,r2,k2⟩
  have R2:Hid (PRow W2 w.heap.size 59 v xs):=gh (r2.low K1.out.size)
  have K2:=gh (K1.out.trans k2)
  clear r2 k2
  go_wp2
  go_ret
  exact ⟨_,rfl,R2.out,K2.out⟩
end
section
theorem of17_c (w:World):Calls Tryz.prog 109 #[.int .i64 1,.int .i64 7] w fun e w'=>e=.returned (.int .i64 57)∧w=w':=by
 go_enter Tryz.func109,Tryz.ntmps109
 go_wp2
 go_ret
 exact ⟨rfl,rfl⟩
theorem Fresh.form {zs:List Int} {w W:World} {e:Ending} (h:Fresh zs w e W):∃ a cap,e=.returned (.slice a zs.length cap)∧Reads W a zs∧zs.length≤cap∧cap≤maxLen∧(∀ ad,a=some ad→w.heap.size≤ad.block)∧Row W w.heap.size 2 (.slice a zs.length cap) zs∧Kept w W:=by
 obtain ⟨v,rfl,hrow,hk⟩:=h
 have hr:=hrow
 rcases hr.2 with ⟨rfl,h0⟩ | ⟨g,cap,cur,rfl,hg,_,hc,hm,_⟩
 ·obtain rfl:=List.length_eq_zero_iff.1 h0
  exact ⟨none,0,rfl,.inl rfl,Nat.le_refl _,Nat.zero_le _,(fun _ e=>by cases e),hrow,hk⟩
 ·obtain ⟨a,cap',e1,h1,_⟩:=hrow.reads
  cases e1
  exact ⟨_,_,rfl,h1,hc,hm,(fun _ e=>by cases e;exact hg),hrow,hk⟩
def begun (s:Mst):Mst:={ s with xs:=[1,0,0,0,0,57,0],count:=wrap64 (wrap64 (s.count+1)+1) }
theorem begun_make {s:Mst} (h0:s.xs=[]) (h7:7≤s.size):s.next [1,0,0,0,0,57]=1∧s.fits 6=true∧s.make [1,0,0,0,0,57]={ s with xs:=[1,0,0,0,0,57],count:=wrap64 (s.count+1) }:=by
 have h6:(6:Int)≤s.size:=by omega
 have hf:s.fits 6=true:=by simp [Mst.fits,h0,h6]
 refine ⟨?_,hf,?_⟩
 ·rw [Mst.next]
  rw [if_pos (by exact hf),h0]
  rfl
 ·rw [Mst.make]
  rw [if_pos (by exact hf),h0]
  rfl
theorem begun_make2 {s:Mst} (h7:7≤s.size):({ s with xs:=[1,0,0,0,0,57],count:=wrap64 (s.count+1) }:Mst).next [0]=7∧({ s with xs:=[1,0,0,0,0,57],count:=wrap64 (s.count+1) }:Mst).fits 1=true∧({ s with xs:=[1,0,0,0,0,57],count:=wrap64 (s.count+1) }:Mst).make [0]=begun s:=by
 have hf:({ s with xs:=[1,0,0,0,0,57],count:=wrap64 (s.count+1) }:Mst).fits 1=true:=by simp [Mst.fits,h7]
 refine ⟨?_,hf,?_⟩
 ·rw [Mst.next]
  rw [if_pos (by exact hf)]
  rfl
 ·rw [Mst.make]
  rw [if_pos (by exact hf)]
  rfl
set_option maxRecDepth 100000 in
theorem begin_c (w W:World) (b:Nat) (s:Mst) (h:Now w W b s) (h0:s.xs=[]) (h7:7≤s.size) :
  Calls Tryz.prog 66 #[.pointer (some ⟨b,0,none⟩)] W fun e W'=>e=.returned (.bool true)∧Now w W' b (begun s):=by
 have H:=gh h
 have B1:=gh (begun_make h0 h7)
 have B2:=gh (begun_make2 h7)
 have HU:Hid ((s.xs.length:Int)=0):=gh (by rw [h0];rfl)
 clear h h0
 go_enter Tryz.func66,Tryz.ntmps66
 go_wp2_with (fail)
 refine (now_used w W b s 0 H.out HU.out).mono ?_
 rintro e w' ⟨rfl,rfl⟩
 go_wp2_with (fail)
 refine (now_size w W b s s.size H.out rfl).mono ?_
 rintro e w' ⟨rfl,rfl⟩
 go_wp2_with (fail)
 refine (of17_c W).mono ?_
 rintro e w' ⟨rfl,rfl⟩
 go_wp2_with (fail)
 refine (inner_c (W.alloc (.cells #[.int .i64 57] 2)) 0 none [] 0 (some ⟨W.heap.size,0,none⟩) [57] 1 (.inl rfl) (Reads.new W 2 [57]) (fun _=>rfl) (fun e=>by cases e) rfl (by decide)).mono ?_
 intro e W1 hf
 obtain ⟨a1,cap1,rfl,hr,hc,hm,ha,-,hk⟩:=hf.form
 have H1:=gh (H.out.on ((Td.alloc (fun _=>False) W _).trans hk (fun _ e=>e) (fun _ _ e=>e)))
 have HR:=gh hr
 have HA:Hid (∀ ad,a1=some ad→ad.block≠b):=gh (fun ad e=>by
  have e1:=ha ad e
  have e2:=H.out.lt.2
  simp at e1
  omega)
 clear hf hr hc hm ha hk H
 go_wp2_with (fail)
 refine (now_make w W1 b s a1 (innerL 0 [] [57]) cap1 1 true _ H1.out HR.out (by decide) (fun _=>HA.out) B1.out.1 B1.out.2.1 B1.out.2.2).mono ?_
 rintro e W2 ⟨rfl,h2⟩
 have H2:=gh h2
 clear h2 H1 HR HA B1
 go_wp2_with (fail)
 refine (empty_c W2).mono ?_
 intro e W3 hf
 obtain ⟨a1,cap1,rfl,hr,hc,hm,ha,-,hk⟩:=hf.form
 have H3:=gh (H2.out.on hk)
 have HR:=gh hr
 have HA:Hid (∀ ad,a1=some ad→ad.block≠b):=gh (fun ad e=>by
  have e1:=ha ad e
  have e2:=H2.out.lt.2
  omega)
 clear hf hr hc hm ha hk H2
 go_wp2_with (fail)
 refine (now_make w W3 b _ a1 [0] cap1 7 true _ H3.out HR.out (by decide) (fun _=>HA.out) B2.out.1 B2.out.2.1 B2.out.2.2).mono ?_
 rintro e W4 ⟨rfl,h4⟩
 have H4:=gh h4
 clear h4 H3 HR HA B2
 go_wp2
 go_ret
 exact ⟨rfl,H4.out⟩
end
section
theorem pairs_same (W:World) (a b:Option Addr) (xs:List (Int × Int)) (M ca cb:Nat) (hM:xs.length=M) (ha:PReads W a xs) (hb:PReads W b xs) (h1:M≤ca) (h2:M≤cb) (hl:M≤1000000) :
  Calls Tryz.prog 45 #[.slice a M ca,.slice b M cb] W fun e w'=>e=.returned (.bool true)∧Kept W w':=by
 have HA:=gh ha
 have HB:=gh hb
 have HM:=gh hM
 clear ha hb hM
 go_enter Tryz.func45,Tryz.ntmps45
 go_wp2
 go_loopw [5] (fun i wr=>∃ k d:Nat,k≤M∧i=.int .i64 (k:Int)∧wr=W.drewN d) (fun i _=>M - (intOf i).toNat)
 case atStart=>exact ⟨0,0,by omega,by simp,rfl⟩
 case round=>
  obtain ⟨k,d,hk,rfl,rfl⟩:=hrel
  by_cases hkm:k < M
  ·obtain ⟨⟨x,y⟩,hp⟩:∃ p,xs[k]? = some p:=⟨_,List.getElem?_eq_getElem (by rw [HM.out];exact hkm)⟩
   obtain ⟨bl,off,rfl,_,p0,p1⟩:=HA.out.at hp
   obtain ⟨bl',off',rfl,_,q0,q1⟩:=HB.out.at hp
   have c0:W.cell? ⟨bl,off+k * 2,none⟩=some (.int .i64 x):=p0
   have c1:W.cell? ⟨bl,off+k * 2+1,none⟩=some (.int .i64 y):=p1
   have d0:W.cell? ⟨bl',off' + k * 2,none⟩=some (.int .i64 x):=q0
   have d1:W.cell? ⟨bl',off' + k * 2+1,none⟩=some (.int .i64 y):=q1
   have j1:(k:Int) < (M:Int):=by omega
   have j2:k < ca:=by omega
   have j3:k < cb:=by omega
   clear p0 p1 q0 q1 hp
   go_wp2
   go_quiet (fail)
   go_wp2
   exact ⟨⟨k+1,_,by omega,by simp,rfl⟩,by simp [intOf];omega⟩
  ·have hkm':k=M:=by omega
   subst hkm'
   have j1:¬ ((k:Int) < (k:Int)):=by omega
   go_wp2
   go_ret
   exact ⟨rfl,Kept.drewN _ _⟩
end
section
variable {X:Nat→Prop}
structure Ak where
 k:Int
 a:Int
 x:Int
 y:Int
 w:List Int
structure Rn where
 tape:List Int
 pos:Nat
 off:Bool
 nx:Ak
 rc:Int
 ld:Int
namespace Rn
def ask (s:Rn) (q:Ak):Int × Rn:=if s.off=true then (0,s) else if s.pos < s.tape.length then (s.tape.getD s.pos 0,{ s with pos:=s.pos+1 }) else (0,{ s with off:=true,nx:=q })
def left (s:Rn):Nat:=(s.tape.length - s.pos)+(if s.off=true then 0 else 1)
theorem ask_left {s:Rn} (q:Ak) (h:s.off=false):(s.ask q).2.left < s.left:=by
 unfold ask left
 rw [h]
 simp only [Bool.false_eq_true,if_false]
 split
 ·dsimp only;simp only [Bool.false_eq_true,if_false];omega
 ·dsimp only;simp only [if_true];omega
theorem ask_off {s:Rn} (q:Ak) (h:s.off=true):s.ask q=(0,s):=by unfold ask;rw [if_pos h]
theorem ask_le (s:Rn) (q:Ak):(s.ask q).2.left≤s.left:=by
 cases h:s.off with
 | true=>rw [ask_off q h];exact Nat.le_refl _
 | false=>exact Nat.le_of_lt (ask_left q h)
theorem ask_tape (s:Rn) (q:Ak):(s.ask q).2.tape=s.tape:=by unfold ask;split <;> first | rfl | split <;> rfl
theorem ask_i64 {s:Rn} (q:Ak) (h:∀ z ∈ s.tape,I64 z):I64 (s.ask q).1:=by
 unfold ask
 split
 ·exact (⟨by decide,by decide⟩:I64 0)
 ·split
  ·rename_i hl
   rw [List.getD_eq_getElem?_getD,List.getElem?_eq_getElem hl]
   exact h _ (List.getElem_mem hl)
  ·exact (⟨by decide,by decide⟩:I64 0)
def read (s:Rn) (a:Int):Int × Rn:=s.ask ⟨1,a,0,0,[]⟩
def write (s:Rn) (a x:Int):Rn:=(s.ask ⟨2,a,x,0,[]⟩).2
def cas (s:Rn) (a old x:Int):Bool × Rn:=((s.ask ⟨3,a,old,x,[]⟩).1 == 1,(s.ask ⟨3,a,old,x,[]⟩).2)
def add (s:Rn) (a d:Int):Int × Rn:=s.ask ⟨4,a,d,0,[]⟩
def make (s:Rn) (w:List Int):Int × Rn:=s.ask ⟨5,0,0,0,w⟩
end Rn
def runCells (s:Rn) (ta:Option Addr) (tc:Nat) (wa:Option Addr) (wc:Nat):Array Value:=#[.slice ta s.tape.length tc,.int .i64 (s.pos:Int),.bool s.off,.int .i64 s.nx.k,.int .i64 s.nx.a,.int .i64 s.nx.x,.int .i64 s.nx.y,.slice wa s.nx.w.length wc,.int .i64 s.rc,.int .i64 s.ld]
structure Far (X:Nat→Prop) (w:World) (r:Nat) (a:Option Addr) (zs:List Int):Prop where
 reads:Reads w a zs
 ne:∀ ad,a=some ad→(X ad.block∧ad.block < w.heap.size)∧ad.block≠r
 short:zs.length≤maxLen
theorem Far.turned {w w':World} {r:Nat} {a:Option Addr} {zs:List Int} (h:Far X w r a zs) (t:Td (fun k=>k=r) w w'):Far X w' r a zs:=
 ⟨h.reads.turned t (fun k _ ⟨ad,e,e'⟩ hk=>(h.ne ad e).2 (by rw [e',hk])),fun ad e=>⟨⟨(h.ne ad e).1.1,Nat.lt_of_lt_of_le (h.ne ad e).1.2 t.size⟩,(h.ne ad e).2⟩,h.short⟩
theorem Far.kept {w w':World} {r:Nat} {a:Option Addr} {zs:List Int} (h:Far X w r a zs) (t:Kept w w'):Far X w' r a zs:=h.turned (t.mono fun _ _ e=>e.elim)
theorem Far.none (w:World) (r:Nat):Far X w r .none []:=⟨.inl rfl,(fun _ e=>by cases e),by simp⟩
structure RunIs (X:Nat→Prop) (w:World) (r:Nat) (s:Rn) (ta:Option Addr) (tc:Nat) (wa:Option Addr) (wc:Nat):Prop where
 box:w.heap[r]? = some (.cells (runCells s ta tc wa wc) 136)
 tape:Far X w r ta s.tape
 cap:s.tape.length≤tc
 next:Far X w r wa s.nx.w
 at_le:s.pos≤s.tape.length
 len:s.tape.length≤1000000
 own:X r
def RunAt (X:Nat→Prop) (w:World) (r:Nat) (s:Rn):Prop:=∃ ta tc wa wc,RunIs X w r s ta tc wa wc
theorem RunIs.kept {w w':World} {r:Nat} {s:Rn} {ta wa:Option Addr} {tc wc:Nat} (h:RunIs X w r s ta tc wa wc) (t:Kept w w'):RunIs X w' r s ta tc wa wc:=
 ⟨t.heap h.box id,h.tape.kept t,h.cap,h.next.kept t,h.at_le,h.len,h.own⟩
theorem RunAt.kept {w w':World} {r:Nat} {s:Rn} (h:RunAt X w r s) (t:Kept w w'):RunAt X w' r s:=by
 obtain ⟨ta,tc,wa,wc,h⟩:=h
 exact ⟨ta,tc,wa,wc,h.kept t⟩
theorem RunAt.to {Y:Nat→Prop} {w:World} {r:Nat} {s:Rn} (h:RunAt X w r s) (hY:∀ k,X k→k < w.heap.size→Y k):RunAt Y w r s:=by
 obtain ⟨ta,tc,wa,wc,h⟩:=h
 exact ⟨ta,tc,wa,wc,h.box,⟨h.tape.reads,fun ad e=>⟨⟨hY _ (h.tape.ne ad e).1.1 (h.tape.ne ad e).1.2,(h.tape.ne ad e).1.2⟩,(h.tape.ne ad e).2⟩,h.tape.short⟩,h.cap,⟨h.next.reads,fun ad e=>⟨⟨hY _ (h.next.ne ad e).1.1 (h.next.ne ad e).1.2,(h.next.ne ad e).1.2⟩,(h.next.ne ad e).2⟩,h.next.short⟩,h.at_le,h.len,hY r h.own (Array.getElem?_eq_some_iff.1 h.box).1⟩
theorem RunAt.above {R:Nat→Prop} {w w':World} {r:Nat} {s:Rn} (h:RunAt X w r s) (t:Td R w w') (hR:∀ k,X k→¬ R k):RunAt X w' r s:=by
 obtain ⟨ta,tc,wa,wc,h⟩:=h
 refine ⟨ta,tc,wa,wc,t.heap h.box (hR r h.own),⟨h.tape.reads.turned t (fun k _ ⟨ad,e,e'⟩ hk=>?_),fun ad e=>⟨⟨(h.tape.ne ad e).1.1,Nat.lt_of_lt_of_le (h.tape.ne ad e).1.2 t.size⟩,(h.tape.ne ad e).2⟩,h.tape.short⟩,h.cap,⟨h.next.reads.turned t (fun k _ ⟨ad,e,e'⟩ hk=>?_),fun ad e=>⟨⟨(h.next.ne ad e).1.1,Nat.lt_of_lt_of_le (h.next.ne ad e).1.2 t.size⟩,(h.next.ne ad e).2⟩,h.next.short⟩,h.at_le,h.len,h.own⟩
 ·exact hR k (e' ▸ (h.tape.ne ad e).1.1) hk
 ·exact hR k (e' ▸ (h.next.ne ad e).1.1) hk
theorem RunIs.cells {w:World} {r:Nat} {s:Rn} {ta wa:Option Addr} {tc wc:Nat} (h:RunIs X w r s ta tc wa wc):w.cell? ⟨r,0,none⟩=some (.slice ta s.tape.length tc)∧w.cell? ⟨r,1,none⟩=some (.int .i64 (s.pos:Int))∧w.cell? ⟨r,2,none⟩=some (.bool s.off)∧w.cell? ⟨r,8,none⟩=some (.int .i64 s.rc)∧w.cell? ⟨r,9,none⟩=some (.int .i64 s.ld)∧∀ i,w.frozen? ⟨r,i,none⟩=false:=by
 have hb:=h.box
 simp [World.cell?,World.frozen?,hb,runCells]
theorem RunIs.nexts {w:World} {r:Nat} {s:Rn} {ta wa:Option Addr} {tc wc:Nat} (h:RunIs X w r s ta tc wa wc):w.cell? ⟨r,3,none⟩=some (.int .i64 s.nx.k)∧w.cell? ⟨r,4,none⟩=some (.int .i64 s.nx.a)∧w.cell? ⟨r,5,none⟩=some (.int .i64 s.nx.x)∧w.cell? ⟨r,6,none⟩=some (.int .i64 s.nx.y)∧w.cell? ⟨r,7,none⟩=some (.slice wa s.nx.w.length wc):=by
 have hb:=h.box
 simp [World.cell?,hb,runCells]
theorem RunIs.put {w w':World} {r:Nat} {s s':Rn} {ta wa wa':Option Addr} {tc wc wc':Nat} (h:RunIs X w r s ta tc wa wc) (t:Td (fun k=>k=r) w w') (hb:w'.heap[r]? = some (.cells (runCells s' ta tc wa' wc') 136)) (e1:s'.tape=s.tape) (e2:s'.pos≤s.tape.length) (hn:Far X w' r wa' s'.nx.w):RunIs X w' r s' ta tc wa' wc':=
 ⟨hb,by rw [e1];exact h.tape.turned t,by rw [e1];exact h.cap,hn,by rw [e1];exact e2,by rw [e1];exact h.len,h.own⟩
def Ran (X:Nat→Prop) (W:World) (r:Nat) (s':Rn) (W':World):Prop:=RunAt X W' r s'∧Td (fun k=>k=r) W W'
set_option maxHeartbeats 1000000 in
theorem ask_c (W:World) (r:Nat) (s:Rn) (q:Ak) (h:RunAt X W r s) (qa:Option Addr) (qn qc:Nat) (hqn:q.w.length=qn) (hq:Far X W r qa q.w) (z:Int) (s':Rn) (e1:s.ask q=(z,s')) :
  Calls Tryz.prog 205 #[.pointer (some ⟨r,0,none⟩),.agg #[.int .i64 q.k,.int .i64 q.a,.int .i64 q.x,.int .i64 q.y,.slice qa qn qc]] W fun e W'=>e=.returned (.int .i64 z)∧Ran X W r s' W':=by
 obtain ⟨ta,tc,wa,wc,h⟩:=h
 obtain ⟨W1,hW1⟩:∃ W1,W.alloc (.cells #[.int .i64 q.k,.int .i64 q.a,.int .i64 q.x,.int .i64 q.y,.slice qa qn qc] 134)=W1:=⟨_,rfl⟩
 obtain ⟨m,hm⟩:∃ m,W.heap.size=m:=⟨_,rfl⟩
 have k1:Kept W W1:=by rw [← hW1];exact (Kept.refl W).alloc _
 have bq:W1.heap[m]? = some (.cells #[.int .i64 q.k,.int .i64 q.a,.int .i64 q.x,.int .i64 q.y,.slice qa qn qc] 134):=by rw [← hW1,← hm];exact heap_new _ _
 have rm:r≠m:=by
  have:=(Array.getElem?_eq_some_iff.1 h.box).1
  omega
 have q0:W1.cell? ⟨m,0,none⟩=some (.int .i64 q.k):=by simp [World.cell?,bq]
 have q1:W1.cell? ⟨m,1,none⟩=some (.int .i64 q.a):=by simp [World.cell?,bq]
 have q2:W1.cell? ⟨m,2,none⟩=some (.int .i64 q.x):=by simp [World.cell?,bq]
 have q3:W1.cell? ⟨m,3,none⟩=some (.int .i64 q.y):=by simp [World.cell?,bq]
 have q4:W1.cell? ⟨m,4,none⟩=some (.slice qa qn qc):=by simp [World.cell?,bq]
 have h1:=h.kept k1
 obtain ⟨c0,c1,c2,_,_,f⟩:=h1.cells
 have f1:=f 1
 have f2:=f 2
 have f3:=f 3
 have f4:=f 4
 have f5:=f 5
 have f6:=f 6
 have f7:=f 7
 have HQF:=gh (hq.kept k1)
 have hT:=h.at_le
 have hL:=h.len
 have hC:=h.cap
 have H1:=gh h1
 have K1:=gh k1
 obtain ⟨T,hTT⟩:∃ T,s.tape.length=T:=⟨_,rfl⟩
 have HT:=gh hTT
 rw [hTT] at c0 hT hL hC
 obtain ⟨n,hn⟩:∃ n,s.pos=n:=⟨_,rfl⟩
 have HN:=gh hn
 rw [hn] at c1 hT
 cases ho:s.off with
 | true=>
  have HE:Hid (z=0∧s'=s):=gh (by rw [Rn.ask_off q ho] at e1;cases e1;exact ⟨rfl,rfl⟩)
  rw [ho] at c2
  clear h h1 k1 hq e1 hqn f ho hTT hn
  go_enter Tryz.func205,Tryz.ntmps205
  go_wp2
  go_ret
  exact ⟨by rw [HE.out.1];rfl,by rw [HE.out.2];exact ⟨⟨ta,tc,wa,wc,H1.out⟩,K1.out.mono fun _ _ h=>h.elim⟩⟩
 | false=>
  rw [ho] at c2
  have c2':Hid (s.off=false):=gh ho
  by_cases hlt:n < T
  ·obtain ⟨y,hy⟩:∃ y,s.tape[n]? = some y:=⟨_,List.getElem?_eq_getElem (by rw [hTT];exact hlt)⟩
   have HE:Hid (z=y∧s'={ s with pos:=n+1,off:=false }):=gh (by
    unfold Rn.ask at e1
    rw [ho,hn] at e1
    simp only [Bool.false_eq_true,if_false] at e1
    rw [if_pos (by rw [hTT];exact hlt),List.getD_eq_getElem?_getD,hy] at e1
    cases e1
    exact ⟨rfl,rfl⟩)
   obtain ⟨bl,off,rfl,_,cy⟩:=h1.tape.reads.at hy
   have cy':W1.cell? ⟨bl,off+n,none⟩=some (.int .i64 y):=cy
   have hbr:bl≠r:=(h1.tape.ne _ rfl).2
   have i1:(n:Int) < (T:Int):=by omega
   have i2:(n:Int)+1 - 1=(n:Int):=by omega
   have i3:n < tc:=by omega
   clear h h1 k1 hq e1 hqn f ho hTT hn cy hy
   go_enter Tryz.func205,Tryz.ntmps205
   go_wp2
   go_quiet (fail)
   go_wp2
   go_quiet (fail)
   go_wp2
   go_ret
   refine ⟨by rw [HE.out.1];rfl,?_⟩
   rw [HE.out.2]
   have T1:∀ (a b:Nat),Td (fun k=>k=r) W1 (((W1.drewN a).setCell ⟨r,1,none⟩ (.int .i64 ((n:Int)+1))).drewN b):=fun a b=>(Td.drewN (fun _=>False) W1 a).trans ((Td.setCell (R:=fun k=>k=r) _ _ _ rfl).trans (Td.drewN (fun k=>k=r) _ b) (fun _ e=>e) (fun _ _ e=>e)) (fun _ e=>e.elim) (fun _ _ e=>e)
   refine ⟨⟨some ⟨bl,off,none⟩,tc,wa,wc,H1.out.put (T1 _ _) ?_ rfl (by have:=HT.out;show n+1≤s.tape.length;omega) (H1.out.next.turned (T1 _ _))⟩,Kept.then K1.out (T1 _ _)⟩
   have hb:=H1.out.box
   simp [World.setCell,World.drewN,Array.getElem?_modify,hb,runCells,c2'.out]
  ·have HE:Hid (z=0∧s'={ s with pos:=n,off:=true,nx:=q }):=gh (by
    unfold Rn.ask at e1
    rw [ho,hn] at e1
    simp only [Bool.false_eq_true,if_false] at e1
    rw [if_neg (by rw [hTT];exact hlt)] at e1
    cases e1
    exact ⟨rfl,rfl⟩)
   have i1:¬ ((n:Int) < (T:Int)):=by omega
   have i1n:decide (n < T)=false:=by simp;omega
   have o0:∀ (k i:Nat),((W1.drewN k).setCell ⟨r,2,none⟩ (.bool true)).cell? ⟨m,i,none⟩=W1.cell? ⟨m,i,none⟩:=fun k i=>World.cell?_setCell_other (W1.drewN k) ⟨r,2,none⟩ ⟨m,i,none⟩ (.bool true) (by simp)
   have g0:∀ k,((W1.drewN k).setCell ⟨r,2,none⟩ (.bool true)).cell? ⟨m,0,none⟩=some (.int .i64 q.k):=fun k=>(o0 k 0).trans q0
   have g1:∀ k,((W1.drewN k).setCell ⟨r,2,none⟩ (.bool true)).cell? ⟨m,1,none⟩=some (.int .i64 q.a):=fun k=>(o0 k 1).trans q1
   have g2:∀ k,((W1.drewN k).setCell ⟨r,2,none⟩ (.bool true)).cell? ⟨m,2,none⟩=some (.int .i64 q.x):=fun k=>(o0 k 2).trans q2
   have g3:∀ k,((W1.drewN k).setCell ⟨r,2,none⟩ (.bool true)).cell? ⟨m,3,none⟩=some (.int .i64 q.y):=fun k=>(o0 k 3).trans q3
   have g4:∀ k,((W1.drewN k).setCell ⟨r,2,none⟩ (.bool true)).cell? ⟨m,4,none⟩=some (.slice qa qn qc):=fun k=>(o0 k 4).trans q4
   obtain ⟨c3,c4,c5,c6,c7⟩:=h1.nexts
   clear h h1 k1 hq e1 f ho hTT hn hlt q0 q1 q2 q3 q4 bq o0
   go_enter Tryz.func205,Tryz.ntmps205
   go_wp2
   go_quiet (fail)
   go_wp2
   go_ret
   refine ⟨by rw [HE.out.1];rfl,?_⟩
   rw [HE.out.2]
   have T1:∀ (a:Nat),Td (fun k=>k=r) W1 (((((((W1.drewN a).setCell ⟨r,2,none⟩ (.bool true)).setCell ⟨r,3,none⟩ (.int .i64 q.k)).setCell ⟨r,4,none⟩ (.int .i64 q.a)).setCell ⟨r,5,none⟩ (.int .i64 q.x)).setCell ⟨r,6,none⟩ (.int .i64 q.y)).setCell ⟨r,7,none⟩ (.slice qa qn qc)):=fun a=>
    (Td.drewN (fun k=>k=r) W1 a).trans ((Td.setCell (R:=fun k=>k=r) _ _ _ rfl).trans ((Td.setCell (R:=fun k=>k=r) _ _ _ rfl).trans ((Td.setCell (R:=fun k=>k=r) _ _ _ rfl).trans ((Td.setCell (R:=fun k=>k=r) _ _ _ rfl).trans ((Td.setCell (R:=fun k=>k=r) _ _ _ rfl).trans (Td.setCell (R:=fun k=>k=r) _ _ _ rfl) (fun _ e=>e) (fun _ _ e=>e)) (fun _ e=>e) (fun _ _ e=>e)) (fun _ e=>e) (fun _ _ e=>e)) (fun _ e=>e) (fun _ _ e=>e)) (fun _ e=>e) (fun _ _ e=>e)) (fun _ e=>e) (fun _ _ e=>e)
   refine ⟨⟨ta,tc,qa,qc,H1.out.put (T1 _) ?_ rfl (by have:=HT.out;show n≤s.tape.length;omega) (HQF.out.turned (T1 _))⟩,Kept.then K1.out (T1 _)⟩
   have hb:=H1.out.box
   have hn:=HN.out
   simp [World.setCell,World.drewN,Array.getElem?_modify,hb,runCells,hqn,hn]
end
section
variable {X:Nat→Prop}
def Rn.ok (s:Rn):Prop:=∀ z ∈ s.tape,I64 z
theorem Rn.ok.ask {s:Rn} (h:s.ok) (q:Ak):(s.ask q).2.ok:=by unfold Rn.ok;rw [Rn.ask_tape];exact h
theorem Ran.trans {W W' W'':World} {r:Nat} {s s':Rn} (h:Ran X W r s W') (h':Ran X W' r s' W''):Ran X W r s' W'':=
 ⟨h'.1,h.2.trans h'.2 (fun _ e=>e) (fun _ _ e=>e)⟩
theorem Ran.refl {W:World} {r:Nat} {s:Rn} (h:RunAt X W r s):Ran X W r s W:=⟨h,(Kept.refl W).mono fun _ _ e=>e.elim⟩
theorem read_r (W:World) (r:Nat) (s:Rn) (a:Int) (h:RunAt X W r s) (z:Int) (s':Rn) (e1:s.read a=(z,s')) :
  Calls Tryz.prog 184 #[.pointer (some ⟨r,0,none⟩),.int .i64 a] W fun e W'=>e=.returned (.int .i64 z)∧Ran X W r s' W':=by
 have H:=gh h
 have E:=gh e1
 clear h e1
 go_enter Tryz.func184,Tryz.ntmps184
 go_wp2_with (fail)
 refine (ask_c _ r s ⟨1,a,0,0,[]⟩ H.out none 0 0 rfl (Far.none _ _) z s' E.out).mono ?_
 rintro e W' ⟨rfl,hr⟩
 go_wp2
 go_ret
 exact ⟨rfl,hr⟩
theorem write_r (W:World) (r:Nat) (s:Rn) (a x:Int) (h:RunAt X W r s) (s':Rn) (e1:s.write a x=s') :
  Calls Tryz.prog 190 #[.pointer (some ⟨r,0,none⟩),.int .i64 a,.int .i64 x] W fun e W'=>e=.returned (.tuple #[])∧Ran X W r s' W':=by
 obtain ⟨z,hz⟩:∃ z,(s.ask ⟨2,a,x,0,[]⟩)=(z,s'):=⟨(s.ask ⟨2,a,x,0,[]⟩).1,by rw [← e1];rfl⟩
 have H:=gh h
 have E:=gh hz
 clear h e1 hz
 go_enter Tryz.func190,Tryz.ntmps190
 go_wp2_with (fail)
 refine (ask_c _ r s ⟨2,a,x,0,[]⟩ H.out none 0 0 rfl (Far.none _ _) z s' E.out).mono ?_
 rintro e W' ⟨rfl,hr⟩
 go_wp2
 go_end0
 exact ⟨rfl,hr⟩
theorem add_r (W:World) (r:Nat) (s:Rn) (a x:Int) (h:RunAt X W r s) (z:Int) (s':Rn) (e1:s.add a x=(z,s')) :
  Calls Tryz.prog 196 #[.pointer (some ⟨r,0,none⟩),.int .i64 a,.int .i64 x] W fun e W'=>e=.returned (.int .i64 z)∧Ran X W r s' W':=by
 have H:=gh h
 have E:=gh e1
 clear h e1
 go_enter Tryz.func196,Tryz.ntmps196
 go_wp2_with (fail)
 refine (ask_c _ r s ⟨4,a,x,0,[]⟩ H.out none 0 0 rfl (Far.none _ _) z s' E.out).mono ?_
 rintro e W' ⟨rfl,hr⟩
 go_wp2
 go_ret
 exact ⟨rfl,hr⟩
theorem cas_r (W:World) (r:Nat) (s:Rn) (a x y:Int) (h:RunAt X W r s) (b:Bool) (s':Rn) (e1:s.cas a x y=(b,s')) :
  Calls Tryz.prog 185 #[.pointer (some ⟨r,0,none⟩),.int .i64 a,.int .i64 x,.int .i64 y] W fun e W'=>e=.returned (.bool b)∧Ran X W r s' W':=by
 obtain ⟨z,hz⟩:∃ z,(s.ask ⟨3,a,x,y,[]⟩)=(z,s'):=⟨(s.ask ⟨3,a,x,y,[]⟩).1,by have:(s.ask ⟨3,a,x,y,[]⟩).2=s':=congrArg Prod.snd e1;rw [← this]⟩
 have hb:Hid ((z == 1)=b):=gh (by have:((s.ask ⟨3,a,x,y,[]⟩).1 == 1)=b:=congrArg Prod.fst e1;rw [← this,hz])
 have H:=gh h
 have E:=gh hz
 clear h e1 hz
 go_enter Tryz.func185,Tryz.ntmps185
 go_wp2_with (fail)
 refine (ask_c _ r s ⟨3,a,x,y,[]⟩ H.out none 0 0 rfl (Far.none _ _) z s' E.out).mono ?_
 rintro e W' ⟨rfl,hr⟩
 go_wp2
 go_ret
 exact ⟨by rw [← hb.out];rfl,hr⟩
theorem make_r (W:World) (r:Nat) (s:Rn) (wa:Option Addr) (wn wc:Nat) (ws:List Int) (h:RunAt X W r s) (hq:Far X W r wa ws) (hl:ws.length=wn) (z:Int) (s':Rn) (e1:s.make ws=(z,s')) :
  Calls Tryz.prog 186 #[.pointer (some ⟨r,0,none⟩),.slice wa wn wc] W fun e W'=>e=.returned (.tuple #[.int .i64 z,.bool (decide (0 < z))])∧Ran X W r s' W':=by
 have H:=gh h
 have HQ:=gh hq
 have E:=gh e1
 clear h e1 hq
 go_enter Tryz.func186,Tryz.ntmps186
 go_wp2_with (fail)
 refine (ask_c _ r s ⟨5,0,0,0,ws⟩ H.out wa wn wc hl HQ.out z s' E.out).mono ?_
 rintro e W' ⟨rfl,hr⟩
 go_wp2
 go_ret2
 exact ⟨rfl,hr⟩
end
section
variable {X:Nat→Prop}
theorem Rn.ok.read {s:Rn} (h:s.ok) {a z:Int} {s':Rn} (e:s.read a=(z,s')):I64 z∧s'.ok:=by
 have h1:=Rn.ask_i64 (s:=s) ⟨1,a,0,0,[]⟩ h
 have h2:=Rn.ok.ask h ⟨1,a,0,0,[]⟩
 have e1:s.ask ⟨1,a,0,0,[]⟩=(z,s'):=e
 rw [e1] at h1 h2
 exact ⟨h1,h2⟩
theorem Rn.ok.cas {s:Rn} (h:s.ok) {a x y:Int} {b:Bool} {s':Rn} (e:s.cas a x y=(b,s')):s'.ok:=by
 have h2:=Rn.ok.ask h ⟨3,a,x,y,[]⟩
 have e1:(s.ask ⟨3,a,x,y,[]⟩).2=s':=congrArg Prod.snd e
 rw [e1] at h2
 exact h2
def Rn.peek (s:Rn) (a:Int):Int × Rn:=
 let x:=s.read a
 if kd x.1=5 then
  let o:=x.2.read (ad x.1+4)
  if o.1=1 then o.2.read (ad x.1+3) else o.2.read (ad x.1+2)
 else x
def Rn.help (s:Rn) (a:Int):Rn:=
 let p:=s.read a
 let g:=p.2.read p.1
 let c:=g.2.cas (a+4) 0 (if g.1=0 then 1 else 2)
 let o:=c.2.read (a+4)
 let t:=o.2.read (a+1)
 let v:=if o.1=1 then t.2.read (a+3) else t.2.read (a+2)
 (v.2.cas t.1 (Rf.ofZ 5 a) v.1).2
theorem ofr_c (k t:Int) (z:Int) (hz:Rf.ofZ k t=z) (w:World):Calls Tryz.prog 59 #[.int .i64 k,.int .i64 t] w fun e w'=>e=.returned (.int .i64 z)∧w=w':=by
 subst hz
 by_cases c1:1≤k
 ·by_cases c2:k≤5
  ·by_cases c3:1≤t
   ·by_cases c4:t≤65536
    ·have eo:Rf.ofZ k t=8 * t+k:=by simp [Rf.ofZ,Rf.may,c1,c2,c3,c4]
     rw [eo]
     go_enter Tryz.func59,Tryz.ntmps59
     go_wp2
     go_ret
     exact ⟨rfl,rfl⟩
    ·have eo:Rf.ofZ k t=0:=by simp [Rf.ofZ,Rf.may];omega
     rw [eo]
     go_enter Tryz.func59,Tryz.ntmps59
     go_wp2
     go_ret
     exact ⟨rfl,rfl⟩
   ·have eo:Rf.ofZ k t=0:=by simp [Rf.ofZ,Rf.may];omega
    rw [eo]
    go_enter Tryz.func59,Tryz.ntmps59
    go_wp2
    go_ret
    exact ⟨rfl,rfl⟩
  ·have eo:Rf.ofZ k t=0:=by simp [Rf.ofZ,Rf.may];omega
   rw [eo]
   go_enter Tryz.func59,Tryz.ntmps59
   go_wp2
   go_ret
   exact ⟨rfl,rfl⟩
 ·have eo:Rf.ofZ k t=0:=by simp [Rf.ofZ,Rf.may];omega
  rw [eo]
  go_enter Tryz.func59,Tryz.ntmps59
  go_wp2
  go_ret
  exact ⟨rfl,rfl⟩
theorem peek_r (W:World) (r:Nat) (s:Rn) (a:Int) (h:RunAt X W r s) (ho:s.ok) (z:Int) (s':Rn) (e1:s.peek a=(z,s')) :
  Calls Tryz.prog 150 #[.pointer (some ⟨r,0,none⟩),.int .i64 a] W fun e W'=>e=.returned (.int .i64 z)∧Ran X W r s' W':=by
 have H:=gh h
 obtain ⟨x,s1,hx⟩:∃ x s1,s.read a=(x,s1):=⟨_,_,rfl⟩
 obtain ⟨ix,ok1⟩:=ho.read hx
 have IX:=gh ix
 have HX:=gh hx
 obtain ⟨k,hk⟩:∃ k,kd x=k:=⟨_,rfl⟩
 obtain ⟨p,hp⟩:∃ p,ad x=p:=⟨_,rfl⟩
 have kr:=ad_range x
 rw [hp] at kr
 obtain ⟨p0,p1⟩:=kr
 have HK:=gh hk
 have HP:=gh hp
 unfold Rn.peek at e1
 simp only [hx,hk,hp] at e1
 by_cases hk5:k=5
 ·rw [if_pos hk5] at e1
  obtain ⟨o,s2,h2⟩:∃ o s2,s1.read (p+4)=(o,s2):=⟨_,_,rfl⟩
  have H2:=gh h2
  rw [h2] at e1
  by_cases ho1:o=1
  ·have E3:Hid (s2.read (p+3)=(z,s')):=gh (by rw [← e1];exact (if_pos ho1).symm)
   subst hk5 ho1
   clear h ho hx hk hp h2 e1 ix ok1
   go_enter Tryz.func150,Tryz.ntmps150
   go_wp2_with (fail)
   refine (read_r _ r s a H.out x s1 HX.out).mono ?_
   rintro e W1 ⟨rfl,R1⟩
   go_wp2_with (fail)
   refine (kk_d _ x 5 IX.out HK.out).mono ?_
   rintro e w' ⟨rfl,rfl⟩
   go_wp2_with (fail)
   refine (ak_d _ x p IX.out HP.out).mono ?_
   rintro e w' ⟨rfl,rfl⟩
   go_wp2_with (fail)
   refine (read_r _ r s1 (p+4) R1.1 1 s2 H2.out).mono ?_
   rintro e W2 ⟨rfl,R2⟩
   go_wp2_with (fail)
   refine (read_r _ r s2 (p+3) R2.1 z s' E3.out).mono ?_
   rintro e W3 ⟨rfl,R3⟩
   go_wp2
   go_ret
   exact ⟨rfl,(R1.trans R2).trans R3⟩
  ·have E3:Hid (s2.read (p+2)=(z,s')):=gh (by rw [← e1];exact (if_neg ho1).symm)
   have g1:(o == 1)=false:=by simp [ho1]
   have g2:(o != 1)=true:=by simp [ho1]
   subst hk5
   clear h ho hx hk hp h2 e1 ix ok1
   go_enter Tryz.func150,Tryz.ntmps150
   go_wp2_with (fail)
   refine (read_r _ r s a H.out x s1 HX.out).mono ?_
   rintro e W1 ⟨rfl,R1⟩
   go_wp2_with (fail)
   refine (kk_d _ x 5 IX.out HK.out).mono ?_
   rintro e w' ⟨rfl,rfl⟩
   go_wp2_with (fail)
   refine (ak_d _ x p IX.out HP.out).mono ?_
   rintro e w' ⟨rfl,rfl⟩
   go_wp2_with (fail)
   refine (read_r _ r s1 (p+4) R1.1 o s2 H2.out).mono ?_
   rintro e W2 ⟨rfl,R2⟩
   go_wp2_with (fail)
   refine (read_r _ r s2 (p+2) R2.1 z s' E3.out).mono ?_
   rintro e W3 ⟨rfl,R3⟩
   go_wp2
   go_ret
   exact ⟨rfl,(R1.trans R2).trans R3⟩
 ·rw [if_neg hk5] at e1
  have e2:x=z:=congrArg Prod.fst e1
  have e3:s1=s':=congrArg Prod.snd e1
  have g1:(k == 5)=false:=by simp [hk5]
  have g2:(k != 5)=true:=by simp [hk5]
  subst e2 e3
  clear h ho hx hk hp e1 ix ok1
  go_enter Tryz.func150,Tryz.ntmps150
  go_wp2_with (fail)
  refine (read_r _ r s a H.out x s1 HX.out).mono ?_
  rintro e W1 ⟨rfl,R1⟩
  go_wp2_with (fail)
  refine (kk_d _ x k IX.out HK.out).mono ?_
  rintro e w' ⟨rfl,rfl⟩
  go_wp2
  go_ret
  exact ⟨rfl,R1⟩
theorem help_r (W:World) (r:Nat) (s:Rn) (a:Int) (h:RunAt X W r s) (a0:0≤a) (a1:a≤65536) (s':Rn) (e1:s.help a=s') :
  Calls Tryz.prog 151 #[.pointer (some ⟨r,0,none⟩),.int .i64 a] W fun e W'=>e=.returned (.tuple #[])∧Ran X W r s' W':=by
 have H:=gh h
 obtain ⟨p,s1,hp⟩:∃ x s1,s.read a=(x,s1):=⟨_,_,rfl⟩
 obtain ⟨g,s2,hg⟩:∃ x s2,s1.read p=(x,s2):=⟨_,_,rfl⟩
 obtain ⟨c,s3,hc⟩:∃ x s3,s2.cas (a+4) 0 (if g=0 then 1 else 2)=(x,s3):=⟨_,_,rfl⟩
 obtain ⟨o,s4,ho⟩:∃ x s4,s3.read (a+4)=(x,s4):=⟨_,_,rfl⟩
 obtain ⟨t,s5,ht⟩:∃ x s5,s4.read (a+1)=(x,s5):=⟨_,_,rfl⟩
 obtain ⟨v,s6,hv⟩:∃ x s6,(if o=1 then s5.read (a+3) else s5.read (a+2))=(x,s6):=⟨_,_,rfl⟩
 obtain ⟨q,hq⟩:∃ q,Rf.ofZ 5 a=q:=⟨_,rfl⟩
 have HQ:=gh hq
 obtain ⟨y,hy⟩:∃ y,s6.cas t q v=(y,s'):=by
  unfold Rn.help at e1
  simp only [hp,hg,hc,ho,ht,hv,hq] at e1
  exact ⟨(s6.cas t q v).1,by rw [← e1]⟩
 have HP:=gh hp
 have HY:=gh hy
 have HT:=gh ht
 clear e1 hq hy
 by_cases hg0:g=0
 ·rw [if_pos hg0] at hc
  have HC:=gh hc
  subst hg0
  have HG:=gh hg
  by_cases ho1:o=1
  ·rw [if_pos ho1] at hv
   have HV:=gh hv
   subst ho1
   have HO:=gh ho
   clear h hp hg hc ho ht hv
   go_enter Tryz.func151,Tryz.ntmps151
   go_wp2_with (fail)
   refine (read_r _ r s a H.out p s1 HP.out).mono ?_
   rintro e W1 ⟨rfl,R1⟩
   go_wp2_with (fail)
   refine (read_r _ r s1 p R1.1 0 s2 HG.out).mono ?_
   rintro e W2 ⟨rfl,R2⟩
   go_wp2_with (fail)
   refine (cas_r _ r s2 (a+4) 0 1 R2.1 c s3 HC.out).mono ?_
   rintro e W3 ⟨rfl,R3⟩
   go_wp2_with (fail)
   refine (read_r _ r s3 (a+4) R3.1 1 s4 HO.out).mono ?_
   rintro e W4 ⟨rfl,R4⟩
   go_wp2_with (fail)
   refine (read_r _ r s4 (a+1) R4.1 t s5 HT.out).mono ?_
   rintro e W5 ⟨rfl,R5⟩
   go_wp2_with (fail)
   refine (read_r _ r s5 (a+3) R5.1 v s6 HV.out).mono ?_
   rintro e W6 ⟨rfl,R6⟩
   go_wp2_with (fail)
   refine (ofr_c 5 a q HQ.out _).mono ?_
   rintro e w' ⟨rfl,rfl⟩
   go_wp2_with (fail)
   refine (cas_r _ r s6 t q v R6.1 y s' HY.out).mono ?_
   rintro e W7 ⟨rfl,R7⟩
   go_wp2
   go_end0
   exact ⟨rfl,(((((R1.trans R2).trans R3).trans R4).trans R5).trans R6).trans R7⟩
  ·rw [if_neg ho1] at hv
   have HV:=gh hv
   have HO:=gh ho
   have g1:(o == 1)=false:=by simp [ho1]
   have g2:(o != 1)=true:=by simp [ho1]
   clear h hp hg hc ho ht hv
   go_enter Tryz.func151,Tryz.ntmps151
   go_wp2_with (fail)
   refine (read_r _ r s a H.out p s1 HP.out).mono ?_
   rintro e W1 ⟨rfl,R1⟩
   go_wp2_with (fail)
   refine (read_r _ r s1 p R1.1 0 s2 HG.out).mono ?_
   rintro e W2 ⟨rfl,R2⟩
   go_wp2_with (fail)
   refine (cas_r _ r s2 (a+4) 0 1 R2.1 c s3 HC.out).mono ?_
   rintro e W3 ⟨rfl,R3⟩
   go_wp2_with (fail)
   refine (read_r _ r s3 (a+4) R3.1 o s4 HO.out).mono ?_
   rintro e W4 ⟨rfl,R4⟩
   go_wp2_with (fail)
   refine (read_r _ r s4 (a+1) R4.1 t s5 HT.out).mono ?_
   rintro e W5 ⟨rfl,R5⟩
   go_wp2_with (fail)
   refine (read_r _ r s5 (a+2) R5.1 v s6 HV.out).mono ?_
   rintro e W6 ⟨rfl,R6⟩
   go_wp2_with (fail)
   refine (ofr_c 5 a q HQ.out _).mono ?_
   rintro e w' ⟨rfl,rfl⟩
   go_wp2_with (fail)
   refine (cas_r _ r s6 t q v R6.1 y s' HY.out).mono ?_
   rintro e W7 ⟨rfl,R7⟩
   go_wp2
   go_end0
   exact ⟨rfl,(((((R1.trans R2).trans R3).trans R4).trans R5).trans R6).trans R7⟩
 ·rw [if_neg hg0] at hc
  have HC:=gh hc
  have HG:=gh hg
  have g3:(g == 0)=false:=by simp [hg0]
  have g4:(g != 0)=true:=by simp [hg0]
  by_cases ho1:o=1
  ·rw [if_pos ho1] at hv
   have HV:=gh hv
   subst ho1
   have HO:=gh ho
   clear h hp hg hc ho ht hv
   go_enter Tryz.func151,Tryz.ntmps151
   go_wp2_with (fail)
   refine (read_r _ r s a H.out p s1 HP.out).mono ?_
   rintro e W1 ⟨rfl,R1⟩
   go_wp2_with (fail)
   refine (read_r _ r s1 p R1.1 g s2 HG.out).mono ?_
   rintro e W2 ⟨rfl,R2⟩
   go_wp2_with (fail)
   refine (cas_r _ r s2 (a+4) 0 2 R2.1 c s3 HC.out).mono ?_
   rintro e W3 ⟨rfl,R3⟩
   go_wp2_with (fail)
   refine (read_r _ r s3 (a+4) R3.1 1 s4 HO.out).mono ?_
   rintro e W4 ⟨rfl,R4⟩
   go_wp2_with (fail)
   refine (read_r _ r s4 (a+1) R4.1 t s5 HT.out).mono ?_
   rintro e W5 ⟨rfl,R5⟩
   go_wp2_with (fail)
   refine (read_r _ r s5 (a+3) R5.1 v s6 HV.out).mono ?_
   rintro e W6 ⟨rfl,R6⟩
   go_wp2_with (fail)
   refine (ofr_c 5 a q HQ.out _).mono ?_
   rintro e w' ⟨rfl,rfl⟩
   go_wp2_with (fail)
   refine (cas_r _ r s6 t q v R6.1 y s' HY.out).mono ?_
   rintro e W7 ⟨rfl,R7⟩
   go_wp2
   go_end0
   exact ⟨rfl,(((((R1.trans R2).trans R3).trans R4).trans R5).trans R6).trans R7⟩
  ·rw [if_neg ho1] at hv
   have HV:=gh hv
   have HO:=gh ho
   have g1:(o == 1)=false:=by simp [ho1]
   have g2:(o != 1)=true:=by simp [ho1]
   clear h hp hg hc ho ht hv
   go_enter Tryz.func151,Tryz.ntmps151
   go_wp2_with (fail)
   refine (read_r _ r s a H.out p s1 HP.out).mono ?_
   rintro e W1 ⟨rfl,R1⟩
   go_wp2_with (fail)
   refine (read_r _ r s1 p R1.1 g s2 HG.out).mono ?_
   rintro e W2 ⟨rfl,R2⟩
   go_wp2_with (fail)
   refine (cas_r _ r s2 (a+4) 0 2 R2.1 c s3 HC.out).mono ?_
   rintro e W3 ⟨rfl,R3⟩
   go_wp2_with (fail)
   refine (read_r _ r s3 (a+4) R3.1 o s4 HO.out).mono ?_
   rintro e W4 ⟨rfl,R4⟩
   go_wp2_with (fail)
   refine (read_r _ r s4 (a+1) R4.1 t s5 HT.out).mono ?_
   rintro e W5 ⟨rfl,R5⟩
   go_wp2_with (fail)
   refine (read_r _ r s5 (a+2) R5.1 v s6 HV.out).mono ?_
   rintro e W6 ⟨rfl,R6⟩
   go_wp2_with (fail)
   refine (ofr_c 5 a q HQ.out _).mono ?_
   rintro e w' ⟨rfl,rfl⟩
   go_wp2_with (fail)
   refine (cas_r _ r s6 t q v R6.1 y s' HY.out).mono ?_
   rintro e W7 ⟨rfl,R7⟩
   go_wp2
   go_end0
   exact ⟨rfl,(((((R1.trans R2).trans R3).trans R4).trans R5).trans R6).trans R7⟩
end
section
variable {X:Nat→Prop}
def leftAt (W:World) (r:Nat):Nat:=
 match W.cell? ⟨r,0,none⟩,W.cell? ⟨r,1,none⟩,W.cell? ⟨r,2,none⟩ with
 | some (.slice _ n _),some (.int _ p),some (.bool b)=>(n - p.toNat)+(if b=true then 0 else 1)
 | _,_,_=>0
theorem RunAt.leftAt {W:World} {r:Nat} {s:Rn} (h:RunAt X W r s):leftAt W r=s.left:=by
 obtain ⟨ta,tc,wa,wc,h⟩:=h
 obtain ⟨c0,c1,c2,_⟩:=h.cells
 unfold YtnjkmmmfhponlaaGreat.leftAt
 rw [c0,c1,c2]
 rfl
theorem Ran.leftAt {W W':World} {r:Nat} {s:Rn} (h:Ran X W r s W'):leftAt W' r=s.left:=h.1.leftAt
namespace Rn
theorem read_lt {s:Rn} (a:Int) (h:s.off=false):(s.read a).2.left < s.left:=ask_left _ h
theorem read_le (s:Rn) (a:Int):(s.read a).2.left≤s.left:=ask_le _ _
theorem write_le (s:Rn) (a x:Int):(s.write a x).left≤s.left:=ask_le _ _
structure On (s s':Rn):Prop where
 tape:s'.tape=s.tape
 left:s'.left≤s.left
theorem On.refl (s:Rn):On s s:=⟨rfl,Nat.le_refl _⟩
theorem On.trans {s s' s'':Rn} (h:On s s') (h':On s' s''):On s s'':=⟨h'.tape.trans h.tape,Nat.le_trans h'.left h.left⟩
theorem On.ok {s s':Rn} (h:On s s') (ho:s.ok):s'.ok:=by unfold Rn.ok;rw [h.tape];exact ho
theorem On.lt {s s' s'':Rn} (h:On s' s'') (h':s'.left < s.left):s''.left < s.left:=Nat.lt_of_le_of_lt h.left h'
theorem ask_on (s:Rn) (q:Ak):On s (s.ask q).2:=⟨ask_tape s q,ask_le s q⟩
theorem read_on {s:Rn} {a:Int} {x:Int × Rn} (h:s.read a=x):On s x.2:=h ▸ ask_on s _
theorem cas_on {s:Rn} {a y d:Int} {x:Bool × Rn} (h:s.cas a y d=x):On s x.2:=h ▸ ask_on s _
theorem make_on {s:Rn} {w:List Int} {x:Int × Rn} (h:s.make w=x):On s x.2:=h ▸ ask_on s _
theorem help_on (s:Rn) (a:Int):On (s.read a).2 (s.help a):=by
 unfold help
 dsimp only
 generalize s.read a=p
 generalize hg:p.2.read p.1=g
 generalize hc:g.2.cas (a+4) 0 (if g.1=0 then 1 else 2)=c
 generalize ho:c.2.read (a+4)=o
 generalize ht:o.2.read (a+1)=t
 have h:=((read_on hg).trans (cas_on hc)).trans ((read_on ho).trans (read_on ht))
 split
 ·generalize hv:t.2.read (a+3)=v
  exact h.trans ((read_on hv).trans (cas_on rfl))
 ·generalize hv:t.2.read (a+2)=v
  exact h.trans ((read_on hv).trans (cas_on rfl))
theorem help_from (s:Rn) (a:Int):(s.help a).left≤(s.read a).2.left:=(help_on s a).left
theorem help_lt {s:Rn} (a:Int) (h:s.off=false):(s.help a).left < s.left:=Nat.lt_of_le_of_lt (help_from s a) (read_lt a h)
theorem peek_from (s:Rn) (a:Int):(s.peek a).2.left≤(s.read a).2.left:=by
 unfold peek
 dsimp only
 split
 ·split
  ·exact Nat.le_trans (read_le _ _) (read_le _ _)
  ·exact Nat.le_trans (read_le _ _) (read_le _ _)
 ·exact Nat.le_refl _
theorem peek_lt {s:Rn} (a:Int) (h:s.off=false):(s.peek a).2.left < s.left:=Nat.lt_of_le_of_lt (peek_from s a) (read_lt a h)
theorem ok.help {s:Rn} (h:s.ok) (a:Int):(s.help a).ok:=((read_on rfl).trans (help_on s a)).ok h
theorem ok.peek {s:Rn} (h:s.ok) {a z:Int} {s':Rn} (e:s.peek a=(z,s')):I64 z∧s'.ok:=by
 have h1:=(h.read (a:=a) (z:=(s.read a).1) (s':=(s.read a).2) rfl).2
 have h2:=(h1.read (a:=ad (s.read a).1+4) rfl).2
 unfold Rn.peek at e
 dsimp only at e
 split at e
 ·split at e
  ·exact h2.read e
  ·exact h2.read e
 ·exact h.read e
def slotL (s:Rn) (a z:Int):Int × Rn:=
 if _:s.off=false∧kd z=5 then slotL ((s.help (ad z)).read a).2 a ((s.help (ad z)).read a).1 else (z,s)
 termination_by s.left
 decreasing_by
  rename_i h
  exact Nat.lt_of_le_of_lt (read_le _ _) (help_lt _ h.1)
def slot (s:Rn) (a:Int):Int × Rn:=slotL (s.read a).2 a (s.read a).1
theorem slotL_go {s:Rn} {a z y:Int} {t:Rn} (h:s.off=false) (hk:kd z=5) (e:(s.help (ad z)).read a=(y,t)):s.slotL a z=t.slotL a y:=by
 rw [slotL,dif_pos ⟨h,hk⟩,e]
theorem slotL_stop {s:Rn} {a z:Int} (h:¬ (s.off=false∧kd z=5)):s.slotL a z=(z,s):=by
 rw [slotL,dif_neg h]
theorem slotL_le (n:Nat):∀ (s:Rn) (a z:Int),s.left≤n→(s.slotL a z).2.left≤s.left:=by
 induction n with
 | zero=>
  intro s a z h
  have:¬ (s.off=false∧kd z=5):=by rintro ⟨h1,_⟩;unfold left at h;rw [h1] at h;simp at h
  rw [slotL_stop this];exact Nat.le_refl _
 | succ n ih=>
  intro s a z h
  by_cases hc:s.off=false∧kd z=5
  ·have hl:((s.help (ad z)).read a).2.left < s.left:=Nat.lt_of_le_of_lt (read_le _ _) (help_lt _ hc.1)
   rw [slotL_go hc.1 hc.2 (y:=((s.help (ad z)).read a).1) (t:=((s.help (ad z)).read a).2) rfl]
   exact Nat.le_trans (ih _ _ _ (by omega)) (by omega)
  ·rw [slotL_stop hc];exact Nat.le_refl _
theorem slot_from (s:Rn) (a:Int):(s.slot a).2.left≤(s.read a).2.left:=slotL_le _ _ _ _ (Nat.le_refl _)
theorem slot_le (s:Rn) (a:Int):(s.slot a).2.left≤s.left:=Nat.le_trans (slot_from s a) (read_le s a)
theorem slot_lt {s:Rn} (a:Int) (h:s.off=false):(s.slot a).2.left < s.left:=Nat.lt_of_le_of_lt (slot_from s a) (read_lt a h)
theorem ok.slotL (n:Nat):∀ {s:Rn},s.left≤n→s.ok→∀ {a z:Int},I64 z→I64 (s.slotL a z).1∧(s.slotL a z).2.ok:=by
 induction n with
 | zero=>
  intro s h ho a z iz
  have:¬ (s.off=false∧kd z=5):=by rintro ⟨h1,_⟩;unfold left at h;rw [h1] at h;simp at h
  rw [slotL_stop this];exact ⟨iz,ho⟩
 | succ n ih=>
  intro s h ho a z iz
  by_cases hc:s.off=false∧kd z=5
  ·have hl:((s.help (ad z)).read a).2.left < s.left:=Nat.lt_of_le_of_lt (read_le _ _) (help_lt _ hc.1)
   rw [slotL_go hc.1 hc.2 (y:=((s.help (ad z)).read a).1) (t:=((s.help (ad z)).read a).2) rfl]
   have h1:=(ho.help (ad z)).read (a:=a) (z:=((s.help (ad z)).read a).1) (s':=((s.help (ad z)).read a).2) rfl
   exact ih (by omega) h1.2 h1.1
  ·rw [slotL_stop hc];exact ⟨iz,ho⟩
theorem ok.slot {s:Rn} (h:s.ok) {a z:Int} {s':Rn} (e:s.slot a=(z,s')):I64 z∧s'.ok:=by
 have h1:=h.read (a:=a) (z:=(s.read a).1) (s':=(s.read a).2) rfl
 have:=ok.slotL _ (Nat.le_refl _) h1.2 (a:=a) h1.1
 have e':(s.read a).2.slotL a (s.read a).1=(z,s'):=e
 rw [e'] at this
 exact this
end Rn
theorem slot_r (W:World) (r:Nat) (s:Rn) (a:Int) (h:RunAt X W r s) (ho:s.ok) (z:Int) (s':Rn) (e1:s.slot a=(z,s')) :
  Calls Tryz.prog 152 #[.pointer (some ⟨r,0,none⟩),.int .i64 a] W fun e W'=>e=.returned (.int .i64 z)∧Ran X W r s' W':=by
 have H:=gh h
 obtain ⟨x,s1,hx⟩:∃ x s1,s.read a=(x,s1):=⟨_,_,rfl⟩
 obtain ⟨ix,ok1⟩:=ho.read hx
 have e2:s1.slotL a x=(z,s'):=by rw [← e1];unfold Rn.slot;rw [hx]
 have HI:=gh (And.intro ix (And.intro ok1 e2))
 have HX:=gh hx
 clear h ho hx e1 e2 ix ok1
 go_enter Tryz.func152,Tryz.ntmps152
 go_wp2_with (fail)
 refine (read_r _ r s a H.out x s1 HX.out).mono ?_
 rintro e W1 ⟨rfl,R1⟩
 go_wp2_with (fail)
 go_loopw [5] (fun v wr=>∃ y t,v=.int .i64 y∧Ran X W r t wr∧t.ok∧I64 y∧t.slotL a y=(z,s')) (fun _ wr=>leftAt wr r)
 case atStart=>exact ⟨x,s1,rfl,R1,HI.out.2.1,HI.out.1,HI.out.2.2⟩
 case round=>
  obtain ⟨y,t,rfl,R,okt,iy,E⟩:=hrel
  have E':=gh E
  have IY:=gh iy
  have OK:=gh okt
  obtain ⟨ta,tc,wa,wc,RI⟩:=R.1
  obtain ⟨_,_,c2,_,_,f⟩:=RI.cells
  clear E iy okt f RI
  cases ho:t.off with
  | true=>
   rw [ho] at c2
   have e3:y=z∧t=s':=by
    have:=E'.out
    rw [Rn.slotL_stop (by rw [ho];rintro ⟨h,_⟩;cases h)] at this
    exact ⟨congrArg Prod.fst this,congrArg Prod.snd this⟩
   obtain ⟨rfl,rfl⟩:=e3
   clear ho
   go_wp2
   go_ret
   exact ⟨rfl,R⟩
  | false=>
   rw [ho] at c2
   obtain ⟨k,hk⟩:∃ k,kd y=k:=⟨_,rfl⟩
   have HK:=gh hk
   have HF:=gh ho
   by_cases hk5:k=5
   ·obtain ⟨p,hp⟩:∃ p,ad y=p:=⟨_,rfl⟩
    have HP:=gh hp
    have kr:=ad_range y
    rw [hp] at kr
    obtain ⟨p0,p1⟩:=kr
    obtain ⟨t1,h1⟩:∃ t1,t.help p=t1:=⟨_,rfl⟩
    obtain ⟨y2,t2,h2⟩:∃ y2 t2,t1.read a=(y2,t2):=⟨_,_,rfl⟩
    have HG:=gh h1
    have H2:=gh h2
    have E3:Hid (t2.slotL a y2=(z,s')):=gh (by
     rw [← E'.out]
     exact (Rn.slotL_go ho (hk.trans hk5) (by rw [hp,h1];exact h2)).symm)
    have L:Hid (t2.left < t.left∧I64 y2∧t2.ok):=gh (by
     have o1:t1.ok:=by rw [← h1];exact OK.out.help p
     have l1:t1.left < t.left:=by rw [← h1];exact Rn.help_lt p ho
     have l2:=(Rn.read_on h2).left
     exact ⟨Nat.lt_of_le_of_lt l2 l1,o1.read h2⟩)
    subst hk5
    clear hk ho hp h1 h2
    go_wp2_with (fail)
    refine (kk_d _ y 5 IY.out HK.out).mono ?_
    rintro e w' ⟨rfl,rfl⟩
    go_wp2_with (fail)
    refine (ak_d _ y p IY.out HP.out).mono ?_
    rintro e w' ⟨rfl,rfl⟩
    go_wp2_with (fail)
    refine (help_r _ r t p R.1 p0 p1 t1 HG.out).mono ?_
    rintro e W2 ⟨rfl,R2⟩
    go_wp2_with (fail)
    refine (read_r _ r t1 a R2.1 y2 t2 H2.out).mono ?_
    rintro e W3 ⟨rfl,R3⟩
    go_wp2
    exact ⟨⟨y2,t2,rfl,(R.trans R2).trans R3,L.out.2.2,L.out.2.1,E3.out⟩,by rw [R3.leftAt,R.leftAt];exact L.out.1⟩
   ·have g1:(k == 5)=false:=by simp [hk5]
    have g2:(k != 5)=true:=by simp [hk5]
    have e3:y=z∧t=s':=by
     have:=E'.out
     rw [Rn.slotL_stop (by rw [hk];rintro ⟨_,h⟩;exact hk5 h)] at this
     exact ⟨congrArg Prod.fst this,congrArg Prod.snd this⟩
    obtain ⟨rfl,rfl⟩:=e3
    clear hk ho
    go_wp2_with (fail)
    refine (kk_d _ y k IY.out HK.out).mono ?_
    rintro e w' ⟨rfl,rfl⟩
    go_wp2
    go_ret
    exact ⟨rfl,R⟩
end
section
variable {X:Nat→Prop}
theorem Ran.behind {W W' W'':World} {r:Nat} {s:Rn} (k:Kept W W') (h:Ran X W' r s W''):Ran X W r s W'':=⟨h.1,Kept.then k h.2⟩
theorem RunAt.lt {W:World} {r:Nat} {s:Rn} (h:RunAt X W r s):r < W.heap.size:=by
 obtain ⟨ta,tc,wa,wc,h⟩:=h
 exact (Array.getElem?_eq_some_iff.1 h.box).1
theorem Reads.far {W W':World} {r:Nat} {s:Rn} {a:Option Addr} {zs:List Int} (hX:∀ k,W.heap.size≤k→X k) (h:RunAt X W r s) (hr:Reads W' a zs) (hz:zs≠[]) (hs:zs.length≤maxLen) (hn:∀ ad,a=some ad→W.heap.size≤ad.block):Far X W' r a zs:=by
 refine ⟨hr,fun ad e=>⟨⟨hX _ (hn ad e),?_⟩,?_⟩,hs⟩
 ·cases zs with
  | nil=>exact absurd rfl hz
  | cons z zs=>
   obtain ⟨bl,off,e',_,cy⟩:=hr.at (j:=0) (z:=z) rfl
   rw [e] at e'
   cases e'
   unfold World.cell? at cy
   cases hh:W'.heap[bl]? with
   | none=>rw [hh] at cy;simp at cy
   | some o=>exact (Array.getElem?_eq_some_iff.1 hh).1
 ·have:=hn ad e
  have:=h.lt
  omega
theorem dcssw_r (w:World) (g p k v:Int):Calls Tryz.prog 58 #[.int .i64 g,.int .i64 p,.int .i64 k,.int .i64 v] w (Fresh [g,p,k,v,0] w):=by
 go_enter Tryz.func58,Tryz.ntmps58
 go_wp2
 go_ret
 exact ⟨_,rfl,row_new w 2 [g,p,k,v,0] _ (Nat.le_refl _) (by simp),Td.alloc _ _ _⟩
def Rn.dcss (s:Rn) (g p old x:Int):Int × Rn:=
 let m:=s.make [g,p,old,x,0]
 if 0 < m.1 then
  let c:=({ m.2 with rc:=m.1 }:Rn).cas p old (Rf.ofZ 5 m.1)
  if c.1=true then
   let q:=c.2.read g
   let d:=q.2.cas (wrap64 (m.1+4)) 0 (if q.1=0 then 1 else 2)
   let o:=d.2.read (wrap64 (m.1+4))
   if o.1=1 then (1,(o.2.cas p (Rf.ofZ 5 m.1) x).2) else (2,(o.2.cas p (Rf.ofZ 5 m.1) old).2)
  else (0,c.2)
 else (3,m.2)
theorem Ran.record {W W':World} {r:Nat} {s:Rn} (h:Ran X W r s W') (x:Int):Ran X W r { s with rc:=x } (W'.setCell ⟨r,8,none⟩ (.int .i64 x)):=by
 obtain ⟨⟨ta,tc,wa,wc,h1⟩,h2⟩:=h
 have t:Td (fun k=>k=r) W' (W'.setCell ⟨r,8,none⟩ (.int .i64 x)):=Td.setCell (R:=fun k=>k=r) _ _ _ rfl
 refine ⟨⟨ta,tc,wa,wc,h1.put t ?_ rfl h1.at_le (h1.next.turned t)⟩,h2.trans t (fun _ e=>e) (fun _ _ e=>e)⟩
 have hb:=h1.box
 simp [World.setCell,Array.getElem?_modify,hb,runCells]
theorem dcss_r (W:World) (r:Nat) (s:Rn) (g p old x:Int) (h:RunAt X W r s) (hX:∀ k,W.heap.size≤k→X k) (z:Int) (s':Rn) (e1:s.dcss g p old x=(z,s')) :
  Calls Tryz.prog 153 #[.pointer (some ⟨r,0,none⟩),.int .i64 g,.int .i64 p,.int .i64 old,.int .i64 x] W fun e W'=>e=.returned (.int .i64 z)∧Ran X W r s' W':=by
 have H:=gh h
 have HX:=gh hX
 clear hX
 obtain ⟨m,s1,hm⟩:∃ m s1,s.make [g,p,old,x,0]=(m,s1):=⟨_,_,rfl⟩
 have HM:=gh hm
 unfold Rn.dcss at e1
 simp only [hm] at e1
 obtain ⟨me,hme⟩:∃ me,Rf.ofZ 5 m=me:=⟨_,rfl⟩
 have HE:=gh hme
 rw [hme] at e1
 by_cases hm0:0 < m
 ·rw [if_pos hm0] at e1
  obtain ⟨c,s2,hc⟩:∃ c s2,({ s1 with rc:=m }:Rn).cas p old me=(c,s2):=⟨_,_,rfl⟩
  have HC:=gh hc
  rw [hc] at e1
  have d0:(decide (0 < m))=true:=by simp [hm0]
  cases c with
  | false=>
   simp only [Bool.false_eq_true,if_false] at e1
   cases e1
   clear h hm hme hc
   go_enter Tryz.func153,Tryz.ntmps153
   go_wp2_with (fail)
   refine (dcssw_r _ g p old x).mono ?_
   intro e W0 hF
   obtain ⟨fa,fc,rfl,hr,hc1,hc2,hn,_,hk⟩:=hF.form
   have HFar:=gh (Reads.far HX.out H.out hr (by simp) (by simp [maxLen]) hn)
   have HK:=gh hk
   clear hF hr hn hk
   go_wp2_with (fail)
   refine (make_r _ r s fa 5 fc [g,p,old,x,0] (H.out.kept HK.out) HFar.out rfl m s1 HM.out).mono ?_
   rintro e W1 ⟨rfl,R1⟩
   replace R1:=Ran.behind HK.out R1
   obtain ⟨ta,tc,wa,wc,RI⟩:=R1.1
   obtain ⟨_,_,_,c8,_,f⟩:=RI.cells
   have f8:=f 8
   clear RI f
   go_wp2_with (fail)
   refine (ofr_c 5 m me HE.out _).mono ?_
   rintro e w' ⟨rfl,rfl⟩
   go_wp2_with (fail)
   refine (cas_r _ r _ p old me (R1.record m).1 false s' HC.out).mono ?_
   rintro e W2 ⟨rfl,R2⟩
   go_wp2
   go_ret
   exact ⟨rfl,(R1.record m).trans R2⟩
  | true=>
   simp only [if_true] at e1
   obtain ⟨q,s3,hq⟩:∃ q s3,s2.read g=(q,s3):=⟨_,_,rfl⟩
   have HQ:=gh hq
   rw [hq] at e1
   obtain ⟨d,s4,hd⟩:∃ d s4,s3.cas (wrap64 (m+4)) 0 (if q=0 then 1 else 2)=(d,s4):=⟨_,_,rfl⟩
   rw [hd] at e1
   obtain ⟨o,s5,ho⟩:∃ o s5,s4.read (wrap64 (m+4))=(o,s5):=⟨_,_,rfl⟩
   rw [ho] at e1
   have HO:=gh ho
   by_cases hq0:q=0
   ·rw [if_pos hq0] at hd
    subst hq0
    have HD:=gh hd
    by_cases ho1:o=1
    ·subst ho1
     simp only [if_true] at e1
     obtain ⟨y,hy⟩:∃ y,s5.cas p me x=(y,s'):=⟨(s5.cas p me x).1,by cases e1;rfl⟩
     have ez:z=1:=by cases e1;rfl
     have HY:=gh hy
     subst ez
     clear h hm hme hc hq hd ho hy e1
     go_enter Tryz.func153,Tryz.ntmps153
     go_wp2_with (fail)
     refine (dcssw_r _ g p old x).mono ?_
     intro e W0 hF
     obtain ⟨fa,fc,rfl,hr,hc1,hc2,hn,_,hk⟩:=hF.form
     have HFar:=gh (Reads.far HX.out H.out hr (by simp) (by simp [maxLen]) hn)
     have HK:=gh hk
     clear hF hr hn hk
     go_wp2_with (fail)
     refine (make_r _ r s fa 5 fc [g,p,old,x,0] (H.out.kept HK.out) HFar.out rfl m s1 HM.out).mono ?_
     rintro e W1 ⟨rfl,R1⟩
     replace R1:=Ran.behind HK.out R1
     obtain ⟨ta,tc,wa,wc,RI⟩:=R1.1
     obtain ⟨_,_,_,c8,_,f⟩:=RI.cells
     have f8:=f 8
     clear RI f
     go_wp2_with (fail)
     refine (ofr_c 5 m me HE.out _).mono ?_
     rintro e w' ⟨rfl,rfl⟩
     go_wp2_with (fail)
     refine (cas_r _ r _ p old me (R1.record m).1 true s2 HC.out).mono ?_
     rintro e W2 ⟨rfl,R2⟩
     go_wp2_with (fail)
     refine (read_r _ r s2 g R2.1 0 s3 HQ.out).mono ?_
     rintro e W3 ⟨rfl,R3⟩
     go_wp2_with (fail)
     refine (cas_r _ r s3 (wrap64 (m+4)) 0 1 R3.1 d s4 HD.out).mono ?_
     rintro e W4 ⟨rfl,R4⟩
     go_wp2_with (fail)
     refine (read_r _ r s4 (wrap64 (m+4)) R4.1 1 s5 HO.out).mono ?_
     rintro e W5 ⟨rfl,R5⟩
     go_wp2_with (fail)
     refine (cas_r _ r s5 p me x R5.1 y s' HY.out).mono ?_
     rintro e W6 ⟨rfl,R6⟩
     go_wp2
     go_ret
     exact ⟨rfl,(((((R1.record m).trans R2).trans R3).trans R4).trans R5).trans R6⟩
    ·have g1:(o == 1)=false:=by simp [ho1]
     have g2:(o != 1)=true:=by simp [ho1]
     rw [if_neg ho1] at e1
     obtain ⟨y,hy⟩:∃ y,s5.cas p me old=(y,s'):=⟨(s5.cas p me old).1,by cases e1;rfl⟩
     have ez:z=2:=by cases e1;rfl
     have HY:=gh hy
     subst ez
     clear h hm hme hc hq hd ho hy e1
     go_enter Tryz.func153,Tryz.ntmps153
     go_wp2_with (fail)
     refine (dcssw_r _ g p old x).mono ?_
     intro e W0 hF
     obtain ⟨fa,fc,rfl,hr,hc1,hc2,hn,_,hk⟩:=hF.form
     have HFar:=gh (Reads.far HX.out H.out hr (by simp) (by simp [maxLen]) hn)
     have HK:=gh hk
     clear hF hr hn hk
     go_wp2_with (fail)
     refine (make_r _ r s fa 5 fc [g,p,old,x,0] (H.out.kept HK.out) HFar.out rfl m s1 HM.out).mono ?_
     rintro e W1 ⟨rfl,R1⟩
     replace R1:=Ran.behind HK.out R1
     obtain ⟨ta,tc,wa,wc,RI⟩:=R1.1
     obtain ⟨_,_,_,c8,_,f⟩:=RI.cells
     have f8:=f 8
     clear RI f
     go_wp2_with (fail)
     refine (ofr_c 5 m me HE.out _).mono ?_
     rintro e w' ⟨rfl,rfl⟩
     go_wp2_with (fail)
     refine (cas_r _ r _ p old me (R1.record m).1 true s2 HC.out).mono ?_
     rintro e W2 ⟨rfl,R2⟩
     go_wp2_with (fail)
     refine (read_r _ r s2 g R2.1 0 s3 HQ.out).mono ?_
     rintro e W3 ⟨rfl,R3⟩
     go_wp2_with (fail)
     refine (cas_r _ r s3 (wrap64 (m+4)) 0 1 R3.1 d s4 HD.out).mono ?_
     rintro e W4 ⟨rfl,R4⟩
     go_wp2_with (fail)
     refine (read_r _ r s4 (wrap64 (m+4)) R4.1 o s5 HO.out).mono ?_
     rintro e W5 ⟨rfl,R5⟩
     go_wp2_with (fail)
     refine (cas_r _ r s5 p me old R5.1 y s' HY.out).mono ?_
     rintro e W6 ⟨rfl,R6⟩
     go_wp2
     go_ret
     exact ⟨rfl,(((((R1.record m).trans R2).trans R3).trans R4).trans R5).trans R6⟩
   ·rw [if_neg hq0] at hd
    have HD:=gh hd
    have g3:(q == 0)=false:=by simp [hq0]
    have g4:(q != 0)=true:=by simp [hq0]
    by_cases ho1:o=1
    ·subst ho1
     simp only [if_true] at e1
     obtain ⟨y,hy⟩:∃ y,s5.cas p me x=(y,s'):=⟨(s5.cas p me x).1,by cases e1;rfl⟩
     have ez:z=1:=by cases e1;rfl
     have HY:=gh hy
     subst ez
     clear h hm hme hc hq hd ho hy e1
     go_enter Tryz.func153,Tryz.ntmps153
     go_wp2_with (fail)
     refine (dcssw_r _ g p old x).mono ?_
     intro e W0 hF
     obtain ⟨fa,fc,rfl,hr,hc1,hc2,hn,_,hk⟩:=hF.form
     have HFar:=gh (Reads.far HX.out H.out hr (by simp) (by simp [maxLen]) hn)
     have HK:=gh hk
     clear hF hr hn hk
     go_wp2_with (fail)
     refine (make_r _ r s fa 5 fc [g,p,old,x,0] (H.out.kept HK.out) HFar.out rfl m s1 HM.out).mono ?_
     rintro e W1 ⟨rfl,R1⟩
     replace R1:=Ran.behind HK.out R1
     obtain ⟨ta,tc,wa,wc,RI⟩:=R1.1
     obtain ⟨_,_,_,c8,_,f⟩:=RI.cells
     have f8:=f 8
     clear RI f
     go_wp2_with (fail)
     refine (ofr_c 5 m me HE.out _).mono ?_
     rintro e w' ⟨rfl,rfl⟩
     go_wp2_with (fail)
     refine (cas_r _ r _ p old me (R1.record m).1 true s2 HC.out).mono ?_
     rintro e W2 ⟨rfl,R2⟩
     go_wp2_with (fail)
     refine (read_r _ r s2 g R2.1 q s3 HQ.out).mono ?_
     rintro e W3 ⟨rfl,R3⟩
     go_wp2_with (fail)
     refine (cas_r _ r s3 (wrap64 (m+4)) 0 2 R3.1 d s4 HD.out).mono ?_
     rintro e W4 ⟨rfl,R4⟩
     go_wp2_with (fail)
     refine (read_r _ r s4 (wrap64 (m+4)) R4.1 1 s5 HO.out).mono ?_
     rintro e W5 ⟨rfl,R5⟩
     go_wp2_with (fail)
     refine (cas_r _ r s5 p me x R5.1 y s' HY.out).mono ?_
     rintro e W6 ⟨rfl,R6⟩
     go_wp2
     go_ret
     exact ⟨rfl,(((((R1.record m).trans R2).trans R3).trans R4).trans R5).trans R6⟩
    ·have g1:(o == 1)=false:=by simp [ho1]
     have g2:(o != 1)=true:=by simp [ho1]
     rw [if_neg ho1] at e1
     obtain ⟨y,hy⟩:∃ y,s5.cas p me old=(y,s'):=⟨(s5.cas p me old).1,by cases e1;rfl⟩
     have ez:z=2:=by cases e1;rfl
     have HY:=gh hy
     subst ez
     clear h hm hme hc hq hd ho hy e1
     go_enter Tryz.func153,Tryz.ntmps153
     go_wp2_with (fail)
     refine (dcssw_r _ g p old x).mono ?_
     intro e W0 hF
     obtain ⟨fa,fc,rfl,hr,hc1,hc2,hn,_,hk⟩:=hF.form
     have HFar:=gh (Reads.far HX.out H.out hr (by simp) (by simp [maxLen]) hn)
     have HK:=gh hk
     clear hF hr hn hk
     go_wp2_with (fail)
     refine (make_r _ r s fa 5 fc [g,p,old,x,0] (H.out.kept HK.out) HFar.out rfl m s1 HM.out).mono ?_
     rintro e W1 ⟨rfl,R1⟩
     replace R1:=Ran.behind HK.out R1
     obtain ⟨ta,tc,wa,wc,RI⟩:=R1.1
     obtain ⟨_,_,_,c8,_,f⟩:=RI.cells
     have f8:=f 8
     clear RI f
     go_wp2_with (fail)
     refine (ofr_c 5 m me HE.out _).mono ?_
     rintro e w' ⟨rfl,rfl⟩
     go_wp2_with (fail)
     refine (cas_r _ r _ p old me (R1.record m).1 true s2 HC.out).mono ?_
     rintro e W2 ⟨rfl,R2⟩
     go_wp2_with (fail)
     refine (read_r _ r s2 g R2.1 q s3 HQ.out).mono ?_
     rintro e W3 ⟨rfl,R3⟩
     go_wp2_with (fail)
     refine (cas_r _ r s3 (wrap64 (m+4)) 0 2 R3.1 d s4 HD.out).mono ?_
     rintro e W4 ⟨rfl,R4⟩
     go_wp2_with (fail)
     refine (read_r _ r s4 (wrap64 (m+4)) R4.1 o s5 HO.out).mono ?_
     rintro e W5 ⟨rfl,R5⟩
     go_wp2_with (fail)
     refine (cas_r _ r s5 p me old R5.1 y s' HY.out).mono ?_
     rintro e W6 ⟨rfl,R6⟩
     go_wp2
     go_ret
     exact ⟨rfl,(((((R1.record m).trans R2).trans R3).trans R4).trans R5).trans R6⟩
 ·rw [if_neg hm0] at e1
  cases e1
  have d0:(decide (0 < m))=false:=by simp;omega
  clear h hm hme
  go_enter Tryz.func153,Tryz.ntmps153
  go_wp2_with (fail)
  refine (dcssw_r _ g p old x).mono ?_
  intro e W0 hF
  obtain ⟨fa,fc,rfl,hr,hc1,hc2,hn,_,hk⟩:=hF.form
  have HFar:=gh (Reads.far HX.out H.out hr (by simp) (by simp [maxLen]) hn)
  have HK:=gh hk
  clear hF hr hn hk
  go_wp2_with (fail)
  refine (make_r _ r s fa 5 fc [g,p,old,x,0] (H.out.kept HK.out) HFar.out rfl m s' HM.out).mono ?_
  rintro e W1 ⟨rfl,R1⟩
  replace R1:=Ran.behind HK.out R1
  go_wp2
  go_ret
  exact ⟨rfl,R1⟩
end
namespace Pb
open Go.ChangeShapes Go.WideShapes Go.ChangeAt Go.RowKit
theorem wrap_same {a:Int} (h:-9223372036854775808≤a) (h':a≤9223372036854775807):wrap64 a=a:=by
 unfold wrap64
 omega
theorem gap_plain {a b:Int} (ha:-9223372036854775808≤a∧a≤9223372036854775807) (hb:-9223372036854775808≤b∧b≤9223372036854775807) (c:¬ b < a) :
  gapZ a b=IntKind.u64.wrap (IntKind.u64.wrap b - IntKind.u64.wrap a):=by
 simp only [gapZ,if_neg c,IntKind.wrap_u64]
 omega
theorem gap_r (a b:Int) (ha:(Lit.int .i64 a).wf=true) (hb:(Lit.int .i64 b).wf=true) (w:World) :
  Calls Tryz.prog 207 #[.int .i64 a,.int .i64 b] w fun e w'=>e=.returned (.int .u64 (gapZ a b))∧w=w':=by
 have ha':=bounds_i64 ha
 have hb':=bounds_i64 hb
 clear ha hb
 by_cases c:b < a
 ·have e:gapZ a b=0:=by simp [gapZ,c]
  rw [e]
  clear e
  go_enter Tryz.func207,Tryz.ntmps207
  go_wp2
  go_ret
  exact ⟨rfl,rfl⟩
 ·rw [gap_plain ha' hb' c]
  clear ha' hb'
  go_enter Tryz.func207,Tryz.ntmps207
  go_wp2
  go_ret
  exact ⟨rfl,rfl⟩
theorem pow_cast (k:Nat):(2:Int) ^ k=((2 ^ k:Nat):Int):=by rw [Int.natCast_pow];rfl
theorem pow_wrap {k:Nat} (h:k≤62):wrap64 ((2:Int) ^ k)=((2 ^ k:Nat):Int):=by
 have h1:2 ^ k≤2 ^ 62:=Nat.pow_le_pow_right (by omega) h
 have h0:1≤2 ^ k:=Nat.one_le_two_pow
 rw [pow_cast,wrap_same (by omega) (by omega)]
theorem ret_int {k:IntKind} {a b:Int} (h:a=b):Ending.returned (.int k a)=.returned (.int k b):=by rw [h]
theorem bit_i64 (a:Int) (h0:0≤a) (h:a < 9223372036854775808):bits .and .i64 a 1=a % 2:=by
 obtain ⟨n,rfl⟩:=Int.eq_ofNat_of_zero_le h0
 have h1:(BitVec.ofInt 64 (n:Int)).toNat=n:=by
  rw [BitVec.ofInt_natCast,BitVec.toNat_ofNat];exact Nat.mod_eq_of_lt (by omega)
 have e:n &&& 1=n % 2:=Nat.and_two_pow_sub_one_eq_mod n 1
 show IntKind.i64.wrap ((BitVec.ofInt 64 (n:Int) &&& BitVec.ofInt 64 1).toNat:Int)=_
 rw [BitVec.toNat_and,h1]
 show IntKind.i64.wrap ((n &&& 1:Nat):Int)=_
 rw [e]
 simp only [IntKind.wrap,IntKind.bits,IntKind.signed]
 simp
 omega
theorem share_step {P m x y v:Int} (b c:Int) (h:P * m=x * v+y):P * (2 * m+b)=(2 * x+c) * v+(2 * y+P * b - c * v):=by
 have e1:P * (2 * m+b)=2 * (P * m)+P * b:=by rw [Int.mul_add,Int.mul_left_comm]
 have e2:(2 * x+c) * v=2 * (x * v)+c * v:=by rw [Int.add_mul,Int.mul_assoc]
 omega
theorem share_le {P M x y v:Int} (h:P * M=x * v+y) (hy:0≤y) (hP:P≤v) (hM:0≤M) (hv:0 < v):x≤M:=by
 have h1:P * M≤v * M:=Int.mul_le_mul_of_nonneg_right hP hM
 have h2:v * M=M * v:=Int.mul_comm _ _
 rcases Int.lt_or_le M x with g | g
 ·have h3:M * v < x * v:=Int.mul_lt_mul_of_pos_right g hv
  omega
 ·exact g
theorem share_end {P n x y v:Int} (h:P * n=x * v+y) (hy:0≤y) (hy':y < v):P * n / v=x:=by
 rw [h,Int.add_comm,Int.add_mul_ediv_right _ _ (by omega),Int.ediv_eq_zero_of_lt hy hy']
 omega
theorem halves (n:Int) (k:Nat):n / ((2 ^ k:Nat):Int)=2 * (n / ((2 ^ (k+1):Nat):Int))+(n / ((2 ^ k:Nat):Int)) % 2:=by
 have e:((2 ^ (k+1):Nat):Int)=((2 ^ k:Nat):Int) * 2:=by rw [Nat.pow_succ];omega
 rw [e,← Int.ediv_ediv_of_nonneg (Int.natCast_nonneg _)]
 omega
theorem div_pow_bound {n:Int} (k:Nat) (h0:0≤n):0≤n / ((2 ^ k:Nat):Int)∧n / ((2 ^ k:Nat):Int)≤n:=
 ⟨Int.ediv_nonneg h0 (Int.natCast_nonneg _),Int.ediv_le_self _ h0⟩
theorem share_none {p w n:Int} (h:¬ (1≤w∧1≤n∧n≤65536)):shareZ p w n=0:=by
 simp only [shareZ,if_neg h]
theorem share_r (p v n:Int) (hp:(Lit.int .u64 p).wf=true) (hv:(Lit.int .u64 v).wf=true) (w:World) :
  Calls Tryz.prog 206 #[.int .u64 p,.int .u64 v,.int .i64 n] w fun e w'=>e=.returned (.int .i64 (shareZ p v n))∧w=w':=by
 have hp':=bounds_u64 hp
 have hv':=bounds_u64 hv
 clear hp hv
 by_cases c1:v=0
 ·rw [share_none (by omega)]
  subst c1
  go_enter Tryz.func206,Tryz.ntmps206
  go_wp2
  go_ret
  exact ⟨rfl,rfl⟩
 ·by_cases c2:n < 1
  ·rw [share_none (by omega)]
   go_enter Tryz.func206,Tryz.ntmps206
   go_wp2
   go_ret
   exact ⟨rfl,rfl⟩
  ·by_cases c3:65536 < n
   ·rw [share_none (by omega)]
    go_enter Tryz.func206,Tryz.ntmps206
    go_wp2
    go_ret
    exact ⟨rfl,rfl⟩
   ·obtain ⟨P,hP⟩:∃ P,min p v=P:=⟨_,rfl⟩
    have P1:0≤P:=by omega
    have P2:P≤v:=by omega
    obtain ⟨z,ez⟩:∃ z,shareZ p v n=z:=⟨_,rfl⟩
    have HE:=gh (show shareZ p v n=z∧min p v=P from ⟨ez,hP⟩)
    rw [ez]
    clear ez
    go_enter Tryz.func206,Tryz.ntmps206
    go_wp2
    clear hP
    go_loop [7,8,9] (fun q r b=>∃ (x y:Int) (k:Nat),k≤17∧0≤x∧x≤65536∧0≤y∧y < v∧Hid (P * (n / ((2 ^ k:Nat):Int))=x * v+y)∧q=.int .i64 x∧r=.int .u64 y∧b=.int .i64 ((k:Int) - 1)) (fun _ _ b=>(intOf b+1).toNat)
    case atStart=>
     refine ⟨0,0,17,by omega,by omega,by omega,by omega,by omega,gh ?_,rfl,rfl,rfl⟩
     have e:n / ((2 ^ 17:Nat):Int)=0:=Int.ediv_eq_zero_of_lt (by omega) (by omega)
     rw [e];omega
    case round=>
     obtain ⟨x,y,k,k1,x0,x1,y0,y1,H,rfl,rfl,rfl⟩:=hrel
     cases k with
     | zero=>
      have e:x=z:=by
       have h:=H.out
       rw [show n / ((2 ^ 0:Nat):Int)=n by simp] at h
       have h2:=share_end h y0 y1
       have h3:=HE.out
       simp only [shareZ,if_pos (show 1≤v∧1≤n∧n≤65536 by omega),h3.2] at h3
       omega
      subst e
      clear H HE
      go_wp2
      go_ret
      exact ⟨rfl,rfl⟩
     | succ k=>
      clear HE
      have hh:=halves n k
      obtain ⟨b1,b2⟩:=div_pow_bound (n:=n) k (by omega)
      have hb:=bit_i64 (n / ((2 ^ k:Nat):Int)) (by omega) (by omega)
      have ep:=pow_cast k
      have h:=H.out
      obtain ⟨m,hm⟩:∃ m,n / ((2 ^ (k+1):Nat):Int)=m:=⟨_,rfl⟩
      rw [hm] at h hh
      have FIN:∀ (c b x' y':Int),n / ((2 ^ k:Nat):Int) % 2=b→x'=2 * x+c→y'=2 * y+P * b - c * v→0≤y'→y' < v→0≤x'→
        (∃ (x_1 y_1:Int) (k_1:Nat),k_1≤17∧0≤x_1∧x_1≤65536∧0≤y_1∧y_1 < v∧Hid (P * (n / ((2 ^ k_1:Nat):Int))=x_1 * v+y_1)∧Value.int IntKind.i64 x'=Value.int IntKind.i64 x_1∧Value.int IntKind.u64 y'=Value.int IntKind.u64 y_1∧Value.int IntKind.i64 ((k:Int) - 1)=Value.int IntKind.i64 ((k_1:Int) - 1)):=by
       intro c b x' y' hb' hx' hy' hy0 hy1 hx0
       rw [hb'] at hh
       have h2:=share_step b c h
       rw [← hh,← hx',← hy'] at h2
       have h3:=share_le h2 hy0 P2 b1 (by omega)
       exact ⟨x',y',k,by omega,hx0,by omega,hy0,hy1,gh h2,rfl,rfl,rfl⟩
      rw [← ep] at hb
      have FIN2:=gh FIN
      clear hh b1 b2 ep h hm H FIN
      rcases Int.emod_two_eq (n / ((2 ^ k:Nat):Int)) with hz | ho
      ·rw [pow_cast,hz,← pow_cast] at hb
       have HZ:=gh hz
       clear hz
       go_wp2
       ·go_round
        case rel=>exact FIN2.out 1 0 _ _ HZ.out rfl (by omega) (by omega) (by omega) (by omega)
        case measure=>simp [intOf]
       ·go_round
        case rel=>exact FIN2.out 0 0 _ _ HZ.out (by omega) (by omega) (by omega) (by omega) (by omega)
        case measure=>simp [intOf]
      ·rw [pow_cast,ho,← pow_cast] at hb
       have HZ:=gh ho
       clear ho
       go_wp2
       ·go_round
        case rel=>exact FIN2.out 2 1 _ _ HZ.out (by omega) (by omega) (by omega) (by omega) (by omega)
        case measure=>simp [intOf]
       ·go_round
        case rel=>exact FIN2.out 1 1 _ _ HZ.out (by omega) (by omega) (by omega) (by omega) (by omega)
        case measure=>simp [intOf]
       ·go_round
        case rel=>exact FIN2.out 1 1 _ _ HZ.out (by omega) (by omega) (by omega) (by omega) (by omega)
        case measure=>simp [intOf]
       ·go_round
        case rel=>exact FIN2.out 0 1 _ _ HZ.out (by omega) (by omega) (by omega) (by omega) (by omega)
        case measure=>simp [intOf]
end Pb
namespace Pb
open Go.ChangeShapes Go.WideShapes Go.ChangeAt Go.RowKit
theorem wf_u64 {a:Int} (h:0≤a) (h':a≤18446744073709551615):(Lit.int .u64 a).wf=true:=by
 have h1:IntKind.min .u64=0:=by decide
 have h2:IntKind.max .u64=18446744073709551615:=by decide
 simp only [Lit.wf,h1,h2,Bool.and_eq_true,decide_eq_true_eq]
 exact ⟨h,h'⟩
theorem gap_wf {a b:Int} (ha:(Lit.int .i64 a).wf=true) (hb:(Lit.int .i64 b).wf=true):(Lit.int .u64 (gapZ a b)).wf=true:=by
 have ha':=bounds_i64 ha
 have hb':=bounds_i64 hb
 unfold gapZ
 split
 ·exact wf_u64 (by omega) (by omega)
 ·exact wf_u64 (by omega) (by omega)
theorem share_bound (p v n:Int) (hp:0≤p):0≤shareZ p v n∧shareZ p v n≤65536:=by
 unfold shareZ
 split
 ·rename_i h
  have h1:min p v * n≤v * n:=Int.mul_le_mul_of_nonneg_right (by omega) (by omega)
  have h2:min p v * n / v≤n:=by
   have:=Int.ediv_le_ediv (show 0 < v by omega) h1
   rw [Int.mul_ediv_cancel_left _ (by omega)] at this
   exact this
  have h3:0≤min p v * n / v:=Int.ediv_nonneg (Int.mul_nonneg (by omega) (by omega)) (by omega)
  omega
 ·omega
theorem gap_nonneg (a b:Int):0≤gapZ a b:=by
 unfold gapZ
 split <;> omega
set_option maxRecDepth 100000 in
theorem guess_r (a b k n:Int) (ha:(Lit.int .i64 a).wf=true) (hb:(Lit.int .i64 b).wf=true) (hk:(Lit.int .i64 k).wf=true) (w:World) :
  Calls Tryz.prog 187 #[.int .i64 a,.int .i64 b,.int .i64 k,.int .i64 n] w fun e w'=>e=.returned (.int .i64 (guessZ a b k n))∧∃ m,w'=w.drewN m:=by
 by_cases h:2≤n∧n≤65536∧a≤k∧k < b
 ·have H1:=gh (gap_r a k ha hk)
  have H2:=gh (gap_r a b ha hb)
  have H3:=gh (share_r (gapZ a k) (gapZ a b) (n - 1) (gap_wf ha hk) (gap_wf ha hb))
  have HG:Hid (guessZ a b k n=1+shareZ (gapZ a k) (gapZ a b) (n - 1)):=gh (if_pos h)
  have hs:=share_bound (gapZ a k) (gapZ a b) (n - 1) (gap_nonneg _ _)
  generalize shareZ (gapZ a k) (gapZ a b) (n - 1)=s at H3 HG hs
  obtain ⟨h1,h2,h3,h4⟩:=h
  obtain ⟨hs1,hs2⟩:=hs
  clear ha hb hk
  go_enter Tryz.func187,Tryz.ntmps187
  go_wp2_with (fail)
  refine (H1.out _).mono ?_
  rintro e w' ⟨rfl,rfl⟩
  go_wp2_with (fail)
  refine (H2.out _).mono ?_
  rintro e w' ⟨rfl,rfl⟩
  go_wp2_with (fail)
  refine (H3.out _).mono ?_
  rintro e w' ⟨rfl,rfl⟩
  go_wp2
  go_ret
  exact ⟨by rw [HG.out];rfl,0,rfl⟩
 ·rw [guess_none h]
  by_cases h1:n < 2
  ·clear h
   go_enter Tryz.func187,Tryz.ntmps187
   go_wp2
   go_ret
   exact ⟨rfl,0,rfl⟩
  ·by_cases h2:65536 < n
   ·clear h
    go_enter Tryz.func187,Tryz.ntmps187
    go_wp2
    go_ret
    exact ⟨rfl,0,rfl⟩
   ·by_cases h3:k < a
    ·clear h
     go_enter Tryz.func187,Tryz.ntmps187
     go_wp2
     go_ret
     exact ⟨rfl,0,rfl⟩
    ·have h4:b≤k:=by omega
     clear h
     go_enter Tryz.func187,Tryz.ntmps187
     go_wp2
     go_ret
     exact ⟨rfl,0,rfl⟩
end Pb
end Go.Proofs.YtnjkmmmfhponlaaGreat
