/-
  What the proof of YtibnlaihiahjpaaGreatRoot goes by, part 8 of 10: contracts and plain facts; each part begins with its own sentence. No conditions beyond each theorem's own.
-/
import Derived.Test.YtibnlaihiahjpaaGreatY7
namespace Go.Proofs.YtibnlaihiahjpaaGreat
open Go.RowKit
section
theorem ptO:PT 99 56:=⟨Tryz.underlying99,by kernel_rfl⟩
def ownF (s:Mst):Nat->Int->List (Int × Int)
 | 0,_=>[]
 | f+1,x=>(slotsL s x).flatMap fun p=>((atN s x:Int),p.2) :: ownF s f (s.logicZ p.2)
def oneO (s:Mst) (f:Nat) (a:Int) (p:Int × Int):List (Int × Int):=(a,p.2) :: ownF s f (s.logicZ p.2)
theorem ownF_succ (s:Mst) (f:Nat) (x:Int):ownF s (f+1) x=(slotsL s x).flatMap (oneO s f (atN s x)):=rfl
theorem ownF_tgt {s:Mst} {f:Nat} {x:Int} (h:kd (tgt s x)=3):ownF s f (tgt s x)=ownF s f x:=by
 cases f with
 | zero=>rfl
 | succ f=>
  rw [ownF_succ,ownF_succ,slotsL_tgt h]
  have:atN s (tgt s x)=atN s x:=by unfold atN;rw [tgt_tgt h]
  rw [this]
theorem ownF_none {s:Mst} {f:Nat} {x:Int} (h:kd (tgt s x)≠3):ownF s f x=[]:=by
 cases f with
 | zero=>rfl
 | succ f=>rw [ownF_succ,slotsL,if_neg h];rfl
theorem ownF_slots (s:Mst):∀ (f:Nat) (x:Int),(ownF s f x).map Prod.snd=(spotsF s f x).map Prod.fst
 | 0,_=>rfl
 | f+1,x=>by
  rw [ownF_succ,spotsF_succ,List.map_flatMap,List.map_flatMap];congr 1;funext p;simp only [oneO,oneF,List.map_cons,ownF_slots s f]
theorem ownF_len (s:Mst) (f:Nat) (x:Int):(ownF s f x).length=(spotsF s f x).length:=by
 have:=congrArg List.length (ownF_slots s f x)
 simpa using this
theorem DM.other {w w':World} {b n₀:Nat} {s:Mst} {v:Value} {E:TypeId} {ys:List (Int × Int)} (h:DM w b s) (hr:PRow w n₀ E v ys) (h1:E≠107) (h2:E≠2) (t:Td (fun k=>v.ownBlock=some k) w w'):DM w' b s:=by
 obtain ⟨n,u,s0,e,hd⟩:=h;refine ⟨n,u,s0,e,hd.turned t (fun k hk e=>?_)⟩;obtain ⟨c,hc⟩:=hr.typed k e;obtain ⟨c',hc' | hc'⟩:=hd.types k hk
 ·rw [hc] at hc';simp at hc';exact h1 hc'.2
 ·rw [hc] at hc';simp at hc';exact h2 hc'.2
structure Grown (n₀:Nat) (w:World) (v:Value) (ys:List (Int × Int)) (w':World) (v':Value):Prop where
 row:PRow w' n₀ 56 v' ys
 turned:Td (fun k=>v.ownBlock=some k) w w'
 new:∀ k,v'.ownBlock=some k->v.ownBlock=some k∨w.heap.size<=k
theorem Grown.trans {n₀:Nat} {w w1 w2:World} {v v1 v2:Value} {ys zs:List (Int × Int)} (h:Grown n₀ w v ys w1 v1) (h':Grown n₀ w1 v1 zs w2 v2):Grown n₀ w v zs w2 v2:=
 ⟨h'.row,h.turned.trans h'.turned (fun _ e=>e) (fun k hk e=>(h.new k e).elim id (fun h=>by omega)),fun k hk=>(h'.new k hk).elim (h.new k) (fun h2=>.inr (by have:=h.turned.size;omega))⟩
def BelD (f:Nat):Prop:=∀ (w:World) (n₀ b:Nat) (s:Mst) (_:DM w b s) (_:s.ok) (x:Int) (_:Wf s f x) (v:Value) (ys:List (Int × Int)) (_:PRow w n₀ 56 v ys) (_:n₀<=w.heap.size) (_:ys.length+(spotsF s f x).length<=70001),
 Calls Tryz.prog 100 #[.pointer (some ⟨b,0,none⟩),.int .i64 x,v] w fun e w'=>∃ v',e=.returned v'/\Grown n₀ w v (ys++ownF s f x) w' v'
set_option maxHeartbeats 4000000 in
set_option maxRecDepth 20000 in
theorem bel_inner (f:Nat) (ih:BelD f) (w:World) (n₀ b:Nat) (s:Mst) (h:DM w b s) (ho:s.ok) (x:Int) (hw:Wf s (f+1) x) (k3:kd x=3) (v:Value) (ys:List (Int × Int)) (hr:PRow w n₀ 56 v ys) (hn:n₀<=w.heap.size) (hl:ys.length+(spotsF s (f+1) x).length<=70001) :
  Calls Tryz.prog 100 #[.pointer (some ⟨b,0,none⟩),.int .i64 x,v] w fun e w'=>∃ v',e=.returned v'/\Grown n₀ w v (ys++ownF s (f+1) x) w' v':=by
 have e0:tgt s x=x:=by rw [tgt,if_neg (by rw [k3];decide)]
 obtain ⟨hwh,hwk⟩:=hw;obtain ⟨p,hp⟩:∃ p,ad x=p:=⟨_,rfl⟩;have pr:=ad_range x;rw [hp] at pr;obtain ⟨a,rfl⟩:∃ a:Nat,p=(a:Int):=⟨p.toNat,by omega⟩;have a2:(a:Int)<=65536:=pr.2;have hd:=hwh.deg (by rw [e0];exact k3);rw [e0,hp] at hd;obtain ⟨d,hd'⟩:∃ d:Nat,s.look (a:Int)=(d:Int):=⟨(s.look a).toNat,by omega⟩;rw [hd'] at hd;obtain ⟨d2,d3⟩:=hd;have eA:atN s x=a:=by unfold atN;rw [e0,hp];omega
 have eD:degN s x=d:=by unfold degN;rw [e0,hp,hd'];omega
 have HLA:Hid (∀ k,k < d->(slotsL s x)[k]? = some ((k:Int),childS a d k)):=gh (fun k hk=>by
  have:=slotsL_at (s:=s) (x:=x) (by rw [e0];exact k3) (k:=k) (by rw [eD];exact hk)
  rwa [eA,eD] at this)
 have HLL:Hid ((slotsL s x).length=d):=gh (by rw [slotsL_len (by rw [e0];exact k3),eD]);rw [ownF_succ,eA];have hlo:ys.length+((slotsL s x).flatMap (oneO s f a)).length<=70001:=by
  have:=ownF_len s (f+1) x
  rw [ownF_succ,eA] at this;omega
 have H:=gh h;have HO:=gh ho;have HX:=gh hwh.i64;have HP:=gh hp;have HD:=gh hd';have K3:=gh k3;have IH:=gh ih;have HWK:=gh hwk;have HL:=gh hlo;have HN:=gh hn;have G0:Hid (Grown n₀ w v ys w v):=gh ⟨hr,Td.refl _ _,fun _ e=>.inl e⟩;obtain ⟨la,lc,hv,_⟩:=hr.reads;obtain ⟨M,hM⟩:∃ M,ys.length=M:=⟨_,rfl⟩;rw [hM] at hv;subst hv;clear h ho hwh hp hd' k3 ih hwk hl hlo hn hr hM pr e0 eA eD;go_enter Tryz.func100,Tryz.ntmps100;go_wp2_with (fail);refine (ak_d _ x a HX.o HP.o).mono ?_;rintro e w' ⟨rfl,rfl⟩;go_wp2_with (fail);refine (kk_d _ x 3 HX.o K3.o).mono ?_;rintro e w' ⟨rfl,rfl⟩;go_wp2_with (fail);refine (lk_d _ b s a d H.o HD.o).mono ?_;rintro e w' ⟨rfl,rfl⟩;go_wp2
 go_loopw [2,9,10] (fun u i _ wr=>∃ (k:Nat) (us:List (Int × Int)),k<=d/\i=.int .i64 (k:Int)/\Hid (us=ys++((slotsL s x).take k).flatMap (oneO s f a))/\Hid (Grown n₀ w (.slice la M lc) us wr u)) (fun _ i _ _=>d - (intOf i).toNat)
 case atStart=>exact ⟨0,ys,by omega,by simp,gh (by simp),G0⟩
 case round=>
  obtain ⟨k,us,hk,rfl,HY,HG⟩:=hrel;have DW:=gh (H.o.other G0.o.row (by decide) (by decide) HG.o.turned);have NW:Hid (n₀<=wr.heap.size):=gh (Nat.le_trans HN.o HG.o.turned.size)
  by_cases hkn:k < d
  ·have j1:(k:Int) < (d:Int):=by omega
   have hcz:=gh (childZ_in (n:=a) (d:=(d:Int)) (i:=k) (by omega) (by omega) (by omega) (by omega) (by omega) (by omega));obtain ⟨sl,hsl⟩:∃ sl,(a:Int)+4+(d:Int)+k=sl:=⟨_,rfl⟩;rw [hsl] at hcz;obtain ⟨z,hz⟩:∃ z,s.logicZ sl=z:=⟨_,rfl⟩;have HZ:=gh hz;have hat:=HLA.o k hkn;have hat':(slotsL s x)[k]? = some ((k:Int),sl):=by rw [hat];unfold childS;rw [hsl]
   have hone:oneO s f a ((k:Int),sl)=((a:Int),sl) :: ownF s f z:=by rw [oneO,hz]
   have hwf:Wf s f z:=by
    have:=HWK.o ((k:Int),sl) (List.mem_of_getElem? hat')
    rwa [hz] at this
   have HWF:=gh hwf;have HNX:Hid (us++[((a:Int),sl)]++ownF s f z=ys++((slotsL s x).take (k+1)).flatMap (oneO s f a)):=gh (by rw [flat_take _ hat',hone,HY.o];simp);have hlen:(ys++((slotsL s x).take (k+1)).flatMap (oneO s f a)).length<=70001:=by
    have:=flat_take_le (oneO s f a) (slotsL s x) (k+1)
    rw [List.length_append]
    have:=HL.o
    omega
   rw [<- HNX.o,List.length_append,List.length_append] at hlen;have L2:Hid ((us++[((a:Int),sl)]).length+(spotsF s f z).length<=70001):=gh (by rw [List.length_append,<- ownF_len];exact hlen);have L3:Hid (us.length<=1000000):=gh (by omega);obtain ⟨ul,uc,hu,_⟩:=HG.o.row.reads;obtain ⟨K,hK⟩:∃ K,us.length=K:=⟨_,rfl⟩;rw [hK] at hu;subst hu;clear hz hat hat' hone hwf hlen hsl hK G0;go_wp2_with (fail);refine (child_r _ a d k sl hcz.o).mono ?_;rintro e w' ⟨rfl,rfl⟩;go_wp2_with (at_builtin;refine Stop.out ?_);refine ⟨?_⟩;have HRA:=gh (HG.o.row.kept (Kept.alloc (Kept.refl wr) (.cells #[.int .i64 (a:Int),.int .i64 sl] 56)));have HNW:Hid ((wr.alloc (.cells #[.int .i64 (a:Int),.int .i64 sl] 56)).heap[wr.heap.size]? = some (.cells #[.int .i64 (a:Int),.int .i64 sl] 56)):=gh (heap_new _ _);refine wpList_append_pair ptO rfl _ _ rfl n₀ (.slice ul K uc) us (us++[((a:Int),sl)]) rfl HRA.o wr.heap.size a sl rfl HNW.o L3.o (by have:=NW.o;simp;omega) rfl ?_;intro v3 W3 hown hg hat;have G3:Hid (Grown n₀ wr (.slice ul K uc) (us++[((a:Int),sl)]) W3 v3):=gh ⟨hown,Kept.then (Td.alloc (fun _=>False) wr _) (Td.of_grownBy (R:=fun k=>(Value.slice ul K uc).ownBlock=some k) hg (fun _ h=>h)),fun k hk=>hat.elim (fun e=>.inl (by rw [<- e];exact hk)) (fun e=>.inr (by rw [e] at hk;cases hk;simp))⟩;have G4:=gh (HG.o.trans G3.o);have D3:=gh (DW.o.other HG.o.row (by decide) (by decide) G3.o.turned);clear hown hg hat HRA HNW;go_wp2_with (fail);refine (logic_d _ b s sl z D3.o HO.o HZ.o).mono ?_;rintro e w' ⟨rfl,rfl⟩;go_wp2_with (fail);refine (IH.o _ n₀ b s D3.o HO.o z HWF.o v3 _ G3.o.row (Nat.le_trans NW.o G3.o.turned.size) L2.o).mono ?_;rintro e W5 ⟨v5,rfl,g5⟩;have G5:=gh (G4.o.trans g5);rw [HNX.o] at G5;clear g5;go_wp2;exact ⟨⟨k+1,_,by omega,by simp,gh rfl,G5⟩,by simp [intOf];omega⟩
  ·have hkn':k=d:=by omega
   subst hkn';have j1:¬ ((k:Int) < (k:Int)):=by omega
   have HE:Hid (us=ys++(slotsL s x).flatMap (oneO s f a)):=gh (by rw [HY.o,List.take_of_length_le (by rw [HLL.o];omega)]);go_wp2;go_ret;exact ⟨_,rfl,by rw [<- HE.o];exact HG.o⟩
set_option maxHeartbeats 1000000 in
theorem bel_d:∀ f,BelD f
 | 0=>fun _ _ _ _ _ _ _ h=>h.elim
 | f+1=>by
  have ih:=bel_d f;intro w n₀ b s h ho x hw v ys hr hn hl;obtain ⟨k,hk⟩:∃ k,kd x=k:=⟨_,rfl⟩
  by_cases k3:k=3
  ·exact bel_inner f ih w n₀ b s h ho x hw (by rw [hk,k3]) v ys hr hn hl
  obtain ⟨p,hp⟩:∃ p,ad x=p:=⟨_,rfl⟩;have H:=gh h;have HX:=gh hw.1.i64;have HP:=gh hp;have HK:=gh hk;have HR:=gh hr;obtain ⟨la,lc,hv,_⟩:=hr.reads;obtain ⟨M,hM⟩:∃ M,ys.length=M:=⟨_,rfl⟩;rw [hM] at hv
  by_cases k4:k=4
  ·have h3:=hw.1.tg (by rw [hk];exact k4);have e0:tgt s x=s.look p:=by rw [tgt,if_pos (by rw [hk];exact k4),hp]
   obtain ⟨z,hz⟩:∃ z,s.look p=z:=⟨_,rfl⟩;have HZ:=gh hz;have hw2:=hw.down ho h3;have HS:Hid (Calls Tryz.prog 100 #[.pointer (some ⟨b,0,none⟩),.int .i64 z,v] w fun e w'=>∃ v',e=.returned v'/\Grown n₀ w v (ys++ownF s (f+1) x) w' v'):=gh (by
    rw [<- ownF_tgt h3];rw [e0,hz] at hw2 h3 ⊢;refine bel_inner f ih w n₀ b s h ho z hw2 h3 v ys hr hn ?_;rw [show spotsF s (f+1) z=spotsF s (f+1) x by rw [<- hz,<- e0];exact spotsF_tgt (by rw [e0,hz];exact h3)];exact hl)
   subst k4;subst hv;clear h ho hw hl hk hp hz e0 h3 hw2 ih k3 hr hM;go_enter Tryz.func100,Tryz.ntmps100;go_wp2_with (fail);refine (ak_d _ x p HX.o HP.o).mono ?_;rintro e w' ⟨rfl,rfl⟩;go_wp2_with (fail);refine (kk_d _ x 4 HX.o HK.o).mono ?_;rintro e w' ⟨rfl,rfl⟩;go_wp2_with (fail);refine (lk_d _ b s p z H.o HZ.o).mono ?_;rintro e w' ⟨rfl,rfl⟩;go_wp2_with (fail);refine HS.o.mono ?_;rintro e W1 ⟨v,rfl,g1⟩;have G1:=gh g1;clear g1 HS;go_wp2;go_ret;exact ⟨_,rfl,G1.o⟩
  ·have HE:=gh (ownF_none (s:=s) (f:=f+1) (x:=x) (by rw [tgt,if_neg (by rw [hk];exact k4),hk];exact k3));have g1:(k == 4)=false:=by simp [k4]
   have g2:(k == 3)=false:=by simp [k3]
   subst hv;clear h ho hw hl hk hp ih k3 k4 hr hM;go_enter Tryz.func100,Tryz.ntmps100;go_wp2_with (fail);refine (ak_d _ x p HX.o HP.o).mono ?_;rintro e w' ⟨rfl,rfl⟩;go_wp2_with (fail);refine (kk_d _ x k HX.o HK.o).mono ?_;rintro e w' ⟨rfl,rfl⟩;go_wp2;go_ret;exact ⟨_,rfl,by rw [HE.o,List.append_nil];exact HR.o,Td.refl _ _,fun _ e=>.inl e⟩
def ownL (s:Mst):List (Int × Int):=(1,6) :: ownF s (fuel s) (s.logicZ 6)
set_option maxHeartbeats 1000000 in
theorem slots_d (w:World) (b:Nat) (s:Mst) (h:DM w b s) (ho:s.ok) (hs:soundB s=true) :
  Calls Tryz.prog 48 #[.pointer (some ⟨b,0,none⟩)] w (PSliced 56 (ownL s) w):=by
 have hl:(spotsF s (fuel s) (s.logicZ 6)).length<=70000:=by
  have:=spotsL_len ho hs
  unfold spotsL at this
  first
  | exact Nat.le_trans (by simp) this
  | (simp at this;omega)
 obtain ⟨z,hz⟩:∃ z,s.logicZ 6=z:=⟨_,rfl⟩;have B:=fun W v (hd:DM W b s) (hr:PRow W w.heap.size 56 v [((1:Int),(6:Int))]) hn=>bel_d (fuel s) W w.heap.size b s hd ho z (by rw [<- hz];exact wf_root ho hs) v _ hr hn (by rw [<- hz];simp;omega);have HB:=gh B;have H:=gh h;have HO:=gh ho;have HZ:=gh hz;have HE:Hid (ownL s=[((1:Int),(6:Int))]++ownF s (fuel s) z):=gh (by rw [ownL,hz];rfl);clear h ho hs hl hz B;go_enter Tryz.func48,Tryz.ntmps48;go_wp2_with (fail);refine (logic_d _ b s 6 z H.o HO.o HZ.o).mono ?_;rintro e w' ⟨rfl,rfl⟩;go_wp2_with (fail);refine (HB.o _ _ (H.o.kept (Td.alloc _ _ _)) ⟨rfl,.inr ⟨w.heap.size,1,_,rfl,Nat.le_refl _,heap_new _ _,Nat.le_refl _,by unfold maxLen;omega,rfl,rfl⟩⟩ (by simp)).mono ?_;rintro e W2 ⟨v2,rfl,g2⟩;have G2:=gh g2;clear g2 HB;go_wp2;go_ret;exact ⟨_,rfl,by rw [HE.o];exact G2.o.row,(show Kept w _ from Td.alloc _ _ _).own (fun i hi=>by simp [Value.ownBlock] at hi;omega) G2.o.turned⟩
end
section
theorem ownF_in {s:Mst}:∀ (f:Nat) (x:Int),Wf s f x->∀ p ∈ ownF s f x,0<=p.1/\p.1<=65536/\0<=p.2/\p.2<=200000
 | 0,_,h,_,_=>h.elim
 | f+1,x,h,p,hp=>by
  rw [ownF_succ,List.mem_flatMap] at hp;obtain ⟨q,hq,hp⟩:=hp;have hk:kd (tgt s x)=3:=by
   apply Classical.byContradiction;intro hn;rw [slotsL,if_neg hn] at hq;cases hq
  have hd:=h.1.deg hk;have ha:(atN s x:Int)<=65536:=by
   have:=ad_range (tgt s x)
   unfold atN;omega
  unfold oneO at hp;rcases List.mem_cons.1 hp with e | e
  ·rw [e];refine ⟨by omega,ha,?_⟩;rw [slotsL,if_pos hk,List.mem_map] at hq;obtain ⟨i,hi,rfl⟩:=hq;rw [List.mem_range] at hi;unfold degN at hi ⊢;simp only [childS];omega
  ·exact ownF_in f _ (h.2 q hq) p e
theorem ownL_in {s:Mst} (ho:s.ok) (hs:soundB s=true):∀ p ∈ ownL s,0<=p.1/\p.1<=65536/\0<=p.2/\p.2<=200000:=fun p hp=>by
 rcases List.mem_cons.1 hp with e | e
 ·rw [e];decide
 ·exact ownF_in _ _ (wf_root ho hs) p e
theorem ownL_len {s:Mst} (ho:s.ok) (hs:soundB s=true):1<=(ownL s).length/\(ownL s).length<=70001:=by
 have h1:=spotsL_len ho hs;have h2:=ownF_len s (fuel s) (s.logicZ 6);unfold spotsL at h1;unfold ownL;rw [List.length_cons,h2];refine ⟨by omega,?_⟩
 first
 | (simp at h1;omega)
 | omega
theorem info56:(Tryz.prog.info? 56).map (·.size)=some 2:=by kernel_rfl
set_option maxHeartbeats 1000000 in
theorem slot_d (w:World) (b:Nat) (s:Mst) (h:DM w b s) (ho:s.ok) (hs:soundB s=true) (n:Int) :
  Calls Tryz.prog 24 #[.pointer (some ⟨b,0,none⟩),.int .i64 n] w fun e w'=>∃ p,p ∈ ownL s/\e=.returned (.agg #[.int .i64 p.1,.int .i64 p.2])/\Kept w w':=by
 obtain ⟨l1,l2⟩:=ownL_len ho hs;obtain ⟨W0,hW0⟩:∃ W0,w.alloc (.cells #[.int .i64 0,.int .i64 0] 56)=W0:=⟨_,rfl⟩;have k0:Kept w W0:=by rw [<- hW0];exact Td.alloc _ _ _
 have bo:W0.heap[w.heap.size]? = some (.cells #[.int .i64 0,.int .i64 0] 56):=by rw [<- hW0];exact heap_new _ _
 have S:=slots_d W0 b s (h.kept k0) ho hs;obtain ⟨L,hL⟩:∃ L,(ownL s).length=L:=⟨_,rfl⟩;rw [hL] at l1 l2;obtain ⟨i,hi⟩:∃ i:Nat,n % (L:Int)=(i:Int):=⟨(n % (L:Int)).toNat,by have:=Int.emod_nonneg n (b:=(L:Int)) (by omega);omega⟩;have hiL:i < L:=by have:=Int.emod_lt_of_pos n (b:=(L:Int)) (by omega);omega
 have C:=fun X=>hi ▸ cut_g X n (L:Int) (by omega) (by omega);obtain ⟨p,hp⟩:∃ p,(ownL s)[i]? = some p:=⟨_,List.getElem?_eq_getElem (by rw [hL];exact hiL)⟩;have HW0:=gh hW0;have K0:=gh k0;have BO:=gh bo;have HS:=gh S;have HP:=gh hp;have HL:=gh hL;clear h ho hs hW0 k0 bo S hp hL l2 hi;go_enter Tryz.func24,Tryz.ntmps24;go_wp2_with (fail);rw [HW0.o];refine HS.o.mono ?_;rintro e W1 ⟨v,rfl,hr,k1⟩;obtain ⟨a,cap,hv,hrd,hc,_,_,_⟩:=hr.reads;rw [HL.o] at hv hc;subst hv;obtain ⟨bl,off,rfl,hb,c0,c1⟩:=hrd.at HP.o;have c2:W1.cell? ⟨bl,off+i * 2+1,none⟩=some (.int .i64 p.2):=by rw [Nat.add_assoc];exact c1
 have bo1:=k1.heap BO.o id;have hne:bl≠w.heap.size:=fun e=>by
  obtain ⟨c,hc⟩:=hr.typed bl (by rfl)
  have:=hr.lt bl (by rfl)
  have:=(Array.getElem?_eq_some_iff.1 BO.o).1
  omega
 have d0:W1.cell? ⟨w.heap.size,0,none⟩=some (.int .i64 0):=by simp [World.cell?,bo1]
 have d1:W1.cell? ⟨w.heap.size,1,none⟩=some (.int .i64 0):=by simp [World.cell?,bo1]
 have f0:W1.frozen? ⟨w.heap.size,0,none⟩=false:=by simp [World.frozen?,bo1]
 have f1:W1.frozen? ⟨w.heap.size,1,none⟩=false:=by simp [World.frozen?,bo1]
 have i0:decide ((i:Int) < 0)=false:=by simp
 have i1:decide ((L:Int)<=(i:Int))=false:=by simp;omega
 have BO1:=gh bo1;have K1:=gh (K0.o.trans k1);clear hr hrd k1 bo1 HS;go_wp2_with (fail);refine (C W1).mono ?_;rintro e w' ⟨rfl,rfl⟩;go_wp2;have hq:((W1.setCell ⟨w.heap.size,0,none⟩ (.int .i64 p.1)).setCell ⟨w.heap.size,1,none⟩ (.int .i64 p.2)).heap[w.heap.size]? = some (.cells #[.int .i64 p.1,.int .i64 p.2] 56):=by
  have:=BO1.o
  simp [World.setCell,Array.getElem?_modify,this]
 refine bodyPost_ret (results_cell_row rfl _ _ w.heap.size 56 #[.int .i64 p.1,.int .i64 p.2] _ _ rfl hq Tryz.underlying56 rfl info56) rfl ?_;exact ⟨p,List.mem_of_getElem? HP.o,rfl,K1.o.own (fun i hi=>Nat.le_of_eq hi.symm) ((Td.setCell (R:=fun k=>k=w.heap.size) _ _ _ rfl).trans (Td.setCell (R:=fun k=>k=w.heap.size) _ _ _ rfl) (fun _ e=>e) (fun _ _ e=>e))⟩
end
section
set_option maxRecDepth 20000
theorem kd_q (w:World) (a k:Int) (h:I64 a) (e1:kd a=k):Calls Tryz.prog 35 #[.int .i64 a] w fun e w'=>e=.returned (.int .i64 k)/\w=w':=by
 subst e1;refine (Rf.kind_c a h.wf w).mono ?_;rintro e w' ⟨rfl,rfl⟩;exact ⟨rfl,rfl⟩
theorem ad_q (w:World) (a k:Int) (h:I64 a) (e1:ad a=k):Calls Tryz.prog 69 #[.int .i64 a] w fun e w'=>e=.returned (.int .i64 k)/\w=w':=by
 subst e1;refine (Rf.at_c a h.wf w).mono ?_;rintro e w' ⟨rfl,rfl⟩;exact ⟨rfl,rfl⟩
structure Pk where
 n:Int
 s:Int
 d:Int
 w:Int
def PkAt (W:World) (f:Nat) (p:Pk):Prop:=W.heap[f]? = some (.cells #[.int .i64 p.n,.int .i64 p.s,.int .i64 p.d,.int .i64 p.w] 140)
theorem PkAt.turned {W W':World} {f:Nat} {p:Pk} {R:Nat->Prop} (h:PkAt W f p) (t:Td R W W') (hR:¬ R f):PkAt W' f p:=t.heap h hR
theorem PkAt.kept {W W':World} {f:Nat} {p:Pk} (h:PkAt W f p) (t:Kept W W'):PkAt W' f p:=t.heap h id
theorem PkAt.lt {W:World} {f:Nat} {p:Pk} (h:PkAt W f p):f < W.heap.size:=(Array.getElem?_eq_some_iff.1 h).1
theorem PkAt.cells {W:World} {f:Nat} {p:Pk} (h:PkAt W f p):(W.cell? ⟨f,0,none⟩=some (.int .i64 p.n)/\W.cell? ⟨f,1,none⟩=some (.int .i64 p.s)/\W.cell? ⟨f,2,none⟩=some (.int .i64 p.d)/\W.cell? ⟨f,3,none⟩=some (.int .i64 p.w))/\∀ i,W.frozen? ⟨f,i,none⟩=false:=by
 have hb:W.heap[f]? = _:=h;simp [World.cell?,World.frozen?,hb]
namespace Pk
def new (s:Int):Pk:=⟨0,s,0,0⟩
def take (p:Pk) (z:Int):Pk:=if kd z=5 then { p with d:=ad z,n:=1 } else { p with w:=z,n:=4 }
def choose (p:Pk) (o:Int):Pk:={ p with n:=if o=1 then 2 else 3 }
def fin (p:Pk) (z:Int):Pk:={ p with w:=z,n:=4 }
def step (p:Pk) (m:Mst):Pk × Mst:=
 if p.n=0 then (p.take (m.look p.s),m.touch p.s)
 else if p.n=1 then (p.choose (m.look (wrap64 (p.d+4))),m.touch (wrap64 (p.d+4)))
 else if p.n=2 then (p.fin (m.look (wrap64 (p.d+3))),m.touch (wrap64 (p.d+3)))
 else if p.n=3 then (p.fin (m.look (wrap64 (p.d+2))),m.touch (wrap64 (p.d+2)))
 else (p,m)
end Pk
theorem pk_new (W:World) (s:Int):Calls Tryz.prog 25 #[.int .i64 s] W fun e W'=>e=.returned (.pointer (some ⟨W.heap.size,0,none⟩))/\PkAt W' W.heap.size (Pk.new s)/\Kept W W':=by
 go_enter Tryz.func25,Tryz.ntmps25;go_wp2;go_ret;exact ⟨rfl,heap_new _ _,Td.alloc _ _ _⟩
theorem pk_done (W:World) (f:Nat) (p:Pk) (h:PkAt W f p) (r:Bool) (e1:(p.n == 4)=r):Calls Tryz.prog 32 #[.pointer (some ⟨f,0,none⟩)] W fun e W'=>e=.returned (.bool r)/\W=W':=by
 obtain ⟨⟨c0,c1,c2,c3⟩,_⟩:=h.cells;subst e1;clear h;go_enter Tryz.func32,Tryz.ntmps32;go_wp2;go_ret;exact ⟨rfl,rfl⟩
theorem pk_word (W:World) (f:Nat) (p:Pk) (h:PkAt W f p) (r:Int) (e1:p.w=r):Calls Tryz.prog 33 #[.pointer (some ⟨f,0,none⟩)] W fun e W'=>e=.returned (.int .i64 r)/\W=W':=by
 obtain ⟨⟨c0,c1,c2,c3⟩,_⟩:=h.cells;subst e1;clear h;go_enter Tryz.func33,Tryz.ntmps33;go_wp2;go_ret;exact ⟨rfl,rfl⟩
theorem pk_fin (W:World) (f:Nat) (p:Pk) (z:Int) (h:PkAt W f p):Calls Tryz.prog 88 #[.pointer (some ⟨f,0,none⟩),.int .i64 z] W fun e W'=>e=.returned (.tuple #[])/\PkAt W' f (p.fin z)/\Td (fun k=>k=f) W W':=by
 obtain ⟨⟨c0,c1,c2,c3⟩,fz⟩:=h.cells;have f0:=fz 0;have f3:=fz 3;have H:=gh h;clear h fz;go_enter Tryz.func88,Tryz.ntmps88;go_wp2
 go_end0
 refine ⟨rfl,?_,(Td.setCell (R:=fun k=>k=f) _ _ _ rfl).trans (Td.setCell (R:=fun k=>k=f) _ _ _ rfl) (fun _ e=>e) (fun _ _ e=>e)⟩;have hb:W.heap[f]? = _:=H.o;simp [PkAt,Pk.fin,World.setCell,Array.getElem?_modify,hb]
theorem pk_choose (W:World) (f:Nat) (p:Pk) (z:Int) (h:PkAt W f p):Calls Tryz.prog 87 #[.pointer (some ⟨f,0,none⟩),.int .i64 z] W fun e W'=>e=.returned (.tuple #[])/\PkAt W' f (p.choose z)/\Td (fun k=>k=f) W W':=by
 obtain ⟨⟨c0,c1,c2,c3⟩,fz⟩:=h.cells;have f0:=fz 0;have H:=gh h;clear h fz
 by_cases hz:z=1
 ·subst hz;go_enter Tryz.func87,Tryz.ntmps87;go_wp2
  go_end0
  refine ⟨rfl,?_,Td.setCell (R:=fun k=>k=f) _ _ _ rfl⟩;have hb:W.heap[f]? = _:=H.o;simp [PkAt,Pk.choose,World.setCell,Array.getElem?_modify,hb]
 ·have g1:(z == 1)=false:=by simp [hz]
  go_enter Tryz.func87,Tryz.ntmps87;go_wp2
  go_end0
  refine ⟨rfl,?_,Td.setCell (R:=fun k=>k=f) _ _ _ rfl⟩;have hb:W.heap[f]? = _:=H.o;simp [PkAt,Pk.choose,World.setCell,Array.getElem?_modify,hb,hz]
theorem pk_take (W:World) (f:Nat) (p:Pk) (z:Int) (h:PkAt W f p) (hz:I64 z):Calls Tryz.prog 85 #[.pointer (some ⟨f,0,none⟩),.int .i64 z] W fun e W'=>e=.returned (.tuple #[])/\PkAt W' f (p.take z)/\Td (fun k=>k=f) W W':=by
 obtain ⟨k,hk⟩:∃ k,kd z=k:=⟨_,rfl⟩;have HK:=gh hk;have H:=gh h;have HZ:=gh hz
 by_cases k5:k=5
 ·subst k5;obtain ⟨a,ha⟩:∃ a,ad z=a:=⟨_,rfl⟩;have HA:=gh ha;have HT:Hid (p.take z={ p with d:=a,n:=1 }):=gh (by rw [Pk.take,if_pos hk,ha]);obtain ⟨⟨c0,c1,c2,c3⟩,fz⟩:=h.cells;have f0:=fz 0;have f2:=fz 2;clear h hz hk ha fz;go_enter Tryz.func85,Tryz.ntmps85;go_wp2_with (fail);refine (kd_q _ z 5 HZ.o HK.o).mono ?_;rintro e w' ⟨rfl,rfl⟩;go_wp2_with (fail);refine (ad_q _ z a HZ.o HA.o).mono ?_;rintro e w' ⟨rfl,rfl⟩;go_wp2
  go_end0
  refine ⟨rfl,?_,(Td.setCell (R:=fun k=>k=f) _ _ _ rfl).trans (Td.setCell (R:=fun k=>k=f) _ _ _ rfl) (fun _ e=>e) (fun _ _ e=>e)⟩;rw [HT.o];have hb:W.heap[f]? = _:=H.o;simp [PkAt,World.setCell,Array.getElem?_modify,hb]
 ·have g1:(k == 5)=false:=by simp [k5]
  have g2:(k != 5)=true:=by simp [k5]
  have HT:Hid (p.take z=p.fin z):=gh (by rw [Pk.take,if_neg (by rw [hk];exact k5)];rfl);clear h hz hk;go_enter Tryz.func85,Tryz.ntmps85;go_wp2_with (fail);refine (kd_q _ z k HZ.o HK.o).mono ?_;rintro e w' ⟨rfl,rfl⟩;go_wp2_with (fail);refine (pk_fin _ f p z H.o).mono ?_;rintro e w' ⟨rfl,h1,t1⟩;have H1:=gh h1;have T1:=gh t1;clear h1 t1;go_wp2
  (try simp only [Exit.inBlock,Exit.then]);refine bodyPost_ret (results_none rfl _ _ _) rfl ?_
  exact ⟨rfl,by rw [HT.o];exact H1.o,T1.o⟩
structure PkRan (W:World) (n₀ b:Nat) (v:Value) (f:Nat) (p:Pk) (m:Mst) (W':World):Prop where
 frame:PkAt W' f p
 mem:PMem W' n₀ b v m
 turned:Td (fun k=>k=f∨k=b) W W'
theorem pk_step (W:World) (n₀ b:Nat) (v:Value) (f:Nat) (p:Pk) (m:Mst) (h:PkAt W f p) (hm:PMem W n₀ b v m) (ho:∀ a,I64 (m.look a)) (hf:¬ Foot b v f) (p':Pk) (m':Mst) (r:Bool) (e1:p.step m=(p',m')) (e2:(p'.n == 4)=r) :
  Calls Tryz.prog 30 #[.pointer (some ⟨f,0,none⟩),.pointer (some ⟨b,0,none⟩)] W fun e W'=>e=.returned (.bool r)/\PkRan W n₀ b v f p' m' W':=by
 obtain ⟨⟨c0,c1,c2,c3⟩,_⟩:=h.cells;have H:=gh h;have HM:=gh hm;have HO:=gh ho;have HF:=gh hf;have HFB:Hid (f≠b):=gh (fun e=>hf (.inl e));have HR:=gh e2;unfold Pk.step at e1;obtain ⟨n,sl,d,wd⟩:=p;simp only at c0 c1 c2 c3 e1
 by_cases n0:n=0
 ·subst n0;rw [if_pos rfl] at e1;obtain ⟨z,hz⟩:∃ z,m.look sl=z:=⟨_,rfl⟩;rw [hz] at e1;obtain ⟨rfl,rfl⟩:=Prod.mk.inj e1;have HZ:=gh hz;clear h hm ho hf e1 hz e2;go_enter Tryz.func30,Tryz.ntmps30;go_wp2_with (fail);refine (read_p _ n₀ b v m sl HM.o).mono ?_;rw [HZ.o];rintro e W1 ⟨rfl,m1,t1⟩;have M1:=gh m1;have T1:=gh t1;have F1:=gh (H.o.turned t1 (fun e=>HFB.o e));clear m1 t1;go_wp2_with (fail);refine (pk_take _ f _ z F1.o (by have:=HO.o sl;rw [HZ.o] at this;exact this)).mono ?_;rintro e W2 ⟨rfl,f2,t2⟩;have F2:=gh f2;have M2:=gh (M1.o.turned t2 (fun k hk e=>HF.o (by rw [<- e];exact hk)));have T2:Hid (Td (fun k=>k=f∨k=b) W W2):=gh (T1.o.trans t2 (fun _ e=>.inr e) (fun _ _ e=>.inl e));clear f2 t2;go_wp2_with (fail);refine (pk_done _ f _ F2.o r HR.o).mono ?_;rintro e W3 ⟨rfl,rfl⟩;go_wp2;go_ret;exact ⟨rfl,F2.o,M2.o,T2.o⟩
 ·rw [if_neg n0] at e1;have g0:(n == 0)=false:=by simp [n0]
  by_cases n1:n=1
  ·subst n1;rw [if_pos rfl] at e1;obtain ⟨z,hz⟩:∃ z,m.look (wrap64 (d+4))=z:=⟨_,rfl⟩;rw [hz] at e1;obtain ⟨rfl,rfl⟩:=Prod.mk.inj e1;have HZ:=gh hz;clear h hm ho hf e1 hz e2;go_enter Tryz.func30,Tryz.ntmps30;go_wp2_with (fail);refine (read_p _ n₀ b v m (wrap64 (d+4)) HM.o).mono ?_;rw [HZ.o];rintro e W1 ⟨rfl,m1,t1⟩;have M1:=gh m1;have T1:=gh t1;have F1:=gh (H.o.turned t1 (fun e=>HFB.o e));clear m1 t1;go_wp2_with (fail);refine (pk_choose _ f _ z F1.o).mono ?_;rintro e W2 ⟨rfl,f2,t2⟩;have F2:=gh f2;have M2:=gh (M1.o.turned t2 (fun k hk e=>HF.o (by rw [<- e];exact hk)));have T2:Hid (Td (fun k=>k=f∨k=b) W W2):=gh (T1.o.trans t2 (fun _ e=>.inr e) (fun _ _ e=>.inl e));clear f2 t2;go_wp2_with (fail);refine (pk_done _ f _ F2.o r HR.o).mono ?_;rintro e W3 ⟨rfl,rfl⟩;go_wp2;go_ret;exact ⟨rfl,F2.o,M2.o,T2.o⟩
  ·rw [if_neg n1] at e1;have g1:(n == 1)=false:=by simp [n1]
   by_cases n2:n=2
   ·subst n2;rw [if_pos rfl] at e1;obtain ⟨z,hz⟩:∃ z,m.look (wrap64 (d+3))=z:=⟨_,rfl⟩;rw [hz] at e1;obtain ⟨rfl,rfl⟩:=Prod.mk.inj e1;have HZ:=gh hz;clear h hm ho hf e1 hz e2;go_enter Tryz.func30,Tryz.ntmps30;go_wp2_with (fail);refine (read_p _ n₀ b v m (wrap64 (d+3)) HM.o).mono ?_;rw [HZ.o];rintro e W1 ⟨rfl,m1,t1⟩;have M1:=gh m1;have T1:=gh t1;have F1:=gh (H.o.turned t1 (fun e=>HFB.o e));clear m1 t1;go_wp2_with (fail);refine (pk_fin _ f _ z F1.o).mono ?_;rintro e W2 ⟨rfl,f2,t2⟩;have F2:=gh f2;have M2:=gh (M1.o.turned t2 (fun k hk e=>HF.o (by rw [<- e];exact hk)));have T2:Hid (Td (fun k=>k=f∨k=b) W W2):=gh (T1.o.trans t2 (fun _ e=>.inr e) (fun _ _ e=>.inl e));clear f2 t2;go_wp2_with (fail);refine (pk_done _ f _ F2.o r HR.o).mono ?_;rintro e W3 ⟨rfl,rfl⟩;go_wp2;go_ret;exact ⟨rfl,F2.o,M2.o,T2.o⟩
   ·rw [if_neg n2] at e1;have g2:(n == 2)=false:=by simp [n2]
    by_cases n3:n=3
    ·subst n3;rw [if_pos rfl] at e1;obtain ⟨z,hz⟩:∃ z,m.look (wrap64 (d+2))=z:=⟨_,rfl⟩;rw [hz] at e1;obtain ⟨rfl,rfl⟩:=Prod.mk.inj e1;have HZ:=gh hz;clear h hm ho hf e1 hz e2;go_enter Tryz.func30,Tryz.ntmps30;go_wp2_with (fail);refine (read_p _ n₀ b v m (wrap64 (d+2)) HM.o).mono ?_;rw [HZ.o];rintro e W1 ⟨rfl,m1,t1⟩;have M1:=gh m1;have T1:=gh t1;have F1:=gh (H.o.turned t1 (fun e=>HFB.o e));clear m1 t1;go_wp2_with (fail);refine (pk_fin _ f _ z F1.o).mono ?_;rintro e W2 ⟨rfl,f2,t2⟩;have F2:=gh f2;have M2:=gh (M1.o.turned t2 (fun k hk e=>HF.o (by rw [<- e];exact hk)));have T2:Hid (Td (fun k=>k=f∨k=b) W W2):=gh (T1.o.trans t2 (fun _ e=>.inr e) (fun _ _ e=>.inl e));clear f2 t2;go_wp2_with (fail);refine (pk_done _ f _ F2.o r HR.o).mono ?_;rintro e W3 ⟨rfl,rfl⟩;go_wp2;go_ret;exact ⟨rfl,F2.o,M2.o,T2.o⟩
    ·rw [if_neg n3] at e1;have g3:(n == 3)=false:=by simp [n3]
     obtain ⟨rfl,rfl⟩:=Prod.mk.inj e1;clear h hm ho hf e1 e2;go_enter Tryz.func30,Tryz.ntmps30;go_wp2_with (fail);refine (pk_done _ f _ H.o r HR.o).mono ?_;rintro e W3 ⟨rfl,rfl⟩;go_wp2;go_ret;exact ⟨rfl,H.o,HM.o,Td.refl _ _⟩
end
section
set_option maxRecDepth 20000
attribute [local go_sem] Oper.semAt_some
structure Hp where
 n:Int
 a:Int
 g:Int
 o:Int
 s:Int
 p:Int
 w:Int
def Hp.cs (p:Hp):Array Value:=#[.int .i64 p.n,.int .i64 p.a,.int .i64 p.g,.int .i64 p.o,.int .i64 p.s,.int .i64 p.p,.int .i64 p.w]
def HpAt (W:World) (f:Nat) (p:Hp):Prop:=W.heap[f]? = some (.cells #[.int .i64 p.n,.int .i64 p.a,.int .i64 p.g,.int .i64 p.o,.int .i64 p.s,.int .i64 p.p,.int .i64 p.w] 156)
theorem HpAt.turned {W W':World} {f:Nat} {p:Hp} {R:Nat->Prop} (h:HpAt W f p) (t:Td R W W') (hR:¬ R f):HpAt W' f p:=t.heap h hR
theorem HpAt.kept {W W':World} {f:Nat} {p:Hp} (h:HpAt W f p) (t:Kept W W'):HpAt W' f p:=t.heap h id
theorem HpAt.lt {W:World} {f:Nat} {p:Hp} (h:HpAt W f p):f < W.heap.size:=(Array.getElem?_eq_some_iff.1 h).1
theorem HpAt.cells {W:World} {f:Nat} {p:Hp} (h:HpAt W f p):(W.cell? ⟨f,0,none⟩=some (.int .i64 p.n)/\W.cell? ⟨f,1,none⟩=some (.int .i64 p.a)/\W.cell? ⟨f,2,none⟩=some (.int .i64 p.g)/\W.cell? ⟨f,3,none⟩=some (.int .i64 p.o)/\W.cell? ⟨f,4,none⟩=some (.int .i64 p.s)/\W.cell? ⟨f,5,none⟩=some (.int .i64 p.p)/\W.cell? ⟨f,6,none⟩=some (.int .i64 p.w))/\∀ i,W.frozen? ⟨f,i,none⟩=false:=by
 have hb:W.heap[f]? = _:=h;simp [World.cell?,World.frozen?,hb]
namespace Hp
def new (a:Int):Hp:=⟨0,a,0,0,0,0,0⟩
def outZ (z:Int):Int:=if z=0 then 1 else 2
def placeZ (z:Int):Int:=if z=1 then 3 else 2
def step (p:Hp) (m:Mst):Hp × Mst:=
 if p.n=0 then ({ p with g:=m.look p.a,n:=1 },m.touch p.a)
 else if p.n=1 then ({ p with o:=outZ (m.look p.g),n:=2 },m.touch p.g)
 else if p.n=2 then ({ p with n:=3 },m.cas (p.a+4) 0 p.o)
 else if p.n=3 then ({ p with p:=placeZ (m.look (p.a+4)),n:=4 },m.touch (p.a+4))
 else if p.n=4 then ({ p with s:=m.look (p.a+1),n:=5 },m.touch (p.a+1))
 else if p.n=5 then ({ p with w:=m.look (p.a+p.p),n:=6 },m.touch (p.a+p.p))
 else if p.n=6 then ({ p with n:=7 },m.cas p.s (Rf.ofZ 5 p.a) p.w)
 else (p,m)
structure Ok (p:Hp):Prop where
 n:0<=p.n/\p.n<=7
 a:0<=p.a/\p.a<=1000000
 p:0<=p.p/\p.p<=10
end Hp
theorem hp_new (W:World) (a:Int):Calls Tryz.prog 38 #[.int .i64 a] W fun e W'=>e=.returned (.pointer (some ⟨W.heap.size,0,none⟩))/\HpAt W' W.heap.size (Hp.new a)/\Kept W W':=by
 go_enter Tryz.func38,Tryz.ntmps38;go_wp2;go_ret;exact ⟨rfl,heap_new _ _,Td.alloc _ _ _⟩
theorem hp_done (W:World) (f:Nat) (p:Hp) (h:HpAt W f p) (r:Bool) (e1:(p.n == 7)=r):Calls Tryz.prog 41 #[.pointer (some ⟨f,0,none⟩)] W fun e W'=>e=.returned (.bool r)/\W=W':=by
 obtain ⟨⟨c0,_⟩,_⟩:=h.cells;subst e1;clear h;go_enter Tryz.func41,Tryz.ntmps41;go_wp2;go_ret;exact ⟨rfl,rfl⟩
theorem out_q (W:World) (z r:Int) (e1:Hp.outZ z=r):Calls Tryz.prog 95 #[.int .i64 z] W fun e W'=>e=.returned (.int .i64 r)/\W=W':=by
 subst e1;unfold Hp.outZ
 by_cases hz:z=0
 ·rw [if_pos hz];subst hz;go_enter Tryz.func95,Tryz.ntmps95;go_wp2;go_ret;exact ⟨rfl,rfl⟩
 ·rw [if_neg hz];have g:(z == 0)=false:=by simp [hz]
  go_enter Tryz.func95,Tryz.ntmps95;go_wp2;go_ret;exact ⟨rfl,rfl⟩
theorem place_q (W:World) (z r:Int) (e1:Hp.placeZ z=r):Calls Tryz.prog 96 #[.int .i64 z] W fun e W'=>e=.returned (.int .i64 r)/\W=W':=by
 subst e1;unfold Hp.placeZ
 by_cases hz:z=1
 ·rw [if_pos hz];subst hz;go_enter Tryz.func96,Tryz.ntmps96;go_wp2;go_ret;exact ⟨rfl,rfl⟩
 ·rw [if_neg hz];have g:(z == 1)=false:=by simp [hz]
  go_enter Tryz.func96,Tryz.ntmps96;go_wp2;go_ret;exact ⟨rfl,rfl⟩
theorem of_q (W:World) (k a r:Int) (e1:Rf.ofZ k a=r):Calls Tryz.prog 97 #[.int .i64 k,.int .i64 a] W fun e W'=>e=.returned (.int .i64 r)/\W=W':=by
 subst e1;refine (Rf.of_c k a W).mono ?_;rintro e w' ⟨rfl,rfl⟩;exact ⟨rfl,rfl⟩
structure HpRan (W:World) (n₀ b:Nat) (v:Value) (f:Nat) (p:Hp) (m:Mst) (W':World):Prop where
 frame:HpAt W' f p
 mem:PMem W' n₀ b v m
 turned:Td (fun k=>k=f∨Foot b v k) W W'
set_option maxHeartbeats 4000000 in
theorem hp_step (W:World) (n₀ b:Nat) (v:Value) (f:Nat) (p:Hp) (m:Mst) (h:HpAt W f p) (hm:PMem W n₀ b v m) (hok:p.Ok) (ho:∀ a,I64 (m.look a)) (hf:¬ Foot b v f) (p':Hp) (m':Mst) (r:Bool) (e1:p.step m=(p',m')) (e2:(p'.n == 7)=r) :
  Calls Tryz.prog 40 #[.pointer (some ⟨f,0,none⟩),.pointer (some ⟨b,0,none⟩)] W fun e W'=>e=.returned (.bool r)/\HpRan W n₀ b v f p' m' W':=by
 obtain ⟨⟨c0,c1,c2,c3,c4,c5,c6⟩,fz⟩:=h.cells;have H:=gh h;have HM:=gh hm;have HO:=gh ho;have HF:=gh hf;have HR:=gh e2;obtain ⟨⟨n1,n2⟩,⟨a1,a2⟩,p1,p2⟩:=hok;have D0:∀ (q:Bool),(p.n == 7)=q->Calls Tryz.prog 41 #[.pointer (some ⟨f,0,none⟩)] W fun e W'=>e=.returned (.bool q)/\W=W':=fun q hq=>hp_done W f p h q hq;unfold Hp.step at e1;obtain ⟨n,a,g,o,s,q,wd⟩:=p;simp only at c0 c1 c2 c3 c4 c5 c6 e1 n1 n2 a1 a2 p1 p2 D0;obtain rfl | rfl | rfl | rfl | rfl | rfl | rfl | rfl:n=0∨n=1∨n=2∨n=3∨n=4∨n=5∨n=6∨n=7:=by omega
 ·have ne:((0:Int) == 7)=false:=by decide
  simp (config:={ decide:=true }) only [reduceIte] at e1;obtain ⟨z,hz⟩:∃ z,m.look (a)=z:=⟨_,rfl⟩;rw [hz] at e1;obtain ⟨rfl,rfl⟩:=Prod.mk.inj e1;have HZ:=gh hz;obtain ⟨z1,z2⟩:I64 z:=by rw [<- hz];exact ho _
  clear h hm ho hf e1 e2 hz;go_enter Tryz.func40,Tryz.ntmps40;go_wp2_with (fail);refine (D0 false ne).mono ?_;rintro e w' ⟨rfl,rfl⟩;clear D0;go_wp2_with (fail);refine (read_p _ n₀ b v m (a) HM.o).mono ?_;rw [HZ.o];rintro e W1 ⟨rfl,m1,t1⟩;have M1:=gh m1;have T1:Hid (Td (Foot b v) W W1):=gh (t1.mono (fun _ _ e=>.inl e));have F1:=gh (H.o.turned T1.o HF.o);clear m1 t1;obtain ⟨⟨d0,d1,d2,d3,d4,d5,d6⟩,df⟩:=F1.o.cells;have df0:=df 0;have df2:=df 2;simp only at d0 d1 d2 d3 d4 d5 d6;obtain ⟨W2,hW2⟩:∃ W2,(W1.setCell ⟨f,2,none⟩ (.int .i64 z)).setCell ⟨f,0,none⟩ (.int .i64 1)=W2:=⟨_,rfl⟩;have F2:HpAt W2 f ⟨1,a,z,o,s,q,wd⟩:=by
   have hb:W1.heap[f]? = _:=F1.o;rw [<- hW2];simp [HpAt,World.setCell,Array.getElem?_modify,hb]
  have T2:Td (fun k=>k=f) W1 W2:=by
   rw [<- hW2];exact (Td.setCell (R:=fun k=>k=f) _ _ _ rfl).trans (Td.setCell (R:=fun k=>k=f) _ _ _ rfl) (fun _ e=>e) (fun _ _ e=>e)
  have HF2:=gh F2;have HT2:=gh T2;have HW2:=gh hW2;clear F2 T2 hW2 df;go_wp2_with (fail);rw [HW2.o];refine (hp_done W2 f _ HF2.o r (by have:=HR.o;simpa using this)).mono ?_;rintro e W3 ⟨rfl,rfl⟩;go_wp2;go_ret;exact ⟨rfl,HF2.o,M1.o.turned HT2.o (fun k hk e=>HF.o (by rw [<- e];exact hk)),T1.o.trans HT2.o (fun _ e=>.inr e) (fun _ _ e=>.inl e)⟩
 ·have ne:((1:Int) == 7)=false:=by decide
  simp (config:={ decide:=true }) only [reduceIte] at e1;obtain ⟨z,hz⟩:∃ z,m.look (g)=z:=⟨_,rfl⟩;rw [hz] at e1;obtain ⟨rfl,rfl⟩:=Prod.mk.inj e1;have HZ:=gh hz;obtain ⟨z1,z2⟩:I64 z:=by rw [<- hz];exact ho _
  obtain ⟨y,hy⟩:∃ y,Hp.outZ z=y:=⟨_,rfl⟩;have HY:=gh hy;clear h hm ho hf e1 e2 hz hy;go_enter Tryz.func40,Tryz.ntmps40;go_wp2_with (fail);refine (D0 false ne).mono ?_;rintro e w' ⟨rfl,rfl⟩;clear D0;go_wp2_with (fail);refine (read_p _ n₀ b v m (g) HM.o).mono ?_;rw [HZ.o];rintro e W1 ⟨rfl,m1,t1⟩;have M1:=gh m1;have T1:Hid (Td (Foot b v) W W1):=gh (t1.mono (fun _ _ e=>.inl e));have F1:=gh (H.o.turned T1.o HF.o);clear m1 t1;go_wp2_with (fail);refine (out_q _ z y HY.o).mono ?_;rintro e w' ⟨rfl,rfl⟩;obtain ⟨⟨d0,d1,d2,d3,d4,d5,d6⟩,df⟩:=F1.o.cells;have df0:=df 0;have df3:=df 3;simp only at d0 d1 d2 d3 d4 d5 d6;obtain ⟨W2,hW2⟩:∃ W2,(W1.setCell ⟨f,3,none⟩ (.int .i64 y)).setCell ⟨f,0,none⟩ (.int .i64 2)=W2:=⟨_,rfl⟩;have F2:HpAt W2 f ⟨2,a,g,y,s,q,wd⟩:=by
   have hb:W1.heap[f]? = _:=F1.o;rw [<- hW2];simp [HpAt,World.setCell,Array.getElem?_modify,hb]
  have T2:Td (fun k=>k=f) W1 W2:=by
   rw [<- hW2];exact (Td.setCell (R:=fun k=>k=f) _ _ _ rfl).trans (Td.setCell (R:=fun k=>k=f) _ _ _ rfl) (fun _ e=>e) (fun _ _ e=>e)
  have HF2:=gh F2;have HT2:=gh T2;have HW2:=gh hW2;clear F2 T2 hW2 df;go_wp2_with (fail);rw [HW2.o];refine (hp_done W2 f _ HF2.o r (by have:=HR.o;simpa using this)).mono ?_;rintro e W3 ⟨rfl,rfl⟩;go_wp2;go_ret;exact ⟨rfl,by rw [HY.o];exact HF2.o,M1.o.turned HT2.o (fun k hk e=>HF.o (by rw [<- e];exact hk)),T1.o.trans HT2.o (fun _ e=>.inr e) (fun _ _ e=>.inl e)⟩
 ·have ne:((2:Int) == 7)=false:=by decide
  simp (config:={ decide:=true }) only [reduceIte] at e1;obtain ⟨rfl,rfl⟩:=Prod.mk.inj e1;obtain ⟨V,hV⟩:∃ V,W.drew=V:=⟨_,rfl⟩;have kV:Kept W V:=by rw [<- hV];exact Kept.drew _
  obtain ⟨⟨v0,v1,v2,v3,v4,v5,v6⟩,_⟩:=(h.kept kV).cells;have x1:∀ u:Wd (fun U=>Td (Foot b v) V U),u.w.cell? ⟨f,1,none⟩=some (.int .i64 a):=fun u=>u.ok.cell v1 hf;have x3:∀ u:Wd (fun U=>Td (Foot b v) V U),u.w.cell? ⟨f,3,none⟩=some (.int .i64 o):=fun u=>u.ok.cell v3 hf;have HV:=gh hV;have KV:=gh kV;have FV:=gh (h.kept kV);have MV:=gh (hm.kept kV);clear hV kV v0 v1 v2 v3 v4 v5 v6;clear h hm ho hf e1 e2;go_enter Tryz.func40,Tryz.ntmps40;go_wp2_with (fail);refine (D0 false ne).mono ?_;rintro e w' ⟨rfl,rfl⟩;clear D0;go_wp2_with (fail);refine region_wide [0,1,2,3,4,5,6,7,8,9,10] (fun U=>Td (Foot b v) V U) (by kernel_rfl) (by kernel_rfl) (by rw [HV.o];exact Td.refl _ _) (fun _=>?_);rw [HV.o]
  repeat (refine pq rfl rfl ?_;go_big_quiet_step (fail);refine wpQuiet_nil ?_)
  refine pl rfl rfl ?_;gi_wp2_with (fail);refine ⟨trivial,?_⟩;refine (callsIn_wide.2 (cas_p V n₀ b v m (a+4) 0 o MV.o)).mono ?_;rintro e W1 ⟨rfl,m1,t1⟩;have T9:Hid (Td (Foot b v) V W1):=gh (t1);have M1:=gh m1;have T1:Hid (Td (Foot b v) W W1):=gh (KV.o.then T9.o);have F1:=gh (FV.o.turned T9.o HF.o);clear m1 t1;gi_wp2_with (fail);refine ⟨Wd.mem T9.o,?_⟩;refine perm_done ?_;clear x1 x3;obtain ⟨⟨d0,d1,d2,d3,d4,d5,d6⟩,df⟩:=F1.o.cells;have df0:=df 0;simp only at d0 d1 d2 d3 d4 d5 d6;obtain ⟨W2,hW2⟩:∃ W2,W1.setCell ⟨f,0,none⟩ (.int .i64 3)=W2:=⟨_,rfl⟩;have F2:HpAt W2 f ⟨3,a,g,o,s,q,wd⟩:=by
   have hb:W1.heap[f]? = _:=F1.o;rw [<- hW2];simp [HpAt,World.setCell,Array.getElem?_modify,hb]
  have T2:Td (fun k=>k=f) W1 W2:=by
   rw [<- hW2];exact Td.setCell (R:=fun k=>k=f) _ _ _ rfl
  have HF2:=gh F2;have HT2:=gh T2;have HW2:=gh hW2;clear F2 T2 hW2 df;go_wp2_with (fail);rw [HW2.o];refine (hp_done W2 f _ HF2.o r (by have:=HR.o;simpa using this)).mono ?_;rintro e W3 ⟨rfl,rfl⟩;go_wp2;go_ret;exact ⟨rfl,HF2.o,M1.o.turned HT2.o (fun k hk e=>HF.o (by rw [<- e];exact hk)),T1.o.trans HT2.o (fun _ e=>.inr e) (fun _ _ e=>.inl e)⟩
 ·have ne:((3:Int) == 7)=false:=by decide
  simp (config:={ decide:=true }) only [reduceIte] at e1;obtain ⟨z,hz⟩:∃ z,m.look (a+4)=z:=⟨_,rfl⟩;rw [hz] at e1;obtain ⟨rfl,rfl⟩:=Prod.mk.inj e1;have HZ:=gh hz;obtain ⟨z1,z2⟩:I64 z:=by rw [<- hz];exact ho _
  obtain ⟨y,hy⟩:∃ y,Hp.placeZ z=y:=⟨_,rfl⟩;have HY:=gh hy;clear h hm ho hf e1 e2 hz hy;go_enter Tryz.func40,Tryz.ntmps40;go_wp2_with (fail);refine (D0 false ne).mono ?_;rintro e w' ⟨rfl,rfl⟩;clear D0;go_wp2_with (fail);refine (read_p _ n₀ b v m (a+4) HM.o).mono ?_;rw [HZ.o];rintro e W1 ⟨rfl,m1,t1⟩;have M1:=gh m1;have T1:Hid (Td (Foot b v) W W1):=gh (t1.mono (fun _ _ e=>.inl e));have F1:=gh (H.o.turned T1.o HF.o);clear m1 t1;go_wp2_with (fail);refine (place_q _ z y HY.o).mono ?_;rintro e w' ⟨rfl,rfl⟩;obtain ⟨⟨d0,d1,d2,d3,d4,d5,d6⟩,df⟩:=F1.o.cells;have df0:=df 0;have df5:=df 5;simp only at d0 d1 d2 d3 d4 d5 d6;obtain ⟨W2,hW2⟩:∃ W2,(W1.setCell ⟨f,5,none⟩ (.int .i64 y)).setCell ⟨f,0,none⟩ (.int .i64 4)=W2:=⟨_,rfl⟩;have F2:HpAt W2 f ⟨4,a,g,o,s,y,wd⟩:=by
   have hb:W1.heap[f]? = _:=F1.o;rw [<- hW2];simp [HpAt,World.setCell,Array.getElem?_modify,hb]
  have T2:Td (fun k=>k=f) W1 W2:=by
   rw [<- hW2];exact (Td.setCell (R:=fun k=>k=f) _ _ _ rfl).trans (Td.setCell (R:=fun k=>k=f) _ _ _ rfl) (fun _ e=>e) (fun _ _ e=>e)
  have HF2:=gh F2;have HT2:=gh T2;have HW2:=gh hW2;clear F2 T2 hW2 df;go_wp2_with (fail);rw [HW2.o];refine (hp_done W2 f _ HF2.o r (by have:=HR.o;simpa using this)).mono ?_;rintro e W3 ⟨rfl,rfl⟩;go_wp2;go_ret;exact ⟨rfl,by rw [HY.o];exact HF2.o,M1.o.turned HT2.o (fun k hk e=>HF.o (by rw [<- e];exact hk)),T1.o.trans HT2.o (fun _ e=>.inr e) (fun _ _ e=>.inl e)⟩
 ·have ne:((4:Int) == 7)=false:=by decide
  simp (config:={ decide:=true }) only [reduceIte] at e1;obtain ⟨z,hz⟩:∃ z,m.look (a+1)=z:=⟨_,rfl⟩;rw [hz] at e1;obtain ⟨rfl,rfl⟩:=Prod.mk.inj e1;have HZ:=gh hz;obtain ⟨z1,z2⟩:I64 z:=by rw [<- hz];exact ho _
  clear h hm ho hf e1 e2 hz;go_enter Tryz.func40,Tryz.ntmps40;go_wp2_with (fail);refine (D0 false ne).mono ?_;rintro e w' ⟨rfl,rfl⟩;clear D0;go_wp2_with (fail);refine (read_p _ n₀ b v m (a+1) HM.o).mono ?_;rw [HZ.o];rintro e W1 ⟨rfl,m1,t1⟩;have M1:=gh m1;have T1:Hid (Td (Foot b v) W W1):=gh (t1.mono (fun _ _ e=>.inl e));have F1:=gh (H.o.turned T1.o HF.o);clear m1 t1;obtain ⟨⟨d0,d1,d2,d3,d4,d5,d6⟩,df⟩:=F1.o.cells;have df0:=df 0;have df4:=df 4;simp only at d0 d1 d2 d3 d4 d5 d6;obtain ⟨W2,hW2⟩:∃ W2,(W1.setCell ⟨f,4,none⟩ (.int .i64 z)).setCell ⟨f,0,none⟩ (.int .i64 5)=W2:=⟨_,rfl⟩;have F2:HpAt W2 f ⟨5,a,g,o,z,q,wd⟩:=by
   have hb:W1.heap[f]? = _:=F1.o;rw [<- hW2];simp [HpAt,World.setCell,Array.getElem?_modify,hb]
  have T2:Td (fun k=>k=f) W1 W2:=by
   rw [<- hW2];exact (Td.setCell (R:=fun k=>k=f) _ _ _ rfl).trans (Td.setCell (R:=fun k=>k=f) _ _ _ rfl) (fun _ e=>e) (fun _ _ e=>e)
  have HF2:=gh F2;have HT2:=gh T2;have HW2:=gh hW2;clear F2 T2 hW2 df;go_wp2_with (fail);rw [HW2.o];refine (hp_done W2 f _ HF2.o r (by have:=HR.o;simpa using this)).mono ?_;rintro e W3 ⟨rfl,rfl⟩;go_wp2;go_ret;exact ⟨rfl,HF2.o,M1.o.turned HT2.o (fun k hk e=>HF.o (by rw [<- e];exact hk)),T1.o.trans HT2.o (fun _ e=>.inr e) (fun _ _ e=>.inl e)⟩
 ·have ne:((5:Int) == 7)=false:=by decide
  simp (config:={ decide:=true }) only [reduceIte] at e1;obtain ⟨z,hz⟩:∃ z,m.look (a+q)=z:=⟨_,rfl⟩;rw [hz] at e1;obtain ⟨rfl,rfl⟩:=Prod.mk.inj e1;have HZ:=gh hz;obtain ⟨z1,z2⟩:I64 z:=by rw [<- hz];exact ho _
  obtain ⟨V,hV⟩:∃ V,W.drew=V:=⟨_,rfl⟩;have kV:Kept W V:=by rw [<- hV];exact Kept.drew _
  obtain ⟨⟨v0,v1,v2,v3,v4,v5,v6⟩,_⟩:=(h.kept kV).cells;have x1:∀ u:Wd (fun U=>Td (Foot b v) V U),u.w.cell? ⟨f,1,none⟩=some (.int .i64 a):=fun u=>u.ok.cell v1 hf;have x5:∀ u:Wd (fun U=>Td (Foot b v) V U),u.w.cell? ⟨f,5,none⟩=some (.int .i64 q):=fun u=>u.ok.cell v5 hf;have HV:=gh hV;have KV:=gh kV;have FV:=gh (h.kept kV);have MV:=gh (hm.kept kV);clear hV kV v0 v1 v2 v3 v4 v5 v6;clear h hm ho hf e1 e2 hz;go_enter Tryz.func40,Tryz.ntmps40;go_wp2_with (fail);refine (D0 false ne).mono ?_;rintro e w' ⟨rfl,rfl⟩;clear D0;go_wp2_with (fail);refine region_last [0,1,2,3,4,5,6,7,8,9,10,11,12,13] 14 (fun U=>Td (Foot b v) V U) (by kernel_rfl) (by kernel_rfl) (by rw [HV.o];exact Td.refl _ _) (fun _=>?_);rw [HV.o]
  repeat (refine lq rfl rfl ?_;go_big_quiet_step (fail);refine wpQuiet_nil ?_)
  refine ll rfl rfl ?_;gi_wp2_with (fail);refine ⟨trivial,?_⟩;refine (callsIn_wide.2 (read_p V n₀ b v m (a+q) MV.o)).mono ?_;rw [HZ.o];rintro e W1 ⟨rfl,m1,t1⟩;have T9:Hid (Td (Foot b v) V W1):=gh (t1.mono (fun _ _ e=>.inl e));have M1:=gh m1;have T1:Hid (Td (Foot b v) W W1):=gh (KV.o.then T9.o);have F1:=gh (FV.o.turned T9.o HF.o);clear m1 t1;gi_wp2_with (fail);refine ⟨Wd.mem T9.o,?_⟩
  repeat (refine lq rfl rfl ?_;go_big_quiet_step (fail);refine wpQuiet_nil ?_)
  obtain ⟨⟨d0,d1,d2,d3,d4,d5,d6⟩,df⟩:=F1.o.cells;have df0:=df 0;have df6:=df 6;simp only at d0 d1 d2 d3 d4 d5 d6;obtain ⟨W2,hW2⟩:∃ W2,(W1.setCell ⟨f,6,none⟩ (.int .i64 z)).setCell ⟨f,0,none⟩ (.int .i64 6)=W2:=⟨_,rfl⟩;have F2:HpAt W2 f ⟨6,a,g,o,s,q,z⟩:=by
   have hb:W1.heap[f]? = _:=F1.o;rw [<- hW2];simp [HpAt,World.setCell,Array.getElem?_modify,hb]
  have T2:Td (fun k=>k=f) W1 W2:=by
   rw [<- hW2];exact (Td.setCell (R:=fun k=>k=f) _ _ _ rfl).trans (Td.setCell (R:=fun k=>k=f) _ _ _ rfl) (fun _ e=>e) (fun _ _ e=>e)
  have HF2:=gh F2;have HT2:=gh T2;have HW2:=gh hW2;clear F2 T2 hW2 df;clear x1 x5;refine lz rfl ?_;gi_wp2;refine last_done ?_;go_wp2_with (fail);rw [HW2.o];refine (hp_done W2 f _ HF2.o r (by have:=HR.o;simpa using this)).mono ?_;rintro e W3 ⟨rfl,rfl⟩;go_wp2;go_ret;exact ⟨rfl,HF2.o,M1.o.turned HT2.o (fun k hk e=>HF.o (by rw [<- e];exact hk)),T1.o.trans HT2.o (fun _ e=>.inr e) (fun _ _ e=>.inl e)⟩
 ·have ne:((6:Int) == 7)=false:=by decide
  simp (config:={ decide:=true }) only [reduceIte] at e1;obtain ⟨rfl,rfl⟩:=Prod.mk.inj e1;obtain ⟨me,hme⟩:∃ me,Rf.ofZ 5 a=me:=⟨_,rfl⟩;have HME:=gh hme;have CO:∀ X,Calls Tryz.prog 97 #[.int .i64 5,.int .i64 a] X fun e W'=>e=.returned (.int .i64 me)/\X=W':=fun X=>of_q X 5 a me hme;obtain ⟨V,hV⟩:∃ V,W.drew=V:=⟨_,rfl⟩;have kV:Kept W V:=by rw [<- hV];exact Kept.drew _
  obtain ⟨⟨v0,v1,v2,v3,v4,v5,v6⟩,_⟩:=(h.kept kV).cells;have x1:∀ u:Wd (fun U=>Td (Foot b v) V U),u.w.cell? ⟨f,1,none⟩=some (.int .i64 a):=fun u=>u.ok.cell v1 hf;have x4:∀ u:Wd (fun U=>Td (Foot b v) V U),u.w.cell? ⟨f,4,none⟩=some (.int .i64 s):=fun u=>u.ok.cell v4 hf;have x6:∀ u:Wd (fun U=>Td (Foot b v) V U),u.w.cell? ⟨f,6,none⟩=some (.int .i64 wd):=fun u=>u.ok.cell v6 hf;have HV:=gh hV;have KV:=gh kV;have FV:=gh (h.kept kV);have MV:=gh (hm.kept kV);clear hV kV v0 v1 v2 v3 v4 v5 v6;clear h hm ho hf e1 e2 hme;go_enter Tryz.func40,Tryz.ntmps40;go_wp2_with (fail);refine (D0 false ne).mono ?_;rintro e w' ⟨rfl,rfl⟩;clear D0;go_wp2_with (fail);refine region_wide [0,1,2,3,4,5,6,7,8,10,11,12,13,9,14] (fun U=>Td (Foot b v) V U) (by kernel_rfl) (by kernel_rfl) (by rw [HV.o];exact Td.refl _ _) (fun _=>?_);rw [HV.o]
  repeat (refine pq rfl rfl ?_;go_big_quiet_step (fail);refine wpQuiet_nil ?_)
  refine pl rfl rfl ?_;gi_wp2_with (fail);refine ⟨trivial,?_⟩;refine (callsIn_wide.2 (CO V)).mono ?_;rintro e w' ⟨rfl,rfl⟩;gi_wp2_with (fail);refine ⟨Wd.mem (Td.refl _ _),?_⟩;refine pl rfl rfl ?_;gi_wp2_with (fail);refine ⟨trivial,?_⟩;refine (callsIn_wide.2 (cas_p V n₀ b v m s me wd MV.o)).mono ?_;rintro e W1 ⟨rfl,m1,t1⟩;have T9:Hid (Td (Foot b v) V W1):=gh (t1);have M1:=gh m1;have T1:Hid (Td (Foot b v) W W1):=gh (KV.o.then T9.o);have F1:=gh (FV.o.turned T9.o HF.o);clear m1 t1;gi_wp2_with (fail);refine ⟨Wd.mem T9.o,?_⟩;refine perm_done ?_;clear x1 x4 x6;obtain ⟨⟨d0,d1,d2,d3,d4,d5,d6⟩,df⟩:=F1.o.cells;have df0:=df 0;simp only at d0 d1 d2 d3 d4 d5 d6;obtain ⟨W2,hW2⟩:∃ W2,W1.setCell ⟨f,0,none⟩ (.int .i64 7)=W2:=⟨_,rfl⟩;have F2:HpAt W2 f ⟨7,a,g,o,s,q,wd⟩:=by
   have hb:W1.heap[f]? = _:=F1.o;rw [<- hW2];simp [HpAt,World.setCell,Array.getElem?_modify,hb]
  have T2:Td (fun k=>k=f) W1 W2:=by
   rw [<- hW2];exact Td.setCell (R:=fun k=>k=f) _ _ _ rfl
  have HF2:=gh F2;have HT2:=gh T2;have HW2:=gh hW2;clear F2 T2 hW2 df;go_wp2_with (fail);rw [HW2.o];refine (hp_done W2 f _ HF2.o r (by have:=HR.o;simpa using this)).mono ?_;rintro e W3 ⟨rfl,rfl⟩;go_wp2;go_ret;exact ⟨rfl,HF2.o,by rw [HME.o];exact M1.o.turned HT2.o (fun k hk e=>HF.o (by rw [<- e];exact hk)),T1.o.trans HT2.o (fun _ e=>.inr e) (fun _ _ e=>.inl e)⟩
 ·simp (config:={ decide:=true }) only [reduceIte] at e1;obtain ⟨rfl,rfl⟩:=Prod.mk.inj e1;clear h hm ho hf e1 e2;go_enter Tryz.func40,Tryz.ntmps40;go_wp2_with (fail);refine (D0 true rfl).mono ?_;rintro e w' ⟨rfl,rfl⟩;go_wp2_with (fail);refine (D0 r HR.o).mono ?_;rintro e w' ⟨rfl,rfl⟩;go_wp2;go_ret;exact ⟨rfl,H.o,HM.o,Td.refl _ _⟩
end
section
set_option maxRecDepth 20000
attribute [local go_sem] Oper.semAt_some
structure Rd where
 s:Int
 c:Option Hp
 w:Int
 d:Bool
namespace Rd
def new (s:Int):Rd:=⟨s,none,0,false⟩
def take (p:Rd) (z:Int):Rd:=if kd z=5 then { p with c:=some (Hp.new (ad z)) } else { p with w:=z,d:=true }
def step (p:Rd) (m:Mst):Rd × Mst:=
 if p.d=true then (p,m) else
 match p.c with
 | none=>(p.take (m.look p.s),m.touch p.s)
 | some h=>({ p with c:=if ((h.step m).1.n == 7)=true then none else some (h.step m).1 },(h.step m).2)
end Rd
def RdAt (W:World) (f g:Nat) (p:Rd):Prop:=W.heap[f]? = some (.cells #[.int .i64 p.s,.pointer (if p.c.isSome then some ⟨g,0,none⟩ else none),.int .i64 p.w,.bool p.d] 159)/\∀ h,p.c=some h->HpAt W g h
theorem box4 {W:World} {f:Nat} {a b c d:Value} {T:TypeId} (h:W.heap[f]? = some (.cells #[a,b,c,d] T)):(W.cell? ⟨f,0,none⟩=some a/\W.cell? ⟨f,1,none⟩=some b/\W.cell? ⟨f,2,none⟩=some c/\W.cell? ⟨f,3,none⟩=some d)/\∀ i,W.frozen? ⟨f,i,none⟩=false:=by
 simp [World.cell?,World.frozen?,h]
theorem RdAt.lt {W:World} {f g:Nat} {p:Rd} (h:RdAt W f g p):f < W.heap.size:=(Array.getElem?_eq_some_iff.1 h.1).1
theorem RdAt.turned {W W':World} {f g:Nat} {p:Rd} {R:Nat->Prop} (h:RdAt W f g p) (t:Td R W W') (h1:¬ R f) (h2:p.c.isSome=true->¬ R g):RdAt W' f g p:=
 ⟨t.heap h.1 h1,fun q hq=>(h.2 q hq).turned t (h2 (by rw [hq];rfl))⟩
theorem MemAt.other {W:World} {n₀ b k:Nat} {v:Value} {m:Mst} {cs:Array Value} {T:TypeId} (h:PMem W n₀ b v m) (hk:W.heap[k]? = some (.cells cs T)) (h1:T≠135) (h2:T≠2):¬ Foot b v k:=by
 rintro (rfl | e)
 ·have:=h.box.symm.trans hk
  simp at this;exact h1 this.2.symm
 ·rcases h.row.2 with ⟨h0,_⟩ | ⟨g,cap,cur,h0,_,hg,_⟩
  ·rw [h0] at e;simp [Value.ownBlock] at e
  ·rw [h0] at e;obtain rfl:g=k:=by simpa [Value.ownBlock] using e
   have:=hg.symm.trans hk
   simp at this;exact h2 this.2.symm
theorem rd_new (W:World) (s:Int):Calls Tryz.prog 42 #[.int .i64 s] W fun e W'=>e=.returned (.pointer (some ⟨W.heap.size,0,none⟩))/\RdAt W' W.heap.size 0 (Rd.new s)/\Kept W W':=by
 go_enter Tryz.func42,Tryz.ntmps42;go_wp2;go_ret;exact ⟨rfl,⟨heap_new _ _,fun _ e=>by cases e⟩,Td.alloc _ _ _⟩
theorem rd_word (W:World) (f g:Nat) (p:Rd) (h:RdAt W f g p) (r:Int) (e1:p.w=r):Calls Tryz.prog 46 #[.pointer (some ⟨f,0,none⟩)] W fun e W'=>e=.returned (.int .i64 r)/\W=W':=by
 obtain ⟨⟨_,_,c2,_⟩,_⟩:=box4 h.1;subst e1;clear h;go_enter Tryz.func46,Tryz.ntmps46;go_wp2;go_ret;exact ⟨rfl,rfl⟩
theorem rd_take (W:World) (f:Nat) (p:Rd) (h:RdAt W f 0 p) (hc:p.c=none) (hd:p.d=false) (z:Int) (hz:I64 z) (p':Rd) (e1:p.take z=p'):Calls Tryz.prog 99 #[.pointer (some ⟨f,0,none⟩),.int .i64 z] W fun e W'=>e=.returned (.tuple #[])/\∃ g,RdAt W' f g p'/\W.heap.size<=g/\Td (fun k=>k=f) W W':=by
 have H:=gh h;obtain ⟨s,c,w,d⟩:=p;simp only at hc hd;subst hc hd;have hlt:=h.lt;obtain ⟨⟨c0,c1,c2,c3⟩,fz⟩:=box4 h.1;simp only at c0 c2 c3;obtain ⟨k,hk⟩:∃ k,kd z=k:=⟨_,rfl⟩;obtain ⟨a,ha⟩:∃ a,ad z=a:=⟨_,rfl⟩;have K:∀ X,Calls Tryz.prog 35 #[.int .i64 z] X fun e w'=>e=.returned (.int .i64 k)/\X=w':=fun X=>kd_q X z k hz hk;have A:∀ X,Calls Tryz.prog 69 #[.int .i64 z] X fun e w'=>e=.returned (.int .i64 a)/\X=w':=fun X=>ad_q X z a hz ha;unfold Rd.take at e1;rw [hk,ha] at e1;have f1:=fz 1;have f2:=fz 2;have f3:=fz 3;clear fz hk ha h hz
 by_cases h5:k=5
 ·subst h5;rw [if_pos rfl] at e1;subst e1;go_enter Tryz.func99,Tryz.ntmps99;go_wp2_with (fail);refine (K W).mono ?_;rintro e w' ⟨rfl,rfl⟩;go_wp2_with (fail);refine (A W).mono ?_;rintro e w' ⟨rfl,rfl⟩;go_wp2_with (fail);refine (hp_new W a).mono ?_;rintro e W1 ⟨rfl,p1,k1⟩;obtain ⟨⟨d0,d1,d2,d3⟩,df⟩:=box4 (k1.heap H.o.1 id);have df1:=df 1;have K1:=gh k1;have P1:=gh p1;obtain ⟨g,hg⟩:∃ g,W.heap.size=g:=⟨_,rfl⟩;have HG:=gh hg;rw [hg] at P1;clear k1 p1 c0 c1 c2 c3 f1 f2 f3 df;rw [hg];clear hg;go_wp2;refine bodyPost_ret (results_none rfl _ _ _) rfl ?_;refine ⟨rfl,g,⟨?_,?_⟩,Nat.le_of_eq HG.o,K1.o.then (Td.setCell (R:=fun k=>k=f) _ _ _ rfl)⟩
  ·rw [box_set _ (K1.o.heap H.o.1 id)];rfl
  ·intro q hq;cases hq;exact P1.o.turned (Td.setCell (R:=fun k=>k=f) _ _ _ rfl) (by have:=HG.o;omega)
 ·have g5:(k == 5)=false:=by simp [h5]
  rw [if_neg h5] at e1;subst e1;go_enter Tryz.func99,Tryz.ntmps99;go_wp2_with (fail);refine (K W).mono ?_;rintro e w' ⟨rfl,rfl⟩;go_wp2
  go_end0
  refine ⟨rfl,W.heap.size,⟨?_,fun _ e=>by cases e⟩,Nat.le_refl _,(Td.setCell (R:=fun k=>k=f) _ _ _ rfl).trans (Td.setCell (R:=fun k=>k=f) _ _ _ rfl) (fun _ e=>e) (fun _ _ e=>e)⟩;rw [box_set _ (box_set _ H.o.1)];rfl
def RdRan (W:World) (n₀ b:Nat) (v:Value) (f g:Nat) (p p':Rd) (m':Mst) (W':World):Prop:=
 ∃ g',RdAt W' f g' p'/\PMem W' n₀ b v m'/\(p'.c.isSome=true->(p.c.isSome=true/\g'=g)∨W.heap.size<=g')/\Td (fun k=>k=f∨(p.c.isSome=true/\k=g)∨Foot b v k) W W'
theorem RdAt.some {W:World} {f g g':Nat} {p:Rd} (h:RdAt W f g p) (hc:p.c=none):RdAt W f g' p:=by
 obtain ⟨s,c,w,d⟩:=p;subst hc;exact ⟨h.1,fun _ e=>by cases e⟩
set_option maxHeartbeats 1000000 in
theorem rd_step (W:World) (n₀ b:Nat) (v:Value) (f g:Nat) (p:Rd) (m:Mst) (h:RdAt W f g p) (hm:PMem W n₀ b v m) (hok:∀ q,p.c=some q->q.Ok) (ho:∀ a,I64 (m.look a)) (p':Rd) (m':Mst) (r:Bool) (e1:p.step m=(p',m')) (e2:p'.d=r) :
  Calls Tryz.prog 44 #[.pointer (some ⟨f,0,none⟩),.pointer (some ⟨b,0,none⟩)] W fun e W'=>e=.returned (.bool r)/\RdRan W n₀ b v f g p p' m' W':=by
 have H:=gh h;have HM:=gh hm;have HO:=gh ho;have HF:=gh (hm.other h.1 (by decide) (by decide));obtain ⟨s,c,w,d⟩:=p;obtain ⟨⟨c0,c1,c2,c3⟩,fz⟩:=box4 h.1;simp only at c0 c1 c2 c3;unfold Rd.step at e1;simp only at e1;cases d with
 | true=>
  rw [if_pos rfl] at e1;obtain ⟨rfl,rfl⟩:=Prod.mk.inj e1;simp only at e2;subst e2;clear h hm ho hok e1 fz;go_enter Tryz.func44,Tryz.ntmps44;go_wp2;go_ret;exact ⟨rfl,g,H.o,HM.o,fun e=>.inl ⟨e,rfl⟩,Td.refl _ _⟩
 | false=>
  rw [if_neg (by decide)] at e1;cases c with
  | none=>
   simp only at e1;obtain ⟨z,hz⟩:∃ z,m.look s=z:=⟨_,rfl⟩;rw [hz] at e1;obtain ⟨e3,rfl⟩:=Prod.mk.inj e1;have HZ:=gh hz;have hz':I64 z:=by rw [<- hz];exact ho _
   have HI:=gh hz';have HT:=gh e3;have H0:=gh (H.o.some (g':=0) rfl);clear h hm ho hok e1 fz hz hz' e3;simp only [Option.isSome_none,Bool.false_eq_true,if_false] at c1;go_enter Tryz.func44,Tryz.ntmps44;go_wp2_with (fail);refine (read_p W n₀ b v m s HM.o).mono ?_;rw [HZ.o];rintro e W1 ⟨rfl,m1,t1⟩;have M1:=gh m1;have T1:Hid (Td (Foot b v) W W1):=gh (t1.mono (fun _ _ e=>.inl e));have H1:=gh (H0.o.turned T1.o HF.o (fun e=>by cases e));clear m1 t1 c0 c1 c2 c3;go_wp2_with (fail);refine (rd_take W1 f _ H1.o rfl rfl z HI.o p' HT.o).mono ?_;rintro e W2 ⟨rfl,g',h2,l2,t2⟩;obtain ⟨⟨d0,d1,d2,d3⟩,_⟩:=box4 h2.1;rw [e2] at d3;have H2:=gh h2;have T2:=gh t2;have L2:=gh l2;clear h2 t2 l2 e2;go_wp2;go_ret;exact ⟨rfl,g',H2.o,M1.o.turned T2.o (fun k hk e=>HF.o (by rw [<- e];exact hk)),fun _=>.inr (Nat.le_trans T1.o.size L2.o),T1.o.trans T2.o (fun _ e=>.inr (.inr e)) (fun _ _ e=>.inl e)⟩
  | some q=>
   simp only [Option.isSome_some,if_true] at c1;have hq:=h.2 q rfl;have HQ:=gh hq;have HK:=gh (hok q rfl);have HG:=gh (hm.other hq (by decide) (by decide));have hfg:f≠g:=by
    rintro rfl
    have:=h.1.symm.trans hq
    simp at this
   have HFG:=gh hfg;obtain ⟨q',m1,hs⟩:∃ q' m1,q.step m=(q',m1):=⟨_,_,rfl⟩;obtain ⟨u,hu⟩:∃ u,(q'.n == 7)=u:=⟨_,rfl⟩;simp only [hs] at e1;obtain ⟨e3,rfl⟩:=Prod.mk.inj e1;have HS:=gh hs;have HU:=gh hu;rw [hu] at e3;subst e3;simp only at e2;subst e2;clear h hm ho hok e1 fz hq hs hu hfg;go_enter Tryz.func44,Tryz.ntmps44;go_wp2_with (fail);refine (hp_step W n₀ b v g q m HQ.o HM.o HK.o HO.o HG.o q' m1 u HS.o HU.o).mono ?_;rintro e W1 ⟨rfl,R⟩;obtain ⟨r1,r2,r3⟩:=R;have R1:=gh r1;have R2:=gh r2;have R3:=gh r3;have hb:W1.heap[f]? = _:=r3.heap H.o.1 (fun e=>e.elim (fun e=>HFG.o e) HF.o);have HB:=gh hb;obtain ⟨⟨d0,d1,d2,d3⟩,df⟩:=box4 hb;simp only at d0 d1 d2 d3;have df1:=df 1;clear r1 r2 r3 hb df c0 c1 c2 c3;cases u with
   | true=>
    go_wp2;go_ret;refine ⟨rfl,g,⟨?_,fun _ e=>by cases e⟩,R2.o.turned (Td.setCell (R:=fun k=>k=f) _ _ _ rfl) (fun k hk e=>HF.o (by rw [<- e];exact hk)),fun e=>(by cases e),R3.o.trans (Td.setCell (R:=fun k=>k=f) _ _ _ rfl) (fun _ e=>e.elim (fun e=>.inr (.inl ⟨rfl,e⟩)) (fun e=>.inr (.inr e))) (fun _ _ e=>.inl e)⟩;rw [box_set _ HB.o];rfl
   | false=>
    go_wp2;go_ret;refine ⟨rfl,g,⟨HB.o,?_⟩,R2.o,fun _=>.inl ⟨rfl,rfl⟩,R3.o.mono (fun _ _ e=>e.elim (fun e=>.inr (.inl ⟨rfl,e⟩)) (fun e=>.inr (.inr e)))⟩;rintro x e;cases e;exact R1.o
end
section
open Go.Shelf
variable {P Q:Nat->Prop}
def mineT (T:TypeId):Bool:=T == 31 || T == 107 || T == 117 || T == 116 || T == 80 || T == 43 || T == 168 || T == 2
theorem IxIs.beside {W W':World} {n₀ x mb tb:Nat} {ix:Ixp} {mv:Value} {tv lv:Sl} {pl:List Pt} {R:Nat->Prop} (h:IxIs P W n₀ x ix mb mv tb tv lv pl) (hR:∀ k,R k->P k∨∃ c T,W.heap[k]? = some (.cells c T)/\mineT T=false) (t:Td R W W')
  (hq:∀ k,Q k->(∃ c,W'.heap[k]? = some (.cells c 2))/\mv.ownBlock≠some k/\∀ p,p ∈ pl->p.tp.v.ownBlock≠some k):IxIs Q W' n₀ x ix mb mv tb tv lv pl:=by
 have key:∀ {z:Nat} {c:Array Value} {T:TypeId},W.heap[z]? = some (.cells c T)->mineT T=true->¬ P z->¬ R z:=fun hz e1 e2 e=>by
  rcases hR _ e with e | ⟨c',T',e,e3⟩
  ·exact e2 e
  ·rw [e] at hz;simp at hz;rw [hz.2,e1] at e3;cases e3
 have key2:∀ {z:Nat} {c:Array Value} {T:TypeId},W.heap[z]? = some (.cells c T)->mineT T=true->T≠2->¬ R z:=fun hz e1 e2=>key hz e1 (h.nt hz e2);refine ⟨h.le,t.heap h.box (key2 h.box (by decide) (by decide)),h.mem.turned t (fun k hk=>?_),h.mok,h.tva,h.tvn,?_,h.pn,fun i q p e1 e2=>?_,h.log.turned t (fun g e=>?_),h.dt,h.da,h.bz,hq⟩
 ·obtain ⟨c,hc | hc⟩:=h.mem.types k hk
  ·exact key2 hc (by decide) (by decide)
  ·refine key hc (by decide) (fun e=>?_);rcases hk with hk | hk
   ·have:=h.mem.box
    rw [<- hk,hc] at this;simp at this
   ·exact (h.np k e).2.1 hk
 ·obtain ⟨c,h1,h2⟩:=h.row;exact ⟨c,t.heap h1 (key2 h1 (by decide) (by decide)),h2⟩
 ·have th:=h.th i q p e1 e2;refine ⟨th.le,t.heap th.box (key2 th.box (by decide) (by decide)),?_⟩;rcases th.fr with hn | ⟨f,pp,h1,h2,F⟩
  ·exact .inl hn
  ·refine .inr ⟨f,pp,h1,h2,F.le,t.heap F.box (key2 F.box (by decide) (by decide)),F.row.turnedO t (fun g e=>?_),F.lst.turned t (fun g e=>?_),F.good,F.i64⟩
   ·obtain ⟨c,hc⟩:=F.row.typed g e;exact key hc (by decide) (fun e'=>(h.np g e').2.2 p (List.mem_of_getElem? e2) e)
   ·obtain ⟨c,hc⟩:=F.lst.typed g e;exact key2 hc (by decide) (by decide)
 ·obtain ⟨c,hc⟩:=h.log.typed g e;exact key2 hc (by decide) (by decide)
theorem PMem.typed {W:World} {n₀ b:Nat} {v:Value} {m:Mst} (h:PMem W n₀ b v m):∀ k,v.ownBlock=some k->∃ c,W.heap[k]? = some (.cells c 2):=h.row.typed
theorem IxIs.lts {W:World} {n₀ x mb tb:Nat} {ix:Ixp} {mv:Value} {tv lv:Sl} {pl:List Pt} (h:IxIs P W n₀ x ix mb mv tb tv lv pl) {k:Nat} (hk:W.heap.size<=k):mv.ownBlock≠some k/\∀ p,p ∈ pl->p.tp.v.ownBlock≠some k:=by
 refine ⟨fun e=>?_,fun p hp e=>?_⟩
 ·have:=(h.mem.lt k (.inr e)).2
  omega
 ·obtain ⟨i,hi,hi'⟩:=List.getElem_of_mem hp;have h1:pl[i]? = some p:=by rw [List.getElem?_eq_getElem hi,hi']
  have h2:i < ix.ts.length:=by rw [<- h.pn];exact hi
  obtain ⟨c,hc⟩:=(h.th i _ p (List.getElem?_eq_getElem h2) h1).fr.types.2 k e
  have:=(Array.getElem?_eq_some_iff.1 hc).1
  omega
structure YdIs (W:World) (n₀ y b x mb tb:Nat) (v mv:Value) (tv lv:Sl) (pz:List Pt) (m:Mst) (ix:Ixp):Prop where
 le:n₀<=y
 box:W.heap[y]? = some (.cells #[.pointer (some ⟨b,0,none⟩),.pointer (some ⟨x,0,none⟩)] 59)
 pm:PMem W n₀ b v m
 ixs:IxIs (fun k=>v.ownBlock=some k) W n₀ x ix mb mv tb tv lv pz
theorem YdIs.kept {W W':World} {n₀ y b x mb tb:Nat} {v mv:Value} {tv lv:Sl} {pz:List Pt} {m:Mst} {ix:Ixp} (h:YdIs W n₀ y b x mb tb v mv tv lv pz m ix) (k:Kept W W'):YdIs W' n₀ y b x mb tb v mv tv lv pz m ix:=
 ⟨h.le,k.heap h.box id,h.pm.kept k,h.ixs.kept k⟩
theorem YdIs.doc {W W':World} {n₀ y b x mb tb:Nat} {v mv mv':Value} {tv lv:Sl} {pz:List Pt} {m m':Mst} {ix:Ixp} (h:YdIs W n₀ y b x mb tb v mv tv lv pz m ix) (t:Td (Foot mb mv) W W') (hm:DMem W' n₀ mb mv' m') (hok:m'.ok) (hft:∀ k,Foot mb mv' k->Foot mb mv k∨W.heap.size<=k) :
  YdIs W' n₀ y b x mb tb v mv' tv lv pz m { ix with m:=m' }:=by
 have key:∀ {z:Nat} {c:Array Value} {T:TypeId},W.heap[z]? = some (.cells c T)->T≠107->T≠2->¬ Foot mb mv z:=fun hz e1 e2=>foot_apart h.ixs.mem hz e1 e2;refine ⟨h.le,t.heap h.box (key h.box (by decide) (by decide)),h.pm.turned t (fun k hk=>?_),h.ixs.memory t hm hok hft⟩;rcases hk with rfl | hk
 ·exact key h.pm.box (by decide) (by decide)
 ·obtain ⟨⟨c,hc⟩,h2,_⟩:=h.ixs.np k hk;rintro (e | e)
  ·have:=h.ixs.mem.box
   rw [<- e,hc] at this;simp at this
  ·exact h2 e
theorem YdIs.prog {W W':World} {n₀ y b x mb tb:Nat} {v v' mv:Value} {tv lv:Sl} {pz:List Pt} {m m':Mst} {ix:Ixp} {R:Nat->Prop} (h:YdIs W n₀ y b x mb tb v mv tv lv pz m ix) (t:Td R W W') (hR:∀ k,R k->Foot b v k∨∃ c T,W.heap[k]? = some (.cells c T)/\mineT T=false/\T≠59) (hm:PMem W' n₀ b v' m') (hft:∀ k,Foot b v' k->Foot b v k∨W.heap.size<=k) :
  YdIs W' n₀ y b x mb tb v' mv tv lv pz m' ix:=by
 refine ⟨h.le,t.heap h.box (fun e=>?_),hm,h.ixs.beside (R:=R) (fun k hk=>?_) t (fun k hk=>⟨hm.typed k hk,?_⟩)⟩
 ·rcases hR y e with e | ⟨c,T,e,_,e2⟩
  ·exact h.pm.other h.box (by decide) (by decide) e
  ·have:=h.box
   rw [e] at this;simp at this;exact e2 this.2
 ·rcases hR k hk with (rfl | hk) | ⟨c,T,e,e1,_⟩
  ·exact .inr ⟨_,_,h.pm.box,by decide⟩
  ·exact .inl hk
  ·exact .inr ⟨c,T,e,e1⟩
 ·rcases hft k (.inr hk) with (e | e) | e
  ·rw [e] at hk;exact absurd hk (hm.not_row (by decide))
  ·exact (h.ixs.np k e).2
  ·exact h.ixs.lts e
theorem YdIs.sees {W:World} {n₀ y b x mb tb:Nat} {v mv:Value} {tv lv:Sl} {pz:List Pt} {m:Mst} {ix:Ixp} (h:YdIs W n₀ y b x mb tb v mv tv lv pz m ix) (h0:0 < ix.m.xs.length):∃ g cc,Sees W y b x mb g cc ix.m.xs/\ix.m.xs.length<=cc/\cc<=maxLen/\¬ Foot b v y/\¬ Foot b v x/\¬ Foot b v mb/\¬ Foot b v g:=by
 obtain ⟨a,cc,hv,hr,hc,hm⟩:=h.ixs.mem.form;obtain ⟨z,hz⟩:∃ z,ix.m.xs[0]? = some z:=⟨_,List.getElem?_eq_getElem h0⟩;have hrow:=h.ixs.mem.row;rcases hrow.2 with ⟨h1,h2⟩ | ⟨g,cap,cur,h1,hg,hh,hcc,hmm,_⟩
 ·omega
 ·refine ⟨g,cap,⟨h.box,h.ixs.cells.1.1,?_,fun j z e=>?_⟩,hcc,hmm,h.pm.other h.box (by decide) (by decide),h.pm.other h.ixs.box (by decide) (by decide),h.pm.other h.ixs.mem.box (by decide) (by decide),?_⟩
  ·have:=(DMem.opened h.ixs.mem).1.1
   rw [h1] at this;exact this
  ·rw [hv] at h1;cases h1;rcases hr with e0 | ⟨bl,off,e1,hcs⟩
   ·rw [e0] at e;cases e
   ·cases e1
    have:=hcs j z e
    rwa [Nat.zero_add] at this
  ·rintro (e | e)
   ·have:=h.pm.box
    rw [<- e,hh] at this;simp at this
   ·have:=(h.ixs.np g e).2.1
    rw [h1] at this;exact this rfl
theorem follow_y (W:World) (n₀ y b x mb tb:Nat) (v mv:Value) (tv lv:Sl) (pz:List Pt) (m:Mst) (ix:Ixp) (h:YdIs W n₀ y b x mb tb v mv tv lv pz m ix) (hn:n₀<=W.heap.size) (h0:0 < ix.m.xs.length) (hl:m.xs.length<=ix.m.xs.length) (hz:m.size=ix.m.size) :
  Calls Tryz.prog 79 #[.pointer (some ⟨y,0,none⟩)] W fun e W'=>e=.returned (.tuple #[])/\∃ v' m',YdIs W' n₀ y b x mb tb v' mv tv lv pz m' ix/\m'.xs=ix.m.xs/\m'.size=ix.m.size/\Td (fun k=>n₀<=k) W W':=by
 obtain ⟨g,cc,hs,hc,hm,hap⟩:=h.sees h0;refine (follow_r W n₀ b y x mb g cc v m ix.m.xs h.pm hs hn hap hl (by have:=h.ixs.mem.room;omega) hc hm).mono ?_;rintro e W' ⟨rfl,m',⟨v',hm',t,hf⟩,e1,e2⟩;exact ⟨rfl,v',m',h.prog t (fun _ e=>.inl e) hm' hf,e1,e2.trans hz,t.mono (fun k _ hk=>(h.pm.lt k hk).1)⟩
end
namespace Sd
inductive Ro where
 | fix (z:Int) | key (z:Int) | shut | chg | sum | slot | root | cnt | out
structure Gh where
 ro:Int->Option Ro
 rb:Int->Int
 kn:Int->Int
 hm:Int->Option Int
 ow:Int->Nat
 lt:Int->Bool
 pl:Int->Bool
section
variable (g:Gh)
def Rec (a n:Int):Prop:=1<=a/\∀ j,0<=j->j < n->g.rb (a+j)=a/\g.ro (a+j)≠none
structure IsEmpty (a:Int):Prop where
 kn:g.kn a=1
 rc:Rec g a 1
 c0:g.ro a=some (.fix 0)
structure IsLeaf (a k v:Int):Prop where
 kn:g.kn a=2
 rc:Rec g a 2
 c0:g.ro a=some (.fix k)
 c1:g.ro (a+1)=some (.fix v)
structure IsInner (a d n:Int):Prop where
 kn:g.kn a=3
 rc:Rec g a (2 * d+4)
 pos:1<=d
 c0:g.ro a=some (.fix d)
 c1:g.ro (a+1)=some (.fix n)
 c2:g.ro (a+2)=some .shut
 c3:g.ro (a+3)=some .chg
 c4:g.ro (a+4)=some .sum
 ck:∀ i,1<=i->i < d->∃ z,g.ro (a+4+i)=some (.key z)
 cs:∀ i,0<=i->i < d->g.ro (a+4+d+i)=some .slot
structure IsReb (a t gd p:Int):Prop where
 kn:g.kn a=4
 rc:Rec g a 5
 c0:g.ro a=some (.fix t)
 c1:g.ro (a+1)=some (.fix gd)
 c2:g.ro (a+2)=some (.fix p)
 c3:g.ro (a+3)=some .root
 c4:g.ro (a+4)=some .cnt
structure IsDc (a gd p o x:Int):Prop where
 kn:g.kn a=5
 rc:Rec g a 5
 c0:g.ro a=some (.fix gd)
 c1:g.ro (a+1)=some (.fix p)
 c2:g.ro (a+2)=some (.fix o)
 c3:g.ro (a+3)=some (.fix x)
 c4:g.ro (a+4)=some .out
def gk (a i:Int):Int:=match g.ro (a+4+i) with | some (.key z)=>z | _=>0
def gl (a lo i:Int):Int:=if i=0 then lo else gk g a i
def gu (a d hi i:Int):Int:=if i+1 < d then gk g a (i+1) - 1 else hi
inductive Iv:Int->Int->Int->Prop
 | top:IsInner g 1 1 0->Iv 1 (-9223372036854775808) 9223372036854775807
 | sub {a lo hi d n i b:Int}:Iv a lo hi->IsInner g a d n->0<=i->i < d->b≠1->g.hm b=some (a+4+d+i)->Iv b (gl g a lo i) (gu g a d hi i)
def SIv (c lo hi:Int):Prop:=∃ a d n l h i,Iv g a l h/\IsInner g a d n/\0<=i/\i < d/\c=a+4+d+i/\lo=gl g a l i/\hi=gu g a d h i
def Slot (c a d n i:Int):Prop:=IsInner g a d n/\0<=i/\i < d/\c=a+4+d+i
end
variable {g:Gh}
theorem Iv.slot {c b lo hi:Int} (h:SIv g c lo hi) (hb:b≠1) (e:g.hm b=some c):Iv g b lo hi:=by
 obtain ⟨a,d,n,l,u,i,h1,h2,h3,h4,rfl,rfl,rfl⟩:=h;exact Iv.sub h1 h2 h3 h4 hb e
theorem Slot.siv {c a d n i l u:Int} (h:Slot g c a d n i) (hi:Iv g a l u):SIv g c (gl g a l i) (gu g a d u i):=
 ⟨a,d,n,l,u,i,hi,h.1,h.2.1,h.2.2.1,h.2.2.2,rfl,rfl⟩
theorem IsInner.deg {a d n d' n':Int} (h:IsInner g a d n) (h':IsInner g a d' n'):d=d'/\n=n':=by
 have e0:=h.c0.symm.trans h'.c0;have e1:=h.c1.symm.trans h'.c1;cases e0;cases e1;exact ⟨rfl,rfl⟩
theorem IsDc.fn {D gd p o x gd' p' o' x':Int} (h:IsDc g D gd p o x) (h':IsDc g D gd' p' o' x'):gd=gd'/\p=p'/\o=o'/\x=x':=by
 have e0:=h.c0.symm.trans h'.c0;have e1:=h.c1.symm.trans h'.c1;have e2:=h.c2.symm.trans h'.c2;have e3:=h.c3.symm.trans h'.c3;cases e0;cases e1;cases e2;cases e3;exact ⟨rfl,rfl,rfl,rfl⟩
theorem IsReb.fn {r t gd p t' gd' p':Int} (h:IsReb g r t gd p) (h':IsReb g r t' gd' p'):t=t'/\gd=gd'/\p=p':=by
 have e0:=h.c0.symm.trans h'.c0;have e1:=h.c1.symm.trans h'.c1;have e2:=h.c2.symm.trans h'.c2;cases e0;cases e1;cases e2;exact ⟨rfl,rfl,rfl⟩
theorem IsInner.rb {a d n j:Int} (h:IsInner g a d n) (h0:0<=j) (h1:j < 2 * d+4):g.rb (a+j)=a:=(h.rc.2 j h0 h1).1
theorem Slot.rb {c a d n i:Int} (h:Slot g c a d n i):g.rb c=a:=by
 obtain ⟨h1,h2,h3,rfl⟩:=h
 have:=h1.rb (j:=4+d+i) (by have:=h1.pos;omega) (by omega)
 rwa [show a+(4+d+i)=a+4+d+i by omega] at this
theorem Slot.fn {c a d n i a' d' n' i':Int} (h:Slot g c a d n i) (h':Slot g c a' d' n' i'):a=a'/\d=d'/\n=n'/\i=i':=by
 obtain rfl:a=a':=h.rb.symm.trans h'.rb;obtain ⟨rfl,rfl⟩:=h.1.deg h'.1;have e1:=h.2.2.2;have e2:=h'.2.2.2;exact ⟨rfl,rfl,rfl,by omega⟩
theorem Slot.ro {c a d n i:Int} (h:Slot g c a d n i):g.ro c=some .slot:=by
 obtain ⟨h1,h2,h3,rfl⟩:=h;exact h1.cs i h2 h3
theorem Iv.fn {a lo hi lo' hi':Int} (h:Iv g a lo hi) (h':Iv g a lo' hi'):lo=lo'/\hi=hi':=by
 induction h generalizing lo' hi' with
 | top h1=>
  cases h' with
  | top _=>exact ⟨rfl,rfl⟩
  | sub _ _ _ _ hb _=>exact absurd rfl hb
 | @sub a l u d n i b h1 h2 h3 h4 hb e ih=>
  cases h' with
  | top _=>exact absurd rfl hb
  | @sub a' l' u' d' n' i' _ h1' h2' h3' h4' _ e'=>
   have ec:a+4+d+i=a' + 4+d' + i':=Option.some.inj (e.symm.trans e');obtain ⟨rfl,rfl,rfl,rfl⟩:=Slot.fn (g:=g) (c:=a+4+d+i) ⟨h2,h3,h4,rfl⟩ ⟨h2',h3',h4',ec⟩;obtain ⟨rfl,rfl⟩:=ih h1';exact ⟨rfl,rfl⟩
theorem SIv.fn {c lo hi lo' hi':Int} (h:SIv g c lo hi) (h':SIv g c lo' hi'):lo=lo'/\hi=hi':=by
 obtain ⟨a,d,n,l,u,i,h1,h2,h3,h4,e,rfl,rfl⟩:=h;obtain ⟨a',d',n',l',u',i',h1',h2',h3',h4',e',rfl,rfl⟩:=h';obtain ⟨rfl,rfl,rfl,rfl⟩:=Slot.fn (g:=g) (c:=c) ⟨h2,h3,h4,e⟩ ⟨h2',h3',h4',e'⟩;obtain ⟨rfl,rfl⟩:=h1.fn h1';exact ⟨rfl,rfl⟩
section
variable (m:Mst) (g:Gh)
def Compl (a:Int):Prop:=∀ d n i,IsInner g a d n->0<=i->i < d->m.look (a+4+d+i)≠0
def OkI (c w:Int):Prop:=kd w=3/\∃ d n,IsInner g (ad w) d n/\2<=d/\ad w≠1/\g.hm (ad w)=some c/\Compl m g (ad w)
def OkW (c w:Int):Prop:=
 (kd w=1/\IsEmpty g (ad w)/\g.hm (ad w)=some c)∨
 (kd w=2/\∃ k v,IsLeaf g (ad w) k v/\∀ lo hi,SIv g c lo hi->lo<=k/\k<=hi)∨
 OkI m g c w∨
 (kd w=4/\∃ t gd,IsReb g (ad w) t gd c/\g.hm (ad w)=some c/\OkI m g c t)
def Fz (c w:Int):Prop:=∃ a d n i,Slot g c a d n i/\m.look (a+2)≠0/\w≠0/\kd w≠5/\
 (m.look c=w∨(kd (m.look c)=5/\g.pl (ad (m.look c))=true/\g.lt (ad (m.look c))=true/\∃ gd x,IsDc g (ad (m.look c)) gd c w x))
abbrev Ps:=List (Int × Int)
def FS (F:Int->Ps->Prop) (c:Int) (ps:Ps):Prop:=∃ w,Fz m g c w/\
 ((kd w=1/\ps=[])∨(kd w=2/\∃ k v,IsLeaf g (ad w) k v/\ps=[(k,v)])∨
 (kd w=3/\F (ad w) ps/\m.look (ad w+4)=ps.length+1)∨
 (kd w=4/\∃ t gd p,IsReb g (ad w) t gd p/\F (ad t) ps/\m.look (ad t+4)=ps.length+1))
def FTf:Nat->Int->Ps->Prop
 | 0=>fun _ _=>False
 | f+1=>fun a ps=>∃ (d n:Int) (q:Nat->Ps),IsInner g a d n/\m.look (a+2)≠0/\(∀ i:Nat,(i:Int) < d->FS m g (FTf f) (a+4+d+i) (q i))/\ps=(List.range d.toNat).flatMap q
def FT (a:Int) (ps:Ps):Prop:=∃ f,FTf m g f a ps
def At (gd p:Int):Prop:=∃ a d n i lo hi,Slot g p a d n i/\gd=a+2/\Iv g a lo hi
def DcOk (D:Int):Prop:=∃ gd p o x,IsDc g D gd p o x/\OkW m g p o/\OkW m g p x/\At g gd p/\(g.lt D=true->m.look gd≠0)
def RbOk (r:Int):Prop:=∃ t gd p,IsReb g r t gd p/\OkI m g p t/\At g gd p
def RtOk (r w:Int):Prop:=∃ t gd p ps,IsReb g r t gd p/\FT m g (ad t) ps/\
 ((ps.length < 2/\OkW m g p w/\kd w<=2)∨
 (2<=ps.length/\kd w=3/\ad w≠1/\g.hm (ad w)=some p/\∃ d,IsInner g (ad w) d ps.length/\2<=d/\d=Pt.degZ ps.length/\∀ i,1<=i->i < d->gk g (ad w) i=((partL ps i).headD (0,0)).1))
def COk (c:Int):Prop:=match g.ro c with
 | none=>True
 | some (.fix z)=>m.look c=z
 | some (.key z)=>m.look c=0∨m.look c=z
 | some .shut=>m.look c=0∨(m.look c=1/\g.rb c≠1/\∃ d n,IsInner g (g.rb c) d n/\Compl m g (g.rb c))
 | some .chg=>True
 | some .cnt=>True
 | some .sum=>m.look c=0∨∃ ps,FT m g (g.rb c) ps/\m.look c=ps.length+1
 | some .slot=>m.look c=0∨OkW m g c (m.look c)∨(kd (m.look c)=5/\g.pl (ad (m.look c))=true/\∃ gd o x,IsDc g (ad (m.look c)) gd c o x)
 | some .root=>RbOk m g (g.rb c)/\(m.look c=0∨RtOk m g (g.rb c) (m.look c))
 | some .out=>DcOk m g (g.rb c)/\(m.look c=0∨((m.look c=1∨m.look c=2)/\g.pl (g.rb c)=true))/\(g.lt (g.rb c)=true->m.look c≠1)
structure Inv:Prop where
 ok:m.ok
 sz:m.size<=16384/\(m.xs.length:Int)<=m.size
 used:∀ c,g.ro c≠none↔m.used c=true
 cell:∀ c,COk m g c
 top:IsInner g 1 1 0/\m.look 6≠0
 keys:∀ a lo hi d n,Iv g a lo hi->IsInner g a d n->∀ i,0<=i->i+1 < d->gl g a lo i < gk g a (i+1)/\gk g a (i+1)<=hi
 kin:∀ a d n i,IsInner g a d n->1<=i->i < d->m.look (a+4+d+i)≠0->m.look (a+4+i)=gk g a i
 home:∀ b c,g.hm b=some c->∃ a d n i,Slot g c a d n i/\((∃ lo hi,Iv g a lo hi)∨ad (m.look c)=b)
 hm1:g.hm 1=none
 hml:∀ b c,g.hm b=some c->g.kn b≠2
 hmu:∀ b c,g.hm b=some c->g.ro b≠none
 late:∀ D,g.lt D=true->g.pl D=true
 plw:∀ D,g.pl D=true->∃ gd p o x,IsDc g D gd p o x
end
end Sd
namespace Sd
section
variable (g:Gh)
inductive Un (c:Int):Int->Prop
 | here {b:Int}:g.hm b=some c->Un c b
 | there {a b c' d n i:Int}:Un c a->Slot g c' a d n i->g.hm b=some c'->Un c b
def In (c lo hi j:Int):Prop:=Un g c (g.rb j)∨∃ k v,IsLeaf g (g.rb j) k v/\lo<=k/\k<=hi
end
variable {g:Gh} {m:Mst}
theorem Un.trans {c c' a b d n i:Int} (h:Un g c a) (hs:Slot g c' a d n i) (h2:Un g c' b):Un g c b:=by
 induction h2 with
 | here e=>exact .there h hs e
 | there _ hs' e ih=>exact .there ih hs' e
theorem acyc (h1:g.hm 1=none) {a lo hi:Int} (h:Iv g a lo hi):∀ c d n i,Slot g c a d n i->¬ Un g c a:=by
 induction h with
 | top _=>
  intro c d n i hs hu;cases hu with
  | here e=>rw [h1] at e;cases e
  | there _ _ e=>rw [h1] at e;cases e
 | @sub a l u d n i b ha hi0 h2 h3 hb e ih=>
  intro c d' n' i' hs hu;have hs0:Slot g (a+4+d+i) a d n i:=⟨hi0,h2,h3,rfl⟩;cases hu with
  | here e'=>
   rw [e] at e';have ec:=Option.some.inj e';rw [<- ec] at hs;obtain ⟨rfl,_⟩:=hs.fn hs0;exact ih _ _ _ _ hs0 (.here e)
  | @there a' _ c' d2 n2 i2 hu' hs' e'=>
   rw [e] at e';have ec:=Option.some.inj e';rw [<- ec] at hs';obtain ⟨rfl,_⟩:=hs'.fn hs0;exact ih _ _ _ _ hs0 (Un.trans (.here e) hs hu')
theorem apart (h1:g.hm 1=none) {a lo hi c c' d n i d' n' i' b:Int} (h:Iv g a lo hi) (hs:Slot g c a d n i) (hs':Slot g c' a d' n' i') (hu:Un g c b):Un g c' b->c=c':=by
 induction hu with
 | here e=>
  intro hu';cases hu' with
  | here e'=>rw [e] at e';exact Option.some.inj e'
  | there hu2 hs2 e'=>
   rw [e] at e';have ec:=Option.some.inj e';rw [<- ec] at hs2;obtain ⟨rfl,_⟩:=hs2.fn hs;exact absurd hu2 (acyc h1 h _ _ _ _ hs')
 | there hu2 hs2 e ih=>
  intro hu';cases hu' with
  | here e'=>
   rw [e] at e';have ec:=Option.some.inj e';rw [ec] at hs2;obtain ⟨rfl,_⟩:=hs2.fn hs';exact absurd hu2 (acyc h1 h _ _ _ _ hs)
  | there hu3 hs3 e'=>
   rw [e] at e';have ec:=Option.some.inj e';rw [<- ec] at hs3;obtain ⟨rfl,_⟩:=hs3.fn hs2;exact ih hu3
theorem Un.hm {c b:Int} (h:Un g c b):∃ c',g.hm b=some c':=by
 cases h with
 | here e=>exact ⟨_,e⟩
 | there _ _ e=>exact ⟨_,e⟩
theorem Inv.rise (h:Inv m g) {a lo hi d n:Int} (hv:Iv g a lo hi) (hI:IsInner g a d n):∀ (k:Nat) (i:Int),0<=i->i+k < d->gl g a lo i<=gl g a lo (i+k)
 | 0,i,_,_=>by simp
 | k+1,i,h0,h1=>by
  have ih:=h.rise hv hI k i h0 (by omega)
  have:=(h.keys a lo hi d n hv hI (i+k) (by omega) (by omega)).1
  have e:gl g a lo (i+(k+1:Nat))=gk g a (i+k+1):=by
   rw [gl,if_neg (by omega)];congr 1;omega
  rw [e];omega
theorem Inv.within (h:Inv m g) {a lo hi d n i:Int} (hv:Iv g a lo hi) (hI:IsInner g a d n) (h0:0<=i) (h1:i < d):lo<=gl g a lo i/\gu g a d hi i<=hi:=by
 have r:=h.rise hv hI i.toNat 0 (by omega) (by omega);rw [show (0:Int)+(i.toNat:Int)=i by omega] at r;refine ⟨by simpa [gl] using r,?_⟩;unfold gu
 split
 ·have:=(h.keys a lo hi d n hv hI i h0 (by omega)).2
  omega
 ·exact Int.le_refl _
theorem Inv.order (h:Inv m g) {a lo hi d n i j:Int} (hv:Iv g a lo hi) (hI:IsInner g a d n) (h0:0<=i) (h1:i < j) (h2:j < d):gu g a d hi i < gl g a lo j:=by
 have r:=h.rise hv hI (j - i - 1).toNat (i+1) (by omega) (by omega);rw [show i+1+((j - i - 1).toNat:Int)=j by omega] at r;have e:gl g a lo (i+1)=gk g a (i+1):=by rw [gl,if_neg (by omega)]
 have e2:gu g a d hi i=gk g a (i+1) - 1:=by rw [gu,if_pos (by omega)]
 omega
theorem Inv.fix (h:Inv m g) {c z:Int} (e:g.ro c=some (.fix z)):m.look c=z:=by
 have:=h.cell c
 unfold COk at this;rw [e] at this;exact this
theorem Inv.lt (h:Inv m g) {c:Int} (e:g.ro c≠none):1<=c/\c<=(m.xs.length:Int):=Mst.used_iff.1 ((h.used c).1 e)
theorem Inv.logic (h:Inv m g) {c a d n i:Int} (hs:Slot g c a d n i) (h0:m.look c≠0):OkW m g c (m.logicZ c)/\dcssB m c=true:=by
 have hc:=h.cell c;unfold COk at hc;rw [hs.ro] at hc;rcases hc with e | e | ⟨k5,_,gd,o,x,hD⟩
 ·exact absurd e h0
 ·have k5:kd (m.look c)≠5:=by
   rcases e with ⟨k,_⟩ | ⟨k,_⟩ | ⟨k,_⟩ | ⟨k,_⟩ <;> omega
  refine ⟨by rw [Mst.logicZ,if_neg k5];exact e,?_⟩;simp only [dcssB,Bool.or_eq_true,Bool.not_eq_true',beq_eq_false_iff_ne];exact .inl k5
 ·have ho:=h.cell (ad (m.look c)+4);unfold COk at ho;rw [hD.c4] at ho;have e4:g.rb (ad (m.look c)+4)=ad (m.look c):=(hD.rc.2 4 (by omega) (by omega)).1;rw [e4] at ho;obtain ⟨gd',c',o',x',hD',o1,o2,_⟩:=ho.1;obtain ⟨rfl,rfl,rfl,rfl⟩:=hD.fn hD';constructor
  ·rw [Mst.logicZ,if_pos k5]
   split
   ·rw [show m.look (Rf.atZ (m.look c)+3)=x from h.fix hD.c3];exact o2
   ·rw [show m.look (Rf.atZ (m.look c)+2)=o from h.fix hD.c2];exact o1
  ·have l4:=h.lt (c:=ad (m.look c)+4) (by rw [hD.c4];exact fun e=>by cases e);simp only [dcssB,Bool.or_eq_true,Bool.and_eq_true,decide_eq_true_eq,beq_iff_eq];exact .inr ⟨l4.2,h.fix hD.c1⟩
def Tok (g:Gh) (t:Tk) (c lo hi:Int):Prop:=∀ j:Nat,t j=true->¬ In g c lo hi (j:Int)
def Got (g:Gh) (t t':Tk) (c lo hi:Int):Prop:=∀ j:Nat,t' j=true->t j=true∨In g c lo hi (j:Int)
theorem take_ok (h:Inv m g) {t:Tk} {c lo hi a n:Int} (ht:Tok g t c lo hi) (hr:Rec g a n) (hn:1<=n) (hin:∀ j,a<=j->j < a+n->In g c lo hi j) :
  takeO (m.xs.length+1) t a.toNat n.toNat=some (takeT t a.toNat n.toNat)/\Got g t (takeT t a.toNat n.toNat) c lo hi:=by
 have h1:=hr.1;have hl:=h.lt (c:=a+(n - 1)) (hr.2 (n - 1) (by omega) (by omega)).2;constructor
 ·unfold takeO;rw [if_pos];simp only [Bool.and_eq_true,decide_eq_true_eq];refine ⟨⟨by omega,by omega⟩,?_⟩;unfold freeB;rw [List.all_eq_true];intro i hi';simp only [List.mem_range] at hi';cases e:t (a.toNat+i) with
  | false=>rfl
  | true=>exact absurd (hin _ (by omega) (by omega)) (ht _ e)
 ·intro j hj;unfold takeT at hj;rw [Bool.or_eq_true,decide_eq_true_eq] at hj;rcases hj with hj | hj
  ·exact .inl hj
  ·exact .inr (hin _ (by omega) (by omega))
theorem In.sub (h:Inv m g) {c c' a lo hi d n i j:Int} (hv:Iv g a lo hi) (ha:a≠1->g.hm a=some c) (ha':a≠1) (hs:Slot g c' a d n i) (hin:In g c' (gl g a lo i) (gu g a d hi i) j):In g c lo hi j:=by
 have w:=h.within hv hs.1 hs.2.1 hs.2.2.1;rcases hin with hu | ⟨k,v,hl,h1,h2⟩
 ·exact .inl (Un.trans (.here (ha ha')) hs hu)
 ·exact .inr ⟨k,v,hl,by omega,by omega⟩
def TokI (g:Gh) (t:Tk) (b d n lo hi:Int):Prop:=∀ j:Nat,t j=true->g.rb (j:Int)≠b/\∀ c i,Slot g c b d n i->¬ In g c (gl g b lo i) (gu g b d hi i) (j:Int)
def WOk (m:Mst) (g:Gh) (f:Nat):Prop:=∀ (c lo hi:Int) (t:Tk) (a d n i:Int),Slot g c a d n i->SIv g c lo hi->m.look c≠0->freeN (m.xs.length+1) t < f->Tok g t c lo hi->∃ t',sndSlot m (sndW m f) c lo hi t=some t'/\Got g t t' c lo hi
theorem Inv.bounds (h:Inv m g) {b d n:Int} (lo hi:Int) (hI:IsInner g b d n) (hc:Compl m g b) {B D:Nat} (eb:b=(B:Int)) (ed:d=(D:Int)) (i:Nat) (hi':i < D):lowZ m B lo i=gl g b lo i/\highZ m B D hi i=gu g b d hi i:=by
 have kk:∀ j:Nat,1<=j->j < D->ky m B j=gk g b j:=fun j h1 h2=>by
  have:=h.kin b d n j hI (by omega) (by omega) (hc d n j hI (by omega) (by omega))
  rw [ky,<- eb];exact this
 constructor
 ·unfold lowZ gl
  by_cases e:i=0
  ·rw [if_pos e,if_pos (by omega)]
  ·rw [if_neg e,if_neg (by omega),kk i (by omega) hi']
 ·unfold highZ gu
  by_cases e:i+1 < D
  ·rw [if_pos e,if_pos (by omega),kk (i+1) (by omega) e];congr 2
  ·rw [if_neg e,if_neg (by omega)]
theorem snd_kids (h:Inv m g) {f:Nat} (ih:WOk m g f) {b d n lo hi:Int} (hv:Iv g b lo hi) (hI:IsInner g b d n) (hc:Compl m g b) {B D:Nat} (eb:b=(B:Int)) (ed:d=(D:Int)) {t:Tk} (hf:freeN (m.xs.length+1) t < f)
  (ht:∀ j:Nat,t j=true->∀ c i,Slot g c b d n i->¬ In g c (gl g b lo i) (gu g b d hi i) (j:Int)) :
  ∀ k:Nat,k<=D->∃ t',chain (kidG m (sndW m f) B D lo hi) k t=some t'/\∀ j:Nat,t' j=true->t j=true∨∃ i:Nat,i < k/\In g (b+4+d+i) (gl g b lo i) (gu g b d hi i) (j:Int)
 | 0,_=>⟨t,rfl,fun j hj=>.inl hj⟩
 | k+1,hk=>by
  obtain ⟨tk,h1,h2⟩:=snd_kids h ih hv hI hc eb ed hf ht k (by omega);have hs:Slot g (b+4+d+k) b d n k:=⟨hI,by omega,by omega,rfl⟩;have hl:=h.bounds lo hi hI hc eb ed k (by omega);have fr:=chain_free (sndW_free m f) h1;obtain ⟨t',h3,h4⟩:=ih _ _ _ tk _ _ _ _ hs (hs.siv hv) (hc d n k hI (by omega) (by omega)) (by omega) (by
   intro j hj hin;rcases h2 j hj with hj' | ⟨i,hi',hin'⟩
   ·exact ht j hj' _ _ hs hin
   ·have hs':Slot g (b+4+d+i) b d n i:=⟨hI,by omega,by omega,rfl⟩;have od:=h.order hv hI (i:=i) (j:=k) (by omega) (by omega) (by omega);rcases hin with u1 | ⟨k1,v1,l1,a1,b1⟩
    ·rcases hin' with u2 | ⟨k2,v2,l2,_,_⟩
     ·have:=apart h.hm1 hv hs hs' u1 u2
      omega
     ·obtain ⟨c',e⟩:=u1.hm;exact h.hml _ _ e l2.kn
    ·rcases hin' with u2 | ⟨k2,v2,l2,a2,b2⟩
     ·obtain ⟨c',e⟩:=u2.hm;exact h.hml _ _ e l1.kn
     ·have e:=l1.c0.symm.trans l2.c0;cases e;omega)
  refine ⟨t',?_,fun j hj=>?_⟩
  ·rw [chain,h1];show sndSlot m (sndW m f) (childS B D k) (lowZ m B lo k) (highZ m B D hi k) tk=some t';rw [hl.1,hl.2,show childS B D k=b+4+d+k by unfold childS;omega];exact h3
  ·rcases h4 j hj with e | e
   ·rcases h2 j e with e | ⟨i,hi',e⟩
    ·exact .inl e
    ·exact .inr ⟨i,by omega,e⟩
   ·exact .inr ⟨k,by omega,e⟩
theorem snd_in (h:Inv m g) {f:Nat} (ih:WOk m g f) {b d n lo hi c:Int} (hv:Iv g b lo hi) (hb:b≠1) (hm:g.hm b=some c) (hI:IsInner g b d n) (h2:2<=d) (hc:Compl m g b) {t:Tk} (hf:freeN (m.xs.length+1) t < f+1) (ht:TokI g t b d n lo hi) :
  ∃ t',sndInner m (sndW m f) b.toNat lo hi t=some t'/\Got g t t' c lo hi:=by
 have hb1:=hI.rc.1;obtain ⟨B,eb⟩:∃ B:Nat,b=(B:Int):=⟨b.toNat,by omega⟩;obtain ⟨D,ed⟩:∃ D:Nat,d=(D:Int):=⟨d.toNat,by omega⟩;have elk:m.look (B:Int)=(D:Int):=by rw [<- eb,<- ed];exact h.fix hI.c0
 have last:=h.lt (c:=b+(2 * d+3)) (hI.rc.2 (2 * d+3) (by omega) (by omega)).2;have eB:b.toNat=B:=by omega
 rw [eB];have tk:takeO (m.xs.length+1) t B (2 * D+4)=some (takeT t B (2 * D+4)):=by
  unfold takeO;rw [if_pos];simp only [Bool.and_eq_true,decide_eq_true_eq];refine ⟨⟨by omega,by omega⟩,?_⟩;unfold freeB;rw [List.all_eq_true];intro i hi';simp only [List.mem_range] at hi';cases e:t (B+i) with
  | false=>rfl
  | true=>
   have h3:=(ht _ e).1;have h4:=hI.rb (j:=(i:Int)) (by omega) (by omega);rw [show b+(i:Int)=((B+i:Nat):Int) by omega] at h4;exact absurd h4 h3
 have fr:=takeO_free tk;obtain ⟨t',h3,h4⟩:=snd_kids h ih hv hI hc eb ed (t:=takeT t B (2 * D+4)) (by omega) (by
  intro j hj c' i hs hin;unfold takeT at hj;rw [Bool.or_eq_true,decide_eq_true_eq] at hj;rcases hj with hj | hj
  ·exact (ht j hj).2 c' i hs hin
  ·have e4:=hI.rb (j:=(j:Int) - b) (by omega) (by omega);rw [show b+((j:Int) - b)=(j:Int) by omega] at e4;rcases hin with u | ⟨k,v,l,_,_⟩
   ·rw [e4] at u;exact acyc h.hm1 hv _ _ _ _ hs u
   ·rw [e4] at l
    have:=l.kn.symm.trans hI.kn
    omega) D (Nat.le_refl _)
 refine ⟨t',?_,fun j hj=>?_⟩
 ·unfold sndInner;rw [elk,Int.toNat_natCast,if_neg (by omega),tk];show (if (keysB m B D lo hi && shutB m B)=true then _ else none)=_;rw [if_pos,h3];rw [Bool.and_eq_true];constructor
  ·unfold keysB;rw [List.all_eq_true];intro i hi';simp only [List.mem_range] at hi';have hl:=h.bounds lo hi hI hc eb ed i (by omega);have hk:=h.keys b lo hi d n hv hI i (by omega) (by omega);have e:=h.kin b d n (i+1) hI (by omega) (by omega) (hc d n (i+1) hI (by omega) (by omega));rw [hl.1,show ky m B (i+1)=gk g b (i+1) by rw [ky,<- eb,<- e];congr 1];simp only [Bool.and_eq_true,decide_eq_true_eq];exact hk
  ·have e:=h.cell (b+2);unfold COk at e;rw [hI.c2] at e;unfold shutB;rw [<- eb];rcases e with e | ⟨e,_⟩ <;> simp [e]
 ·rcases h4 j hj with e | ⟨i,hi',e⟩
  ·unfold takeT at e;rw [Bool.or_eq_true,decide_eq_true_eq] at e;rcases e with e | e
   ·exact .inl e
   ·have e4:=hI.rb (j:=(j:Int) - b) (by omega) (by omega);rw [show b+((j:Int) - b)=(j:Int) by omega] at e4;exact .inr (.inl (by rw [e4];exact .here hm))
  ·exact .inr (In.sub h hv (fun _=>hm) hb ⟨hI,by omega,by omega,rfl⟩ e)
theorem tok_in (h:Inv m g) {b d n lo hi c:Int} {t:Tk} (hv:Iv g b lo hi) (hb:b≠1) (hm:g.hm b=some c) (ht:Tok g t c lo hi):TokI g t b d n lo hi:=fun j hj=>
 ⟨fun e=>ht j hj (.inl (by rw [e];exact .here hm)),fun _ _ hs hin=>ht j hj (In.sub h hv (fun _=>hm) hb hs hin)⟩
theorem wok (h:Inv m g):∀ f,WOk m g f:=by
 intro f
 induction f using Nat.strongRecOn with
 | ind f ih=>
  intro c lo hi t a d n i hs hsv h0 hf ht;cases f with
  | zero=>exact absurd hf (by omega)
  | succ f=>
   obtain ⟨hw,hd⟩:=h.logic hs h0;unfold sndSlot;rw [if_pos hd];generalize m.logicZ c=w at hw;show ∃ t',sndW m (f+1) w lo hi t=some t'/\_;rcases hw with ⟨k1,he,hm⟩ | ⟨k2,k,v,hl,hk⟩ | ⟨k3,d',n',hI,h2,hb,hm,hc⟩ | ⟨k4,tg,gd,hR,hmr,k3,d',n',hI,h2,hb,hm,hc⟩
   ·obtain ⟨e1,e2⟩:=take_ok h ht he.rc (by omega) (fun j a1 a2=>.inl (by rw [show j=ad w by omega];have:=(he.rc.2 0 (by omega) (by omega)).1;rw [Int.add_zero] at this;rw [this];exact .here hm));exact ⟨_,by unfold sndW;rw [if_pos k1];exact e1,e2⟩
   ·have hk':=hk lo hi hsv;have elk:=h.fix hl.c0;obtain ⟨e1,e2⟩:=take_ok h ht hl.rc (by omega) (fun j a1 a2=>by
     have:=(hl.rc.2 (j - ad w) (by omega) (by omega)).1
     rw [show ad w+(j - ad w)=j by omega] at this;exact .inr ⟨k,v,by rw [this];exact hl,hk'.1,hk'.2⟩)
    exact ⟨_,by unfold sndW;rw [if_neg (by rw [k2];decide),if_pos k2,elk,if_pos hk'];exact e1,e2⟩
   ·have hv:=Iv.slot hsv hb hm;obtain ⟨t',e1,e2⟩:=snd_in h (ih f (by omega)) hv hb hm hI h2 hc hf (tok_in h hv hb hm ht);exact ⟨t',by unfold sndW;rw [if_neg (by rw [k3];decide),if_neg (by rw [k3];decide),if_pos k3];exact e1,e2⟩
   ·have hv:=Iv.slot hsv hb hm;have elk:m.look (ad w)=tg:=h.fix hR.c0;have cellr:∀ j,ad w<=j->j < ad w+5->g.rb j=ad w:=fun j a1 a2=>by
     have:=(hR.rc.2 (j - ad w) (by omega) (by omega)).1
     rwa [show ad w+(j - ad w)=j by omega] at this
    obtain ⟨e1,e2⟩:=take_ok h ht hR.rc (by omega) (fun j a1 a2=>.inl (by rw [cellr j a1 a2];exact .here hmr));have fr:=takeO_free e1;have r1:=hR.rc.1;obtain ⟨f',rfl⟩:∃ f',f=f' + 1:=⟨f - 1,by omega⟩;obtain ⟨a',lo',hi',hva⟩:∃ a' lo' hi',Iv g a' lo' hi'/\a'=a:=by
     obtain ⟨a',d2,n2,l',u',i',q1,q2,q3,q4,q5,_,_⟩:=hsv;exact ⟨a',l',u',q1,(Slot.fn (g:=g) (c:=c) ⟨q2,q3,q4,q5⟩ hs).1⟩
    obtain ⟨hva,rfl⟩:=hva;obtain ⟨t',e3,e4⟩:=snd_in h (ih f' (by omega)) (t:=takeT t (ad w).toNat (5:Int).toNat) hv hb hm hI h2 hc (by omega) (by
     intro j hj;unfold takeT at hj;rw [Bool.or_eq_true,decide_eq_true_eq] at hj;rcases hj with hj | hj
     ·exact tok_in h hv hb hm ht j hj
     ·have er:=cellr (j:Int) (by omega) (by omega);rw [er];refine ⟨fun e=>by have q1:=hR.kn;have q2:=hI.kn;rw [e] at q1;omega,fun c' i' hs' hin=>?_⟩;rcases hin with u | ⟨k,v,l,_,_⟩
      ·rw [er] at u;cases u with
       | here e=>
        rw [hmr] at e;have ec:=Option.some.inj e;rw [<- ec] at hs';obtain ⟨rfl,_⟩:=hs'.fn hs;exact acyc h.hm1 hv _ _ _ _ hs' (.here hm)
       | there u2 hs2 e=>
        rw [hmr] at e;have ec:=Option.some.inj e;rw [<- ec] at hs2;obtain ⟨rfl,_⟩:=hs2.fn hs;exact acyc h.hm1 hva _ _ _ _ hs (Un.trans (.here hm) hs' u2)
      ·rw [er] at l
       have:=l.kn.symm.trans hR.kn
       omega)
    refine ⟨t',?_,fun j hj=>?_⟩
    ·unfold sndW;rw [if_neg (by rw [k4];decide),if_neg (by rw [k4];decide),if_neg (by rw [k4];decide),if_pos k4,elk,if_pos k3];show (takeO (m.xs.length+1) t (ad w).toNat (5:Int).toNat).bind _=_;rw [e1];show sndW m (f' + 1) tg lo hi _=_;unfold sndW;rw [if_neg (by rw [k3];decide),if_neg (by rw [k3];decide),if_pos k3];exact e3
    ·rcases e4 j hj with e | e
     ·exact e2 j e
     ·exact .inr e
theorem Inv.sound (h:Inv m g):soundB m=true:=by
 obtain ⟨hI,h6⟩:=h.top;have hs:Slot g 6 1 1 0 0:=⟨hI,by omega,by omega,rfl⟩;have l6:=h.lt (c:=6) (by rw [hs.ro];exact fun e=>by cases e);have e1:m.look 1=1:=h.fix hI.c0;have e3:m.look 3=0:=by
  have e:=h.cell 3;unfold COk at e;rw [show g.ro 3=some .shut from hI.c2] at e;rcases e with e | ⟨_,e,_⟩
  ·exact e
  ·exact absurd (hI.rb (j:=2) (by omega) (by omega)) e
 have sv:=hs.siv (Iv.top hI);have el:gl g 1 (-9223372036854775808) 0=-9223372036854775808:=by simp [gl]
 have eu:gu g 1 1 9223372036854775807 0=9223372036854775807:=by simp [gu]
 rw [el,eu] at sv;have fb:=freeN_le (m.xs.length+1) base0;obtain ⟨t',ht,_⟩:=wok h (fuel m) 6 _ _ base0 _ _ _ _ hs sv h6 (by unfold fuel;omega) (by
  intro j hj hin;unfold base0 takeT at hj;simp only [Bool.false_or,decide_eq_true_eq] at hj;have er:=hI.rb (j:=(j:Int) - 1) (by omega) (by omega);rw [show (1:Int)+((j:Int) - 1)=(j:Int) by omega] at er;rcases hin with u | ⟨k,v,l,_,_⟩
  ·rw [er] at u;obtain ⟨c',e⟩:=u.hm;rw [h.hm1] at e;cases e
  ·rw [er] at l
   have:=l.kn.symm.trans hI.kn
   omega)
 unfold soundB;rw [e1,e3,ht];simp;omega
end Sd
namespace Sd
structure E0 (g g':Gh):Prop where
 ro:∀ c,g.ro c≠none->g'.ro c=g.ro c/\g'.rb c=g.rb c/\g'.kn c=g.kn c
 hm:∀ b c,g.hm b=some c->g'.hm b=some c
structure Ex (m:Mst) (g:Gh) (m':Mst) (g':Gh):Prop extends E0 g g' where
 pl:∀ D,g.pl D=true->g'.pl D=true/\g'.lt D=g.lt D
 shut:∀ c,g.ro c=some .shut->m.look c≠0->m'.look c≠0
 slot:∀ c,g.ro c=some .slot->m.look c≠0->m'.look c≠0
 stay:∀ c,g.ro c=some .sum∨g.ro c=some .root∨g.ro c=some .out->m.look c≠0->m'.look c=m.look c
 fz:∀ c w,Fz m g c w->Fz m' g' c w
 still:∀ c a d n i,Slot g c a d n i->(∀ lo hi,¬ Iv g' a lo hi)->m'.look c=m.look c
 len:∀ c,m.used c=true->m'.used c=true
 key:∀ c z,g.ro c=some (.key z)->m.look c=z->m'.look c=z
 lt:∀ D gd p o x,IsDc g D gd p o x->g'.lt D=true->g.lt D=true∨(g'.ro gd=some .shut/\m'.look gd≠0)
theorem Ex.refl (m:Mst) (g:Gh):Ex m g m g:=
 ⟨⟨fun _ _=>⟨rfl,rfl,rfl⟩,fun _ _ h=>h⟩,fun _ h=>⟨h,rfl⟩,fun _ _ h=>h,fun _ _ h=>h,fun _ _ _=>rfl,fun _ _ h=>h,fun _ _ _ _ _ _ _=>rfl,fun _ h=>h,fun _ _ _ e=>e,fun _ _ _ _ _ _ e=>.inl e⟩
section
variable {m m':Mst} {g g':Gh}
theorem E0.so (h:E0 g g') {c:Int} {r:Ro} (e:g.ro c=some r):g'.ro c=some r:=(h.ro c (by rw [e];exact fun e=>by cases e)).1.trans e
theorem E0.rc (h:E0 g g') {a n:Int} (hr:Rec g a n):Rec g' a n:=⟨hr.1,fun j h0 h1=>by
 obtain ⟨e1,e2,_⟩:=h.ro (a+j) (hr.2 j h0 h1).2;exact ⟨e2.trans (hr.2 j h0 h1).1,by rw [e1];exact (hr.2 j h0 h1).2⟩⟩
theorem E0.kn (h:E0 g g') {a k:Int} {r:Ro} (e:g.kn a=k) (e2:g.ro a=some r):g'.kn a=k:=(h.ro a (by rw [e2];exact fun e=>by cases e)).2.2.trans e
theorem E0.empty (h:E0 g g') {a:Int} (q:IsEmpty g a):IsEmpty g' a:=⟨h.kn q.kn q.c0,h.rc q.rc,h.so q.c0⟩
theorem E0.leaf (h:E0 g g') {a k v:Int} (q:IsLeaf g a k v):IsLeaf g' a k v:=⟨h.kn q.kn q.c0,h.rc q.rc,h.so q.c0,h.so q.c1⟩
theorem E0.inner (h:E0 g g') {a d n:Int} (q:IsInner g a d n):IsInner g' a d n:=
 ⟨h.kn q.kn q.c0,h.rc q.rc,q.pos,h.so q.c0,h.so q.c1,h.so q.c2,h.so q.c3,h.so q.c4,fun i h1 h2=>by obtain ⟨z,e⟩:=q.ck i h1 h2;exact ⟨z,h.so e⟩,fun i h1 h2=>h.so (q.cs i h1 h2)⟩
theorem E0.reb (h:E0 g g') {a t gd p:Int} (q:IsReb g a t gd p):IsReb g' a t gd p:=⟨h.kn q.kn q.c0,h.rc q.rc,h.so q.c0,h.so q.c1,h.so q.c2,h.so q.c3,h.so q.c4⟩
theorem E0.dc (h:E0 g g') {a gd p o x:Int} (q:IsDc g a gd p o x):IsDc g' a gd p o x:=⟨h.kn q.kn q.c0,h.rc q.rc,h.so q.c0,h.so q.c1,h.so q.c2,h.so q.c3,h.so q.c4⟩
theorem E0.sl (h:E0 g g') {c a d n i:Int} (q:Slot g c a d n i):Slot g' c a d n i:=⟨h.inner q.1,q.2⟩
theorem E0.gk (h:E0 g g') {a d n i:Int} (q:IsInner g a d n) (h1:1<=i) (h2:i < d):gk g' a i=gk g a i:=by
 obtain ⟨z,e⟩:=q.ck i h1 h2;unfold Sd.gk;rw [e,h.so e]
theorem E0.gl (h:E0 g g') {a d n lo i:Int} (q:IsInner g a d n) (h1:0<=i) (h2:i < d):gl g' a lo i=gl g a lo i:=by
 unfold Sd.gl
 split
 ·rfl
 ·exact h.gk q (by omega) h2
theorem E0.gu (h:E0 g g') {a d n hi i:Int} (q:IsInner g a d n) (h1:0<=i):gu g' a d hi i=gu g a d hi i:=by
 unfold Sd.gu
 split
 ·rw [h.gk q (by omega) (by omega)]
 ·rfl
theorem E0.iv (h:E0 g g') {a lo hi:Int} (q:Iv g a lo hi):Iv g' a lo hi:=by
 induction q with
 | top h1=>exact Iv.top (h.inner h1)
 | sub h1 h2 h3 h4 hb e ih=>
  rw [<- h.gl h2 h3 h4,<- h.gu h2 h3];exact Iv.sub ih (h.inner h2) h3 h4 hb (h.hm _ _ e)
theorem E0.siv (h:E0 g g') {c lo hi:Int} (q:SIv g c lo hi):SIv g' c lo hi:=by
 obtain ⟨a,d,n,l,u,i,h1,h2,h3,h4,e,rfl,rfl⟩:=q;exact ⟨a,d,n,l,u,i,h.iv h1,h.inner h2,h3,h4,e,(h.gl h2 h3 h4).symm,(h.gu h2 h3).symm⟩
theorem E0.back (h:E0 g g') {c lo hi:Int} (hc:∃ l u,SIv g c l u) (q:SIv g' c lo hi):SIv g c lo hi:=by
 obtain ⟨l,u,e⟩:=hc;obtain ⟨rfl,rfl⟩:=(h.siv e).fn q;exact e
theorem At.siv {gd p:Int} (h:At g gd p):∃ l u,SIv g p l u:=by
 obtain ⟨a,d,n,i,lo,hi,h1,_,h3⟩:=h;exact ⟨_,_,h1.siv h3⟩
theorem E0.at (h:E0 g g') {gd p:Int} (q:At g gd p):At g' gd p:=by
 obtain ⟨a,d,n,i,lo,hi,h1,h2,h3⟩:=q;exact ⟨a,d,n,i,lo,hi,h.sl h1,h2,h.iv h3⟩
theorem Ex.compl (h:Ex m g m' g') {a d n:Int} (q:IsInner g a d n) (hc:Compl m g a):Compl m' g' a:=by
 intro d' n' i q' h0 h1;obtain ⟨rfl,rfl⟩:=(h.inner q).deg q';exact h.slot _ (q.cs i h0 h1) (hc d n i q h0 h1)
theorem Ex.okI (h:Ex m g m' g') {c w:Int} (q:OkI m g c w):OkI m' g' c w:=by
 obtain ⟨k,d,n,h1,h2,h3,h4,h5⟩:=q;exact ⟨k,d,n,h.inner h1,h2,h3,h.hm _ _ h4,h.compl h1 h5⟩
theorem Ex.okW (h:Ex m g m' g') {c w:Int} (hc:∀ lo hi,SIv g' c lo hi->SIv g c lo hi) (q:OkW m g c w):OkW m' g' c w:=by
 rcases q with ⟨k,h1,h2⟩ | ⟨k,a,v,h1,h2⟩ | q | ⟨k,t,gd,h1,h2,h3⟩
 ·exact .inl ⟨k,h.empty h1,h.hm _ _ h2⟩
 ·exact .inr (.inl ⟨k,a,v,h.leaf h1,fun lo hi e=>h2 lo hi (hc lo hi e)⟩)
 ·exact .inr (.inr (.inl (h.okI q)))
 ·exact .inr (.inr (.inr ⟨k,t,gd,h.reb h1,h.hm _ _ h2,h.okI h3⟩))
theorem Ex.fs (h:Ex m g m' g') {F F':Int->Ps->Prop} (hF:∀ a ps,F a ps->F' a ps) (hi:∀ a ps,F a ps->∃ d n,IsInner g a d n) {c:Int} {ps:Ps} (q:FS m g F c ps):FS m' g' F' c ps:=by
 have hs:∀ a,F a ps->m.look (a+4)=ps.length+1->m'.look (a+4)=ps.length+1:=fun a e1 e2=>by
  obtain ⟨d,n,hI⟩:=hi a ps e1;rw [h.stay _ (.inl hI.c4) (by omega),e2]
 obtain ⟨w,h1,h2⟩:=q;refine ⟨w,h.fz c w h1,?_⟩;rcases h2 with ⟨k,e⟩ | ⟨k,a,v,e1,e2⟩ | ⟨k,e1,e2⟩ | ⟨k,t,gd,p,e0,e1,e2⟩
 ·exact .inl ⟨k,e⟩
 ·exact .inr (.inl ⟨k,a,v,h.leaf e1,e2⟩)
 ·exact .inr (.inr (.inl ⟨k,hF _ _ e1,hs _ e1 e2⟩))
 ·exact .inr (.inr (.inr ⟨k,t,gd,p,h.reb e0,hF _ _ e1,hs _ e1 e2⟩))
theorem FTf.inner:∀ {f:Nat} {a:Int} {ps:Ps},FTf m g f a ps->∃ d n,IsInner g a d n
 | 0,_,_,h=>h.elim
 | _+1,_,_,⟨d,n,_,h,_⟩=>⟨d,n,h⟩
theorem Ex.ftf (h:Ex m g m' g'):∀ (f:Nat) (a:Int) (ps:Ps),FTf m g f a ps->FTf m' g' f a ps
 | 0,_,_,q=>q.elim
 | f+1,_,_,⟨d,n,q,h1,h2,h3,h4⟩=>⟨d,n,q,h.inner h1,h.shut _ h1.c2 h2,fun i hi=>h.fs (h.ftf f) (fun _ _ e=>FTf.inner e) (h3 i hi),h4⟩
theorem Ex.ft (h:Ex m g m' g') {a:Int} {ps:Ps} (q:FT m g a ps):FT m' g' a ps:=by
 obtain ⟨f,q⟩:=q;exact ⟨f,h.ftf f a ps q⟩
theorem Ex.dcOk (h:Ex m g m' g') {D:Int} (q:DcOk m g D):DcOk m' g' D:=by
 obtain ⟨gd,p,o,x,h1,h2,h3,h4,h5⟩:=q;refine ⟨gd,p,o,x,h.dc h1,h.okW (fun _ _ e=>h.back h4.siv e) h2,h.okW (fun _ _ e=>h.back h4.siv e) h3,h.at h4,fun e=>?_⟩;rcases h.lt D gd p o x h1 e with e | ⟨_,e⟩
 ·obtain ⟨a,d,n,i,lo,hi,q1,q2,_⟩:=h4;exact h.shut gd (by rw [q2];exact q1.1.c2) (h5 e)
 ·exact e
theorem Ex.rbOk (h:Ex m g m' g') {r:Int} (q:RbOk m g r):RbOk m' g' r:=by
 obtain ⟨t,gd,p,h1,h2,h3⟩:=q;exact ⟨t,gd,p,h.reb h1,h.okI h2,h.at h3⟩
theorem Ex.rtOk (h:Ex m g m' g') {r w:Int} (hr:RbOk m g r) (q:RtOk m g r w):RtOk m' g' r w:=by
 obtain ⟨t,gd,p,ps,h1,h2,h3⟩:=q;obtain ⟨t',gd',p',h1',_,h3'⟩:=hr;obtain ⟨rfl,rfl,rfl⟩:=h1.fn h1';refine ⟨t,gd,p,ps,h.reb h1,h.ft h2,?_⟩;rcases h3 with ⟨e1,e2,e3⟩ | ⟨e1,e2,e3,e4,d,e5,e6,e7,e8⟩
 ·exact .inl ⟨e1,h.okW (fun _ _ e=>h.back h3'.siv e) e2,e3⟩
 ·exact .inr ⟨e1,e2,e3,h.hm _ _ e4,d,h.inner e5,e6,e7,fun i a b=>by rw [h.gk e5 a b];exact e8 i a b⟩
theorem Ex.cok (h:Ex m g m' g') {c:Int} (hu:g.ro c≠none) (e:m'.look c=m.look c) (hc:g.ro c=some .slot->∀ lo hi,SIv g' c lo hi->SIv g c lo hi) (q:COk m g c):COk m' g' c:=by
 obtain ⟨r1,r2,_⟩:=h.ro c hu;unfold COk at q ⊢;rw [r1,e];cases er:g.ro c with
 | none=>exact absurd er hu
 | some r=>
  rw [er] at q;cases r with
  | fix z=>exact q
  | key z=>exact q
  | shut=>
   simp only at q ⊢;rw [r2];rcases q with q | ⟨q1,q2,d,n,q3,q4⟩
   ·exact .inl q
   ·exact .inr ⟨q1,q2,d,n,h.inner q3,h.compl q3 q4⟩
  | chg=>trivial
  | cnt=>trivial
  | sum=>
   simp only at q ⊢;rw [r2];rcases q with q | ⟨ps,q1,q2⟩
   ·exact .inl q
   ·exact .inr ⟨ps,h.ft q1,q2⟩
  | slot=>
   simp only at q ⊢;rcases q with q | q | ⟨q1,q2,gd,o,x,q3⟩
   ·exact .inl q
   ·exact .inr (.inl (h.okW (hc er) q))
   ·exact .inr (.inr ⟨q1,(h.pl _ q2).1,gd,o,x,h.dc q3⟩)
  | root=>
   simp only at q ⊢;rw [r2];refine ⟨h.rbOk q.1,?_⟩;rcases q.2 with q2 | q2
   ·exact .inl q2
   ·exact .inr (h.rtOk q.1 q2)
  | out=>
   simp only at q ⊢;rw [r2];obtain ⟨q1,q2,q3⟩:=q;refine ⟨h.dcOk q1,?_,?_⟩
   ·rcases q2 with q2 | ⟨q2,q4⟩
    ·exact .inl q2
    ·exact .inr ⟨q2,(h.pl _ q4).1⟩
   ·intro hl;rcases q2 with q2 | ⟨_,q4⟩
    ·rw [q2];decide
    ·exact q3 ((h.pl _ q4).2.symm.trans hl)
end
theorem Ex.trans {m m' m'':Mst} {g g' g'':Gh} (h:Ex m g m' g') (h':Ex m' g' m'' g''):Ex m g m'' g'':=by
 have rr:∀ c,g.ro c≠none->g'.ro c≠none:=fun c hc=>by rw [(h.ro c hc).1];exact hc
 have rs':∀ {c r},g'.ro c=some r->g''.ro c=some r:=fun {c r} e=>(h'.ro c (by rw [e];exact fun e=>by cases e)).1.trans e;have rs:∀ {c r},g.ro c=some r->g'.ro c=some r:=fun {c r} e=>(h.ro c (by rw [e];exact fun e=>by cases e)).1.trans e;refine ⟨⟨fun c hc=>?_,fun b c e=>h'.hm b c (h.hm b c e)⟩,fun D e=>?_,fun c e q=>h'.shut c (rs e) (h.shut c e q),fun c e q=>h'.slot c (rs e) (h.slot c e q),fun c e q=>?_,fun c w e=>h'.fz c w (h.fz c w e),fun c a d n i hs hn=>?_,fun c e=>h'.len c (h.len c e),fun c z e q=>h'.key c z (rs e) (h.key c z e q),fun D gd p o x hD e=>?_⟩
 ·obtain ⟨a1,a2,a3⟩:=h.ro c hc;obtain ⟨b1,b2,b3⟩:=h'.ro c (rr c hc);exact ⟨b1.trans a1,b2.trans a2,b3.trans a3⟩
 ·obtain ⟨a1,a2⟩:=h.pl D e;obtain ⟨b1,b2⟩:=h'.pl D a1;exact ⟨b1,b2.trans a2⟩
 ·have e1:=h.stay c e q;rw [h'.stay c (by rcases e with e | e | e;exact .inl (rs e);exact .inr (.inl (rs e));exact .inr (.inr (rs e))) (by rw [e1];exact q),e1]
 ·rw [h'.still c a d n i (h.sl hs) hn,h.still c a d n i hs (fun lo hi e=>hn lo hi (h'.iv e))]
 ·rcases h'.lt D gd p o x (h.dc hD) e with e | e
  ·rcases h.lt D gd p o x hD e with e | ⟨e1,e2⟩
   ·exact .inl e
   ·exact .inr ⟨rs' e1,h'.shut gd e1 e2⟩
  ·exact .inr e
end Sd
namespace Sd
structure Put1 (m m':Mst) (c0 x:Int):Prop where
 look:∀ c,m'.look c=if c=c0 then x else m.look c
 used:∀ c,m'.used c=m.used c
 ok:m'.ok
 size:m'.size=m.size
 len:m'.xs.length=m.xs.length
theorem look_set {s:Mst} {a x:Int} (hu:s.used a=true) (c:Int):(s.write a x).look c=if c=a then x else s.look c:=by
 obtain ⟨j,rfl,hj⟩:=Mst.used_nat hu;rw [Mst.write_in hj]
 by_cases hc:s.used c=true
 ·obtain ⟨i,rfl,hi⟩:=Mst.used_nat hc
  by_cases e:i=j
  ·subst e;rw [if_pos rfl];exact Mst.look_succ (by simp [hi])
  ·rw [if_neg (by omega)];have h1:s.look ((i:Int)+1)=s.xs[i]:=Mst.look_succ (List.getElem?_eq_getElem hi);rw [h1];refine Mst.look_succ ?_;show (s.xs.set j x)[i]? = _;rw [List.getElem?_set_ne (by omega),List.getElem?_eq_getElem hi]
 ·have h1:s.used c=false:=by simpa using hc
  have h2:Mst.used { s with count:=wrap64 (s.count+1),xs:=s.xs.set j x } c=false:=by
   unfold Mst.used at h1 ⊢;simpa using h1
  rw [Mst.look_none h1,Mst.look_none h2,if_neg];rintro rfl;rw [hu] at h1;cases h1
theorem len_set (s:Mst) (a x:Int):(s.write a x).xs.length=s.xs.length:=by
 unfold Mst.write Mst.put
 split
 ·simp [Mst.touch_xs]
 ·rw [Mst.touch_xs]
theorem used_set (s:Mst) (a x c:Int):(s.write a x).used c=s.used c:=by
 unfold Mst.used;rw [len_set s a x]
theorem size_touch (s:Mst) (a:Int):(s.touch a).size=s.size:=by unfold Mst.touch;split <;> rfl
theorem size_set (s:Mst) (a x:Int):(s.write a x).size=s.size:=by
 unfold Mst.write Mst.put
 split
 ·exact size_touch s a
 ·exact size_touch s a
theorem write_put {s:Mst} (h:s.ok) {a x:Int} (hu:s.used a=true) (hx:I64 x):Put1 s (s.write a x) a x:=by
 refine ⟨look_set hu,used_set s a x,?_,size_set s a x,len_set s a x⟩;obtain ⟨j,rfl,hj⟩:=Mst.used_nat hu;rw [Mst.write_in hj];refine ⟨fun z hz=>?_,by simpa using h.2⟩;rcases List.mem_or_eq_of_mem_set hz with hz | rfl
 ·exact h.1 z hz
 ·exact hx
variable {m m':Mst} {g:Gh} {c0 x:Int}
theorem Put1.ne (hp:Put1 m m' c0 x) {c:Int} (h:c≠c0):m'.look c=m.look c:=by rw [hp.look,if_neg h]
theorem Put1.eq (hp:Put1 m m' c0 x):m'.look c0=x:=by rw [hp.look,if_pos rfl]
theorem Put1.ex (hp:Put1 m m' c0 x) (h1:g.ro c0=some .shut->x≠0) (h2:g.ro c0=some .sum∨g.ro c0=some .root∨g.ro c0=some .out->m.look c0≠0->x=m.look c0)
  (h3:g.ro c0=some .slot->x≠0/\(∀ a d n i,Slot g c0 a d n i->∃ lo hi,Iv g a lo hi)/\∀ w,Fz m g c0 w->Fz m' g c0 w) (h4:∀ z,g.ro c0=some (.key z)->x=z):Ex m g m' g:=by
 refine ⟨⟨fun _ _=>⟨rfl,rfl,rfl⟩,fun _ _ e=>e⟩,fun _ e=>⟨e,rfl⟩,fun c e q=>?_,fun c e q=>?_,fun c e q=>?_,fun c w q=>?_,fun c a d n i hs hn=>?_,fun c e=>by rw [hp.used];exact e,fun c z e q=>?_,fun _ _ _ _ _ _ e=>.inl e⟩
 ·by_cases ec:c=c0
  ·rw [ec,hp.eq];exact h1 (ec ▸ e)
  ·rw [hp.ne ec];exact q
 ·by_cases ec:c=c0
  ·rw [ec,hp.eq];exact (h3 (ec ▸ e)).1
  ·rw [hp.ne ec];exact q
 ·by_cases ec:c=c0
  ·rw [ec,hp.eq];exact h2 (ec ▸ e) (ec ▸ q)
  ·exact hp.ne ec
 ·by_cases ec:c=c0
  ·have hs:g.ro c0=some .slot:=by
    obtain ⟨a,d,n,i,hs,_⟩:=q;rw [<- ec];exact hs.ro
   rw [ec] at q ⊢;exact (h3 hs).2.2 w q
  ·obtain ⟨a,d,n,i,hs,q1,q2,q3,q4⟩:=q;refine ⟨a,d,n,i,hs,?_,q2,q3,by rw [hp.ne ec];exact q4⟩
   by_cases e2:a+2=c0
   ·rw [e2,hp.eq];exact h1 (e2 ▸ hs.1.c2)
   ·rw [hp.ne e2];exact q1
 ·by_cases ec:c=c0
  ·rw [ec] at hs;obtain ⟨lo,hi,e⟩:=(h3 hs.ro).2.1 a d n i hs;exact absurd e (hn lo hi)
  ·exact hp.ne ec
 ·by_cases ec:c=c0
  ·rw [ec,hp.eq];exact h4 z (ec ▸ e)
  ·rw [hp.ne ec];exact q
theorem Inv.put (h:Inv m g) (hp:Put1 m m' c0 x) (hE:Ex m g m' g) (hc:COk m' g c0)
  (hk:∀ a d n i,IsInner g a d n->1<=i->i < d->m'.look (a+4+d+i)≠0->m'.look (a+4+i)=gk g a i):Inv m' g:=by
 refine ⟨hp.ok,by rw [hp.size,hp.len];exact h.sz,fun c=>by rw [hp.used];exact h.used c,fun c=>?_,⟨h.top.1,?_⟩,h.keys,hk,fun b c e=>?_,h.hm1,h.hml,h.hmu,h.late,h.plw⟩
 ·by_cases ec:c=c0
  ·rw [ec];exact hc
  ·by_cases hu:g.ro c=none
   ·unfold COk;rw [hu];trivial
   ·exact hE.cok hu (hp.ne ec) (fun _ _ _ e=>e) (h.cell c)
 ·have hs:Slot g 6 1 1 0 0:=⟨h.top.1,by omega,by omega,rfl⟩;exact hE.slot 6 hs.ro h.top.2
 ·obtain ⟨a,d,n,i,hs,q⟩:=h.home b c e;refine ⟨a,d,n,i,hs,?_⟩;rcases q with q | q
  ·exact .inl q
  ·by_cases hr:∃ lo hi,Iv g a lo hi
   ·exact .inl hr
   ·exact .inr (by rw [hE.still c a d n i hs (fun lo hi e=>hr ⟨lo,hi,e⟩)];exact q)
theorem Inv.put_plain (h:Inv m g) (hp:Put1 m m' c0 x) (hs:g.ro c0≠some .slot) (hk:∀ z,g.ro c0≠some (.key z)) (h1:g.ro c0=some .shut->x≠0) (h2:g.ro c0=some .sum∨g.ro c0=some .root∨g.ro c0=some .out->m.look c0≠0->x=m.look c0) (hc:Ex m g m' g->COk m' g c0):Inv m' g/\Ex m g m' g:=by
 have hE:=hp.ex (g:=g) h1 h2 (fun e=>absurd e hs) (fun z e=>absurd e (hk z));refine ⟨h.put hp hE (hc hE) (fun a d n i hI a1 a2 q=>?_),hE⟩;have e1:a+4+d+i≠c0:=fun e=>hs (e ▸ hI.cs i (by omega) a2);have e2:a+4+i≠c0:=fun e=>by obtain ⟨z,ez⟩:=hI.ck i a1 a2;exact hk z (e ▸ ez)
 rw [hp.ne e1] at q;rw [hp.ne e2];exact h.kin a d n i hI a1 a2 q
theorem Fz.fn {c w w':Int} (h:Fz m g c w) (h':Fz m g c w'):w=w':=by
 obtain ⟨_,_,_,_,_,_,_,k,q⟩:=h;obtain ⟨_,_,_,_,_,_,_,k',q'⟩:=h';rcases q with q | ⟨q,_,_,gd,x,hD⟩
 ·rcases q' with q' | ⟨q',_⟩
  ·exact q.symm.trans q'
  ·rw [q] at q';exact absurd q' k
 ·rcases q' with q' | ⟨_,_,_,gd',x',hD'⟩
  ·rw [q'] at q;exact absurd q k'
  ·exact (hD.fn hD').2.2.1
theorem FTf.fn:∀ {f f':Nat} {a:Int} {ps ps':Ps},FTf m g f a ps->FTf m g f' a ps'->ps=ps'
 | 0,_,_,_,_,h,_=>h.elim
 | _+1,0,_,_,_,_,h=>h.elim
 | f+1,f' + 1,a,ps,ps',⟨d,n,q,hI,_,hq,e⟩,⟨d',n',q',hI',_,hq',e'⟩=>by
  obtain ⟨rfl,rfl⟩:=hI.deg hI';rw [e,e']
  suffices hh:∀ i:Nat,(i:Int) < d->q i=q' i by
   have:∀ l:List Nat,(∀ i ∈ l,(i:Int) < d)->l.flatMap q=l.flatMap q':=by
    intro l
    induction l with
    | nil=>intro _;rfl
    | cons i l ih=>
     intro hl;rw [List.flatMap_cons,List.flatMap_cons,hh i (hl i (by simp)),ih (fun j hj=>hl j (by simp [hj]))]
   exact this (List.range d.toNat) (fun i hi=>by have:=List.mem_range.1 hi;omega)
  intro i hi;obtain ⟨w,z,hw⟩:=hq i hi;obtain ⟨w',z',hw'⟩:=hq' i hi;obtain rfl:=z.fn z';rcases hw with ⟨k,e1⟩ | ⟨k,u,v,hl,e1⟩ | ⟨k,e1,_⟩ | ⟨k,t,gd,p,hR,e1,_⟩
  ·rcases hw' with ⟨k',e2⟩ | ⟨k',_⟩ | ⟨k',_⟩ | ⟨k',_⟩
   ·rw [e1,e2]
   all_goals omega
  ·rcases hw' with ⟨k',_⟩ | ⟨k',u',v',hl',e2⟩ | ⟨k',_⟩ | ⟨k',_⟩
   ·omega
   ·have a1:=hl.c0.symm.trans hl'.c0;have a2:=hl.c1.symm.trans hl'.c1;cases a1;cases a2;rw [e1,e2]
   all_goals omega
  ·rcases hw' with ⟨k',_⟩ | ⟨k',_⟩ | ⟨k',e2,_⟩ | ⟨k',_⟩
   ·omega
   ·omega
   ·exact FTf.fn e1 e2
   ·omega
  ·rcases hw' with ⟨k',_⟩ | ⟨k',_⟩ | ⟨k',_⟩ | ⟨k',t',gd',p',hR',e2,_⟩
   ·omega
   ·omega
   ·omega
   ·obtain ⟨rfl,_⟩:=hR.fn hR';exact FTf.fn e1 e2
theorem FT.fn {a:Int} {ps ps':Ps} (h:FT m g a ps) (h':FT m g a ps'):ps=ps':=by
 obtain ⟨f,h⟩:=h;obtain ⟨f',h'⟩:=h';exact h.fn h'
theorem step_shut (h:Inv m g) {a d n:Int} (hI:IsInner g a d n) (ha:a≠1) (hc:Compl m g a) (hp:Put1 m m' (a+2) 1):Inv m' g/\Ex m g m' g:=by
 have r:=hI.c2;refine h.put_plain hp (by rw [r];exact fun e=>by cases e) (fun z=>by rw [r];exact fun e=>by cases e) (fun _=>by decide) (fun e=>by rw [r] at e;rcases e with e | e | e <;> cases e) (fun hE=>?_);unfold COk;rw [r];refine .inr ⟨hp.eq,?_,d,n,?_,?_⟩
 ·rw [hI.rb (j:=2) (by omega) (by have:=hI.pos;omega)];exact ha
 ·rw [hI.rb (j:=2) (by omega) (by have:=hI.pos;omega)];exact hI
 ·rw [hI.rb (j:=2) (by omega) (by have:=hI.pos;omega)];exact hE.compl hI hc
theorem step_sum (h:Inv m g) {a d n:Int} (hI:IsInner g a d n) {ps:Ps} (hF:FT m g a ps) (hp:Put1 m m' (a+4) (ps.length+1)):Inv m' g/\Ex m g m' g:=by
 have r:=hI.c4;have er:g.rb (a+4)=a:=hI.rb (j:=4) (by omega) (by have:=hI.pos;omega);refine h.put_plain hp (by rw [r];exact fun e=>by cases e) (fun z=>by rw [r];exact fun e=>by cases e) (fun e=>by rw [r] at e;cases e) (fun _ q=>?_) (fun hE=>?_)
 ·have e:=h.cell (a+4);unfold COk at e;rw [r,er] at e;rcases e with e | ⟨ps',e1,e2⟩
  ·exact absurd e q
  ·rw [e2,hF.fn e1]
 ·unfold COk;rw [r,er];exact .inr ⟨ps,hE.ft hF,hp.eq⟩
theorem step_count (h:Inv m g) {c:Int} (r:g.ro c=some .chg∨g.ro c=some .cnt) (hp:Put1 m m' c x):Inv m' g/\Ex m g m' g:=by
 refine h.put_plain hp (fun e=>by rcases r with r | r <;> (rw [r] at e;cases e)) (fun z e=>by rcases r with r | r <;> (rw [r] at e;cases e)) (fun e=>by rcases r with r | r <;> (rw [r] at e;cases e)) (fun e=>by rcases r with r | r <;> (rw [r] at e;rcases e with e | e | e <;> cases e)) (fun hE=>?_);unfold COk;rcases r with r | r <;> (rw [r];trivial)
theorem step_out (h:Inv m g) {D gd p o y:Int} (hD:IsDc g D gd p o y) (hpl:g.pl D=true) (h0:m.look (D+4)=0) (hx:x=1/\g.lt D=false∨x=2) (hp:Put1 m m' (D+4) x):Inv m' g/\Ex m g m' g:=by
 have r:=hD.c4;have er:g.rb (D+4)=D:=(hD.rc.2 4 (by omega) (by omega)).1;refine h.put_plain hp (by rw [r];exact fun e=>by cases e) (fun z=>by rw [r];exact fun e=>by cases e) (fun e=>by rw [r] at e;cases e) (fun _ q=>absurd h0 q) (fun hE=>?_);have e:=h.cell (D+4);unfold COk at e ⊢;rw [r,er] at e;rw [r,er];simp only at e ⊢;rw [hp.eq];refine ⟨hE.dcOk e.1,.inr ⟨by omega,hpl⟩,fun hl=>?_⟩;rcases hx with ⟨_,e2⟩ | e2
 ·rw [hl] at e2;cases e2
 ·omega
theorem step_root (h:Inv m g) {b t gd p:Int} (hR:IsReb g b t gd p) (h0:m.look (b+3)=0) (hw:RtOk m g b x) (hp:Put1 m m' (b+3) x):Inv m' g/\Ex m g m' g:=by
 have r:=hR.c3;have er:g.rb (b+3)=b:=(hR.rc.2 3 (by omega) (by omega)).1;refine h.put_plain hp (by rw [r];exact fun e=>by cases e) (fun z=>by rw [r];exact fun e=>by cases e) (fun e=>by rw [r] at e;cases e) (fun _ q=>absurd h0 q) (fun hE=>?_);have e:=h.cell (b+3);unfold COk at e ⊢;rw [r,er] at e;rw [r,er];simp only at e ⊢;rw [hp.eq];exact ⟨hE.rbOk e.1,.inr (hE.rtOk e.1 hw)⟩
theorem step_key (h:Inv m g) {a d n i:Int} (hI:IsInner g a d n) (h1:1<=i) (h2:i < d) (hp:Put1 m m' (a+4+i) (gk g a i)):Inv m' g/\Ex m g m' g:=by
 obtain ⟨z,r⟩:=hI.ck i h1 h2;have ez:gk g a i=z:=by unfold gk;rw [r]
 rw [ez] at hp;have hE:=hp.ex (g:=g) (fun e=>by rw [r] at e;cases e) (fun e=>by rw [r] at e;rcases e with e | e | e <;> cases e) (fun e=>by rw [r] at e;cases e) (fun z' e=>by rw [r] at e;cases e;rfl);refine ⟨h.put hp hE ?_ (fun a' d' n' i' hI' q1 q2 q=>?_),hE⟩
 ·unfold COk;rw [r];exact .inr hp.eq
 ·have e1:a' + 4+d' + i'≠a+4+i:=fun e=>by have:=hI'.cs i' (by omega) q2;rw [e,r] at this;cases this
  rw [hp.ne e1] at q;have hk:=h.kin a' d' n' i' hI' q1 q2 q
  by_cases e2:a' + 4+i'=a+4+i
  ·rw [e2,hp.eq];unfold gk;rw [e2,r]
  ·rw [hp.ne e2];exact hk
theorem step_slot (h:Inv m g) {c a d n i lo hi:Int} (hs:Slot g c a d n i) (hv:Iv g a lo hi) (hx:x≠0) (hfz:∀ w,Fz m g c w->Fz m' g c w) (hk:1<=i->m.look (a+4+i)=gk g a i) (hp:Put1 m m' c x) (hc:Ex m g m' g->OkW m' g c x∨(kd x=5/\g.pl (ad x)=true/\∃ gd o y,IsDc g (ad x) gd c o y)):Inv m' g/\Ex m g m' g:=by
 have r:=hs.ro;have hE:=hp.ex (g:=g) (fun e=>by rw [r] at e;cases e) (fun e=>by rw [r] at e;rcases e with e | e | e <;> cases e) (fun _=>⟨hx,fun a' d' n' i' hs'=>by obtain ⟨rfl,_⟩:=hs.fn hs';exact ⟨lo,hi,hv⟩,hfz⟩) (fun z e=>by rw [r] at e;cases e);refine ⟨h.put hp hE ?_ (fun a' d' n' i' hI' q1 q2 q=>?_),hE⟩
 ·unfold COk;rw [r];simp only;rw [hp.eq];exact .inr (hc hE)
 ·have e2:a' + 4+i'≠c:=fun e=>by obtain ⟨z,ez⟩:=hI'.ck i' q1 q2;rw [e,r] at ez;cases ez
  rw [hp.ne e2]
  by_cases e1:a' + 4+d' + i'=c
  ·obtain ⟨rfl,rfl,rfl,rfl⟩:=Slot.fn (g:=g) (c:=c) ⟨hI',by omega,q2,e1.symm⟩ hs;exact hk q1
  ·rw [hp.ne e1] at q;exact h.kin a' d' n' i' hI' q1 q2 q
end Sd
namespace Sd
variable {m m':Mst} {g:Gh}
def Gh.put (g:Gh) (D:Int) (b:Bool):Gh:={ g with pl:=fun x=>if x=D then true else g.pl x,lt:=fun x=>if x=D then b else g.lt x }
theorem Gh.put_e0 (g:Gh) (D:Int) (b:Bool):E0 g (g.put D b):=⟨fun _ _=>⟨rfl,rfl,rfl⟩,fun _ _ e=>e⟩
theorem Gh.put_e0' (g:Gh) (D:Int) (b:Bool):E0 (g.put D b) g:=⟨fun _ _=>⟨rfl,rfl,rfl⟩,fun _ _ e=>e⟩
theorem step_pl (h:Inv m g) {D gd p o x:Int} (hD:IsDc g D gd p o x) (h0:g.pl D=false) (b:Bool) (hb:b=true->m.look gd≠0):Inv m (g.put D b)/\Ex m g m (g.put D b):=by
 have f:=g.put_e0 D b;have r:=g.put_e0' D b;have hp:∀ E,g.pl E=true->(g.put D b).pl E=true/\(g.put D b).lt E=g.lt E:=fun E e=>by
  have:E≠D:=fun q=>by rw [q,h0] at e;cases e
  exact ⟨by show (if E=D then true else g.pl E)=true;rw [if_neg this];exact e,by show (if E=D then b else g.lt E)=_;rw [if_neg this]⟩
 have hE:Ex m g m (g.put D b):=⟨f,hp,fun _ _ e=>e,fun _ _ e=>e,fun _ _ _=>rfl,fun c w q=>by
  obtain ⟨a,d,n,i,hs,q1,q2,q3,q4⟩:=q;refine ⟨a,d,n,i,f.sl hs,q1,q2,q3,?_⟩;rcases q4 with q4 | ⟨k,p1,p2,gd',x',hD'⟩
  ·exact .inl q4
  ·exact .inr ⟨k,(hp _ p1).1,by rw [(hp _ p1).2];exact p2,gd',x',f.dc hD'⟩,fun _ _ _ _ _ _ _=>rfl,fun _ e=>e,fun _ _ _ e=>e,fun E gd' p' o' x' hE' e=>by
  have e':(if E=D then b else g.lt E)=true:=e
  by_cases ed:E=D
  ·rw [if_pos ed] at e';rw [ed] at hE';obtain ⟨rfl,rfl,rfl,rfl⟩:=hD.fn hE';refine .inr ⟨?_,hb e'⟩;have q:=h.cell (D+4);unfold COk at q;rw [hD.c4,(hD.rc.2 4 (by omega) (by omega)).1] at q;obtain ⟨⟨gd2,p2,o2,x2,q1,_,_,⟨a,d,n,i,lo,hi,q2,q3,_⟩,_⟩,_⟩:=q;obtain ⟨rfl,_⟩:=hD.fn q1;rw [q3];exact q2.1.c2
  ·rw [if_neg ed] at e';exact .inl e'⟩
 refine ⟨⟨h.ok,h.sz,h.used,fun c=>?_,⟨f.inner h.top.1,h.top.2⟩,fun a lo hi d n hv hI=>h.keys a lo hi d n (r.iv hv) (r.inner hI),fun a d n i hI=>h.kin a d n i (r.inner hI),fun x c e=>?_,h.hm1,h.hml,h.hmu,fun E e=>?_,fun E e=>?_⟩,hE⟩
 ·by_cases hu:g.ro c=none
  ·unfold COk;rw [show (g.put D b).ro c=g.ro c from rfl,hu];trivial
  ·exact hE.cok hu rfl (fun _ _ _ e=>r.siv e) (h.cell c)
 ·obtain ⟨a,d,n,i,hs,q⟩:=h.home x c e;exact ⟨a,d,n,i,f.sl hs,q.imp (fun ⟨lo,hi,e⟩=>⟨lo,hi,f.iv e⟩) id⟩
 ·show (if E=D then true else g.pl E)=true
  split
  ·rfl
  ·rename_i ne;have e':(if E=D then b else g.lt E)=true:=e;rw [if_neg ne] at e';exact h.late E e'
 ·by_cases ed:E=D
  ·exact ⟨gd,p,o,x,f.dc (ed ▸ hD)⟩
  ·have e':(if E=D then true else g.pl E)=true:=e;rw [if_neg ed] at e';obtain ⟨gd',p',o',x',q⟩:=h.plw E e';exact ⟨gd',p',o',x',f.dc q⟩
def PTf (m:Mst) (g:Gh):Nat->Int->Int->Int->Prop
 | 0=>fun _ _ _=>False
 | f+1=>fun b lo hi=>∀ d n,IsInner g b d n->(∀ i,0<=i->i+1 < d->gl g b lo i < gk g b (i+1)/\gk g b (i+1)<=hi)/\
   ∀ i,0<=i->i < d->m.look (b+4+d+i)=0∨(kd (m.look (b+4+d+i))≠5/\
    (∀ k v,IsLeaf g (ad (m.look (b+4+d+i))) k v->gl g b lo i<=k/\k<=gu g b d hi i)/\
    ∀ d' n',IsInner g (ad (m.look (b+4+d+i))) d' n'->PTf m g f (ad (m.look (b+4+d+i))) (gl g b lo i) (gu g b d hi i))
def Gh.link (g:Gh) (b c:Int):Gh:={ g with hm:=fun x=>if x=b then some c else g.hm x }
theorem Gh.link_inner {b c a d n:Int} (h:IsInner (g.link b c) a d n):IsInner g a d n:=⟨h.kn,h.rc,h.pos,h.c0,h.c1,h.c2,h.c3,h.c4,h.ck,h.cs⟩
theorem Gh.link_e0 {b c:Int} (h:g.hm b=none):E0 g (g.link b c):=⟨fun _ _=>⟨rfl,rfl,rfl⟩,fun x c' e=>by
 show (if x=b then some c else g.hm x)=some c';rw [if_neg (fun q=>by rw [q,h] at e;cases e)];exact e⟩
theorem link_iv (h:Inv m g) {b c a d n i l u:Int} (hb:g.hm b=none) (hb1:b≠1) (hs:Slot g c a d n i) (hv:Iv g a l u)
  (hP:∀ d' n',IsInner g b d' n'->∃ f,PTf m g f b (gl g a l i) (gu g a d u i)) {x lo hi:Int} (hx:Iv (g.link b c) x lo hi) :
  Iv g x lo hi∨((∀ lo hi,¬ Iv g x lo hi)/\∀ d' n',IsInner g x d' n'->∃ f,PTf m g f x lo hi):=by
 have f:=Gh.link_e0 (c:=c) hb
 induction hx with
 | top h1=>exact .inl (Iv.top (Gh.link_inner h1))
 | @sub a' l' u' d' n' i' x hv' hI' h3 h4 hx1 e ih=>
  have hI:=Gh.link_inner hI';have hs':Slot g (a' + 4+d' + i') a' d' n' i':=⟨hI,h3,h4,rfl⟩
  by_cases hr:∃ l0 u0,Iv g a' l0 u0
  ·obtain ⟨l0,u0,h0⟩:=hr;obtain ⟨rfl,rfl⟩:=(f.iv h0).fn hv';have e':(if x=b then some c else g.hm x)=some (a' + 4+d' + i'):=e
   by_cases ex:x=b
   ·rw [if_pos ex] at e';have ec:=Option.some.inj e';rw [<- ec] at hs';obtain ⟨rfl,rfl,rfl,rfl⟩:=hs'.fn hs;obtain ⟨rfl,rfl⟩:=h0.fn hv;subst ex;refine .inr ⟨fun lo hi q=>?_,hP⟩;cases q with
    | top _=>exact hb1 rfl
    | sub _ _ _ _ _ e2=>rw [hb] at e2;cases e2
   ·rw [if_neg ex] at e';exact .inl (Iv.sub h0 hI h3 h4 hx1 e')
  ·have e':(if x=b then some c else g.hm x)=some (a' + 4+d' + i'):=e
   by_cases ex:x=b
   ·rw [if_pos ex] at e';have ec:=Option.some.inj e';rw [<- ec] at hs';obtain ⟨rfl,_⟩:=hs'.fn hs;exact absurd ⟨l,u,hv⟩ hr
   ·rw [if_neg ex] at e';have hun:∀ lo hi,¬ Iv g x lo hi:=fun lo hi q=>by
     cases q with
     | top _=>exact hx1 rfl
     | @sub a2 l2 u2 d2 n2 i2 _ q1 q2 q3 q4 _ e2=>
      rw [e'] at e2;have ec:=Option.some.inj e2;obtain ⟨rfl,_⟩:=Slot.fn (g:=g) (c:=a2+4+d2+i2) ⟨q2,q3,q4,rfl⟩ (ec ▸ hs');exact hr ⟨_,_,q1⟩
    refine .inr ⟨hun,fun d2 n2 hI2=>?_⟩;rcases ih with q | ⟨_,q⟩
    ·exact absurd ⟨_,_,q⟩ hr
    ·obtain ⟨fu,q⟩:=q d' n' hI;obtain ⟨a3,d3,n3,i3,hs3,q3⟩:=h.home x _ e';obtain ⟨rfl,rfl,rfl,rfl⟩:=hs3.fn hs';rcases q3 with q3 | q3
     ·exact absurd q3 hr
     ·cases fu with
      | zero=>exact q.elim
      | succ fu=>
       rcases (q _ _ hI).2 _ h3 h4 with q0 | ⟨_,_,q5⟩
       ·rw [q0] at q3
        have:ad 0=0:=by decide
        rw [this] at q3
        have:=hI2.rc.1
        omega
       ·rw [q3] at q5;exact ⟨fu,q5 d2 n2 hI2⟩
theorem step_link (h:Inv m g) {b c a d n i l u:Int} (hb:g.hm b=none) (hb1:b≠1) (hk:g.kn b≠2) (hu:g.ro b≠none) (hs:Slot g c a d n i) (hv:Iv g a l u)
  (hP:∀ d' n',IsInner g b d' n'->∃ f,PTf m g f b (gl g a l i) (gu g a d u i)):Inv m (g.link b c)/\Ex m g m (g.link b c):=by
 have f:=Gh.link_e0 (c:=c) hb;have cl:∀ {x lo hi:Int},Iv (g.link b c) x lo hi->Iv g x lo hi∨((∀ lo hi,¬ Iv g x lo hi)/\∀ d' n',IsInner g x d' n'->∃ f,PTf m g f x lo hi):=fun q=>link_iv h hb hb1 hs hv hP q;have hE:Ex m g m (g.link b c):=⟨f,fun _ e=>⟨e,rfl⟩,fun _ _ e=>e,fun _ _ e=>e,fun _ _ _=>rfl,fun c' w q=>by
  obtain ⟨a',d',n',i',hs',q1,q2,q3,q4⟩:=q;refine ⟨a',d',n',i',f.sl hs',q1,q2,q3,?_⟩;rcases q4 with q4 | ⟨k,p1,p2,gd',x',hD'⟩
  ·exact .inl q4
  ·exact .inr ⟨k,p1,p2,gd',x',f.dc hD'⟩,fun _ _ _ _ _ _ _=>rfl,fun _ e=>e,fun _ _ _ e=>e,fun _ _ _ _ _ _ e=>.inl e⟩
 refine ⟨⟨h.ok,h.sz,h.used,fun c'=>?_,⟨f.inner h.top.1,h.top.2⟩,fun a' lo hi d' n' hv' hI'=>?_,fun a' d' n' i' hI'=>h.kin a' d' n' i' (Gh.link_inner hI'),fun x c' e=>?_,?_,fun x c' e=>?_,fun x c' e=>?_,h.late,fun E e=>?_⟩,hE⟩
 ·by_cases hu':g.ro c'=none
  ·unfold COk;rw [show (g.link b c).ro c'=g.ro c' from rfl,hu'];trivial
  ·by_cases hr:g.ro c'=some .slot/\¬ ∃ lo hi,SIv g c' lo hi
   ·obtain ⟨r,hr⟩:=hr;have q:=h.cell c';unfold COk at q ⊢;rw [show (g.link b c).ro c'=g.ro c' from rfl,r];rw [r] at q;simp only at q ⊢;rcases q with q | q | ⟨q1,q2,gd,o,x,q3⟩
    ·exact .inl q
    ·rcases q with ⟨k,h1,h2⟩ | ⟨k,ky',v,h1,h2⟩ | q | ⟨k,t,gd,h1,h2,h3⟩
     ·exact .inr (.inl (.inl ⟨k,f.empty h1,f.hm _ _ h2⟩))
     ·refine .inr (.inl (.inr (.inl ⟨k,ky',v,f.leaf h1,fun lo hi e=>?_⟩)));obtain ⟨a',d',n',l',u',i',q1,q2,q3,q4,q5,rfl,rfl⟩:=e;have hI:=Gh.link_inner q2;rcases cl q1 with e1 | ⟨_,e1⟩
      ·exact absurd ⟨_,_,Slot.siv ⟨hI,q3,q4,q5⟩ e1⟩ hr
      ·obtain ⟨fu,e1⟩:=e1 _ _ hI;cases fu with
       | zero=>exact e1.elim
       | succ fu=>
        have e2:=(e1 _ _ hI).2 i' q3 q4;rw [<- q5] at e2;rcases e2 with e2 | ⟨_,e2,_⟩
        ·rw [e2] at k;exact absurd k (by decide)
        ·exact e2 _ _ h1
     ·exact .inr (.inl (.inr (.inr (.inl (hE.okI q)))))
     ·exact .inr (.inl (.inr (.inr (.inr ⟨k,t,gd,f.reb h1,f.hm _ _ h2,hE.okI h3⟩))))
    ·exact .inr (.inr ⟨q1,q2,gd,o,x,f.dc q3⟩)
   ·exact hE.cok hu' rfl (fun r lo hi e=>f.back (Classical.byContradiction fun q=>hr ⟨r,q⟩) e) (h.cell c')
 ·have hI:=Gh.link_inner hI';rcases cl hv' with e | ⟨_,e⟩
  ·exact h.keys a' lo hi d' n' e hI
  ·obtain ⟨fu,e⟩:=e _ _ hI;cases fu with
   | zero=>exact e.elim
   | succ fu=>exact (e _ _ hI).1
 ·have e':(if x=b then some c else g.hm x)=some c':=e
  by_cases ex:x=b
  ·rw [if_pos ex] at e';have ec:=Option.some.inj e';rw [<- ec];exact ⟨a,d,n,i,f.sl hs,.inl ⟨l,u,f.iv hv⟩⟩
  ·rw [if_neg ex] at e';obtain ⟨a',d',n',i',hs',q⟩:=h.home x c' e';exact ⟨a',d',n',i',f.sl hs',q.imp (fun ⟨lo,hi,e⟩=>⟨lo,hi,f.iv e⟩) id⟩
 ·show (if (1:Int)=b then some c else g.hm 1)=none;rw [if_neg (fun e=>hb1 e.symm)];exact h.hm1
 ·have e':(if x=b then some c else g.hm x)=some c':=e
  by_cases ex:x=b
  ·rw [ex];exact hk
  ·rw [if_neg ex] at e';exact h.hml x c' e'
 ·have e':(if x=b then some c else g.hm x)=some c':=e
  by_cases ex:x=b
  ·rw [ex];exact hu
  ·rw [if_neg ex] at e';exact h.hmu x c' e'
 ·obtain ⟨gd',p',o',x',q⟩:=h.plw E e;exact ⟨gd',p',o',x',f.dc q⟩
end Sd
namespace Sd
variable {m m':Mst} {g:Gh}
def Gh.add (g:Gh) (A n:Int) (R:Int->Ro) (K:Int) (H:Int->Option Int) (t:Nat):Gh where
 ro:=fun c=>if A<=c/\c < A+n then some (R (c - A)) else g.ro c
 rb:=fun c=>if A<=c/\c < A+n then A else g.rb c
 kn:=fun c=>if A<=c/\c < A+n then K else g.kn c
 hm:=H
 ow:=fun c=>if A<=c/\c < A+n then t else g.ow c
 lt:=g.lt
 pl:=g.pl
structure More (m m':Mst) (ws:List Int):Prop where
 old:∀ c,m.used c=true->m'.look c=m.look c
 new:∀ i:Nat,i < ws.length->m'.look ((m.xs.length:Int)+1+i)=ws.getD i 0
 used:∀ c,m'.used c=true↔m.used c=true∨((m.xs.length:Int)+1<=c/\c < (m.xs.length:Int)+1+ws.length)
 ok:m'.ok
 size:m'.size=m.size
 cap:(m'.xs.length:Int)<=m'.size
theorem more_of {s s':Mst} {ws:List Int} (e:s'.xs=s.xs++ws) (h:s'.ok) (hz:s'.size=s.size) (hc:(s'.xs.length:Int)<=s'.size):More s s' ws:=by
 have hu:∀ c,s'.used c=true↔s.used c=true∨((s.xs.length:Int)+1<=c/\c < (s.xs.length:Int)+1+ws.length):=fun c=>by
  rw [Mst.used_iff,Mst.used_iff,e,List.length_append];omega
 refine ⟨fun c hc=>?_,fun i hi=>?_,hu,h,hz,hc⟩
 ·obtain ⟨j,rfl,hj⟩:=Mst.used_nat hc;have h1:s.look ((j:Int)+1)=s.xs[j]:=Mst.look_succ (List.getElem?_eq_getElem hj);rw [h1];refine Mst.look_succ ?_;rw [e,List.getElem?_append_left hj,List.getElem?_eq_getElem hj]
 ·rw [show (s.xs.length:Int)+1+i=((s.xs.length+i:Nat):Int)+1 by omega];refine Mst.look_succ ?_;rw [e,List.getElem?_append_right (by omega),show s.xs.length+i - s.xs.length=i by omega,List.getElem?_eq_getElem hi,List.getD_eq_getElem?_getD,List.getElem?_eq_getElem hi];rfl
section
variable {A n K:Int} {R:Int->Ro} {H:Int->Option Int} {t:Nat}
theorem Gh.add_in {c:Int} (h1:A<=c) (h2:c < A+n):(g.add A n R K H t).ro c=some (R (c - A))/\(g.add A n R K H t).rb c=A/\(g.add A n R K H t).kn c=K/\(g.add A n R K H t).ow c=t:=by
 unfold Gh.add;simp only;rw [if_pos ⟨h1,h2⟩,if_pos ⟨h1,h2⟩,if_pos ⟨h1,h2⟩,if_pos ⟨h1,h2⟩];exact ⟨rfl,rfl,rfl,rfl⟩
theorem Gh.add_out {c:Int} (h:¬ (A<=c/\c < A+n)):(g.add A n R K H t).ro c=g.ro c/\(g.add A n R K H t).rb c=g.rb c/\(g.add A n R K H t).kn c=g.kn c/\(g.add A n R K H t).ow c=g.ow c:=by
 unfold Gh.add;simp only;rw [if_neg h,if_neg h,if_neg h,if_neg h];exact ⟨rfl,rfl,rfl,rfl⟩
theorem Gh.add_rec (h0:1<=A) {k:Int} (hk:k<=n):Rec (g.add A n R K H t) A k:=⟨h0,fun j h1 h2=>by
 obtain ⟨e1,e2,_⟩:=Gh.add_in (g:=g) (A:=A) (n:=n) (R:=R) (K:=K) (H:=H) (t:=t) (c:=A+j) (by omega) (by omega);exact ⟨e2,by rw [e1];exact fun e=>by cases e⟩⟩
structure Links (m':Mst) (g g':Gh) (A:Int) (H:Int->Option Int):Prop where
 none:H A=none
 keep:∀ b c,g.hm b=some c->H b=some c
 new:∀ b c,H b=some c->g.hm b=some c∨(b≠1/\g.kn b≠2/\g.ro b≠Option.none/\∃ d n i,Slot g' c A d n i/\ad (m'.look c)=b)
theorem Inv.free (h:Inv m g) {ws:List Int} {c:Int} (hc:(m.xs.length:Int)+1<=c/\c < (m.xs.length:Int)+1+ws.length):g.ro c=none:=by
 cases e:g.ro c with
 | none=>rfl
 | some r=>
  have:=h.lt (c:=c) (by rw [e];exact fun e=>by cases e)
  omega
theorem step_add (h:Inv m g) {ws:List Int} (hm:More m m' ws) (hA:A=(m.xs.length:Int)+1) (hn:n=(ws.length:Int)) (hL:Links m' g (g.add A n R K H t) A H)
  (hc:Ex m g m' (g.add A n R K H t)->∀ j,0<=j->j < n->COk m' (g.add A n R K H t) (A+j))
  (hk:∀ d n' i,IsInner (g.add A n R K H t) A d n'->1<=i->i < d->m'.look (A+4+d+i)≠0->m'.look (A+4+i)=gk (g.add A n R K H t) A i) :
  Inv m' (g.add A n R K H t)/\Ex m g m' (g.add A n R K H t):=by
 have used_out:∀ c,g.ro c≠none->¬ (A<=c/\c < A+n):=fun c hc q=>hc (h.free (ws:=ws) ⟨by omega,by omega⟩);have f:E0 g (g.add A n R K H t):=⟨fun c hc=>by
  obtain ⟨e1,e2,e3,_⟩:=Gh.add_out (g:=g) (A:=A) (n:=n) (R:=R) (K:=K) (H:=H) (t:=t) (used_out c hc);exact ⟨e1,e2,e3⟩,hL.keep⟩
 generalize hg:g.add A n R K H t=g' at *;have hlook:∀ c,g.ro c≠none->m'.look c=m.look c:=fun c hc=>hm.old c ((h.used c).1 hc);have so:∀ {c r},g.ro c=some r->m'.look c=m.look c:=fun e=>hlook _ (by rw [e];exact fun e=>by cases e);have hpl:g'.pl=g.pl:=by rw [<- hg];rfl
 have hlt:g'.lt=g.lt:=by rw [<- hg];rfl
 have hhm:g'.hm=H:=by rw [<- hg];rfl
 have out:∀ {c},¬ (A<=c/\c < A+n)->g'.ro c=g.ro c/\g'.rb c=g.rb c/\g'.kn c=g.kn c:=fun {c} q=>by
  obtain ⟨e1,e2,e3,_⟩:=Gh.add_out (g:=g) (A:=A) (n:=n) (R:=R) (K:=K) (H:=H) (t:=t) q;rw [<- hg];exact ⟨e1,e2,e3⟩
 have inn:∀ {c},A<=c->c < A+n->g'.ro c=some (R (c - A))/\g'.rb c=A/\g'.kn c=K:=fun {c} q1 q2=>by
  obtain ⟨e1,e2,e3,_⟩:=Gh.add_in (g:=g) (A:=A) (n:=n) (R:=R) (K:=K) (H:=H) (t:=t) q1 q2;rw [<- hg];exact ⟨e1,e2,e3⟩
 have hE:Ex m g m' g':=⟨f,fun D e=>⟨by rw [hpl];exact e,by rw [hlt]⟩,fun c e q=>by rw [so e];exact q,fun c e q=>by rw [so e];exact q,fun c e _=>by rcases e with e | e | e <;> exact so e,fun c w q=>by
  obtain ⟨a,d,n,i,hs,q1,q2,q3,q4⟩:=q;refine ⟨a,d,n,i,f.sl hs,by rw [so hs.1.c2];exact q1,q2,q3,?_⟩;rw [so hs.ro];rcases q4 with q4 | ⟨k,p1,p2,gd',x',hD'⟩
  ·exact .inl q4
  ·exact .inr ⟨k,by rw [hpl];exact p1,by rw [hlt];exact p2,gd',x',f.dc hD'⟩,fun c a d n i hs _=>so hs.ro,fun c e=>(hm.used c).2 (.inl e),fun c z e q=>by rw [so e];exact q,fun D _ _ _ _ _ e=>.inl (by rw [hlt] at e;exact e)⟩
 have oldI:∀ a d n',g.ro a≠none->IsInner g' a d n'->IsInner g a d n':=fun a d n' ha hI=>by
  have hj:∀ j,0<=j->j < 2 * d+4->¬ (A<=a+j/\a+j < A+n):=fun j h1 h2 q=>by
   have e1:=hI.rb h1 h2;rw [(inn q.1 q.2).2.1] at e1;exact used_out a ha ⟨by omega,by have:=q.1;have:=q.2;omega⟩
  have o:=fun j h1 h2=>out (hj j h1 h2);have p:=hI.pos;have e0:=o 0 (by omega) (by omega);rw [Int.add_zero] at e0;exact ⟨e0.2.2.symm.trans hI.kn,⟨hI.rc.1,fun j h1 h2=>by have:=o j h1 h2;rw [<- this.1,<- this.2.1];exact hI.rc.2 j h1 h2⟩,p,e0.1.symm.trans hI.c0,(o 1 (by omega) (by omega)).1.symm.trans hI.c1,(o 2 (by omega) (by omega)).1.symm.trans hI.c2,(o 3 (by omega) (by omega)).1.symm.trans hI.c3,(o 4 (by omega) (by omega)).1.symm.trans hI.c4,
   fun i h1 h2=>by obtain ⟨z,e⟩:=hI.ck i h1 h2;exact ⟨z,by have e3:=(o (4+i) (by omega) (by omega)).1;rw [show a+(4+i)=a+4+i by omega] at e3;exact e3.symm.trans e⟩,
   fun i h1 h2=>by have e3:=(o (4+d+i) (by omega) (by omega)).1;rw [show a+(4+d+i)=a+4+d+i by omega] at e3;exact e3.symm.trans (hI.cs i h1 h2)⟩
 have newA:∀ a d n',g.ro a=none->IsInner g' a d n'->a=A:=fun a d n' ha hI=>by
  by_cases q:A<=a/\a < A+n
  ·have e1:=hI.rb (j:=0) (by omega) (by have:=hI.pos;omega);rw [Int.add_zero,(inn q.1 q.2).2.1] at e1;exact e1.symm
  ·have:=(out q).1.symm.trans hI.c0
   rw [ha] at this;cases this
 have cl:∀ {x lo hi:Int},Iv g' x lo hi->Iv g x lo hi:=fun {x lo hi} hx=>by
  induction hx with
  | top h1=>exact Iv.top h.top.1
  | @sub a' l' u' d' n' i' x hv' hI' h3 h4 hx1 e ih=>
   have ha:g.ro a'≠none:=by
    cases ih with
    | top h1=>rw [h1.c0];exact fun e=>by cases e
    | sub _ _ _ _ _ e2=>exact h.hmu _ _ e2
   have hI:=oldI a' d' n' ha hI';rw [f.gl hI h3 h4,f.gu hI h3];rw [hhm] at e;rcases hL.new _ _ e with e2 | ⟨_,_,_,d2,n2,i2,hs,_⟩
   ·exact Iv.sub ih hI h3 h4 hx1 e2
   ·obtain ⟨rfl,_⟩:=hs.fn (⟨hI',h3,h4,rfl⟩:Slot g' (a' + 4+d' + i') a' d' n' i');exact absurd ha (by rw [h.free (ws:=ws) (c:=A) ⟨by omega,by have:=hI'.pos;have:=hI'.rc;have q:=(hm.used A);have e5:=hI'.c0;by_cases q2:A < A+n;omega;exfalso;have e6:=(out (c:=A) (by omega)).1;rw [e6] at e5;have:=h.lt (c:=A) (by rw [e5];exact fun e=>by cases e);omega⟩];simp)
 refine ⟨⟨hm.ok,⟨by rw [hm.size];exact h.sz.1,hm.cap⟩,fun c=>?_,fun c=>?_,⟨f.inner h.top.1,by rw [so (Slot.ro (g:=g) (c:=6) (a:=1) (d:=1) (n:=0) (i:=0) ⟨h.top.1,by omega,by omega,rfl⟩)];exact h.top.2⟩,fun a lo hi d n' hv hI=>?_,fun a d n' i hI h1 h2 q=>?_,fun x c e=>?_,?_,fun x c e=>?_,fun x c e=>?_,fun D e=>?_,fun D e=>?_⟩,hE⟩
 ·rw [hm.used]
  by_cases q:A<=c/\c < A+n
  ·rw [(inn q.1 q.2).1];exact ⟨fun _=>.inr (by omega),fun _ e=>by cases e⟩
  ·rw [(out q).1,h.used];exact ⟨fun e=>.inl e,fun e=>e.resolve_right (by omega)⟩
 ·by_cases q:A<=c/\c < A+n
  ·have:=hc hE (c - A) (by omega) (by omega)
   rwa [show A+(c - A)=c by omega] at this
  ·by_cases hu:g.ro c=none
   ·unfold COk;rw [(out q).1,hu];trivial
   ·refine hE.cok hu (hlook c hu) (fun _ lo hi e=>?_) (h.cell c);obtain ⟨a,d,n',l,u,i,e1,e2,e3,e4,e5,rfl,rfl⟩:=e;have e1':=cl e1;have ha:g.ro a≠none:=by
     cases e1' with
     | top h1=>rw [h1.c0];exact fun e=>by cases e
     | sub _ _ _ _ _ e2=>exact h.hmu _ _ e2
    have hI:=oldI a d n' ha e2;exact ⟨a,d,n',l,u,i,e1',hI,e3,e4,e5,f.gl hI e3 e4,f.gu hI e3⟩
 ·have hv':=cl hv;have ha:g.ro a≠none:=by
   cases hv' with
   | top h1=>rw [h1.c0];exact fun e=>by cases e
   | sub _ _ _ _ _ e2=>exact h.hmu _ _ e2
  have hI':=oldI a d n' ha hI;intro i h1 h2
  have:=h.keys a lo hi d n' hv' hI' i h1 h2
  rw [f.gl hI' h1 (by omega),f.gk hI' (by omega) h2];exact this
 ·by_cases ha:g.ro a=none
  ·obtain rfl:=newA a d n' ha hI;exact hk d n' i hI h1 h2 q
  ·have hI':=oldI a d n' ha hI;obtain ⟨z,ez⟩:=hI'.ck i h1 h2;rw [so (hI'.cs i (by omega) h2)] at q;rw [so ez,f.gk hI' h1 h2];exact h.kin a d n' i hI' h1 h2 q
 ·rw [hhm] at e;rcases hL.new _ _ e with e2 | ⟨_,_,_,d2,n2,i2,hs,e3⟩
  ·obtain ⟨a,d,n',i,hs,q⟩:=h.home x c e2;refine ⟨a,d,n',i,f.sl hs,q.imp (fun ⟨lo,hi,e⟩=>⟨lo,hi,f.iv e⟩) (fun e=>by rw [so hs.ro];exact e)⟩
  ·exact ⟨A,d2,n2,i2,hs,.inr e3⟩
 ·rw [hhm];cases e:H 1 with
  | none=>rfl
  | some c=>
   rcases hL.new _ _ e with e2 | ⟨e2,_⟩
   ·rw [h.hm1] at e2;cases e2
   ·exact absurd rfl e2
 ·rw [hhm] at e;rcases hL.new _ _ e with e2 | ⟨_,e3,e4,_⟩
  ·rw [(f.ro x (h.hmu x c e2)).2.2];exact h.hml x c e2
  ·rw [(f.ro x e4).2.2];exact e3
 ·rw [hhm] at e;rcases hL.new _ _ e with e2 | ⟨_,e3,e4,_⟩
  ·rw [(f.ro x (h.hmu x c e2)).1];exact h.hmu x c e2
  ·rw [(f.ro x e4).1];exact e4
 ·rw [hpl];rw [hlt] at e;exact h.late D e
 ·rw [hpl] at e;obtain ⟨gd',p',o',x',q⟩:=h.plw D e;exact ⟨gd',p',o',x',f.dc q⟩
end
end Sd
namespace Sd
variable {m m':Mst} {g:Gh}
structure Rl (t:Nat) (m:Mst) (g:Gh) (m':Mst) (g':Gh):Prop where
 inv:Inv m' g'
 ex:Ex m g m' g'
 own:∀ b,g.ro b≠none->g'.ow b=g.ow b/\(g.ow b=t->g'.hm b=g.hm b/\g'.pl b=g.pl b)
structure Gt (t:Nat) (m:Mst) (g:Gh) (m':Mst) (g':Gh):Prop where
 inv:Inv m' g'
 ex:Ex m g m' g'
 own:∀ b,g.ro b≠none->g'.ow b=g.ow b/\(g.ow b≠t->g'.hm b=g.hm b/\g'.pl b=g.pl b)
theorem Rl.refl {t:Nat} (h:Inv m g):Rl t m g m g:=⟨h,Ex.refl m g,fun _ _=>⟨rfl,fun _=>⟨rfl,rfl⟩⟩⟩
theorem Rl.trans {t:Nat} {m1 m2 m3:Mst} {g1 g2 g3:Gh} (h:Rl t m1 g1 m2 g2) (h':Rl t m2 g2 m3 g3):Rl t m1 g1 m3 g3:=
 ⟨h'.inv,h.ex.trans h'.ex,fun b hb=>by
  obtain ⟨e1,e2⟩:=h.own b hb;obtain ⟨e3,e4⟩:=h'.own b (by rw [(h.ex.ro b hb).1];exact hb);exact ⟨e3.trans e1,fun e=>⟨(e4 (e1.trans e)).1.trans (e2 e).1,(e4 (e1.trans e)).2.trans (e2 e).2⟩⟩⟩
theorem Gt.trans {t:Nat} {m1 m2 m3:Mst} {g1 g2 g3:Gh} (h:Gt t m1 g1 m2 g2) (h':Gt t m2 g2 m3 g3):Gt t m1 g1 m3 g3:=
 ⟨h'.inv,h.ex.trans h'.ex,fun b hb=>by
  obtain ⟨e1,e2⟩:=h.own b hb;obtain ⟨e3,e4⟩:=h'.own b (by rw [(h.ex.ro b hb).1];exact hb);exact ⟨e3.trans e1,fun e=>⟨(e4 (by rw [e1];exact e)).1.trans (e2 e).1,(e4 (by rw [e1];exact e)).2.trans (e2 e).2⟩⟩⟩
theorem Gt.rl {t t':Nat} (ht:t≠t') {m':Mst} {g':Gh} (h:Gt t m g m' g'):Rl t' m g m' g':=⟨h.inv,h.ex,fun b hb=>⟨(h.own b hb).1,fun e=>(h.own b hb).2 (fun e2=>ht (e2.symm.trans e))⟩⟩
theorem Gt.same {t:Nat} (h:Inv m' g/\Ex m g m' g):Gt t m g m' g:=⟨h.1,h.2,fun _ _=>⟨rfl,fun _=>⟨rfl,rfl⟩⟩⟩
theorem Inv.hmA (h:Inv m g) {b:Int} (hb:g.ro b=none):g.hm b=none:=by
 cases e:g.hm b with
 | none=>rfl
 | some c=>exact absurd hb (h.hmu b c e)
theorem Inv.noA (h:Inv m g):g.ro ((m.xs.length:Int)+1)=none:=by
 cases e:g.ro ((m.xs.length:Int)+1) with
 | none=>rfl
 | some r=>
  have:=h.lt (c:=(m.xs.length:Int)+1) (by rw [e];exact fun e=>by cases e)
  omega
theorem Links.old (h:Inv m g) {g':Gh} {A:Int} (hA:A=(m.xs.length:Int)+1):Links m' g g' A g.hm:=
 ⟨h.hmA (by rw [hA];exact h.noA),fun _ _ e=>e,fun _ _ e=>.inl e⟩
theorem add_own {A n K:Int} {R:Int->Ro} {H:Int->Option Int} {t:Nat} (h:Inv m g) {ws:List Int} (hA:A=(m.xs.length:Int)+1) (hn:n=(ws.length:Int)) (hH:∀ b,g.ow b≠t->H b=g.hm b):∀ b,g.ro b≠none->(g.add A n R K H t).ow b=g.ow b/\(g.ow b≠t->(g.add A n R K H t).hm b=g.hm b/\(g.add A n R K H t).pl b=g.pl b):=fun b hb=>
 ⟨(Gh.add_out (fun q=>hb (h.free (ws:=ws) ⟨by omega,by omega⟩))).2.2.2,fun e=>⟨hH b e,rfl⟩⟩
theorem More.at {ws:List Int} (hm:More m m' ws) {A j:Int} (hA:A=(m.xs.length:Int)+1) (h0:0<=j) (h1:j < (ws.length:Int)):m'.look (A+j)=ws.getD j.toNat 0:=by
 have:=hm.new j.toNat (by omega)
 rwa [show (m.xs.length:Int)+1+(j.toNat:Int)=A+j by omega] at this
theorem COk.fix {c z:Int} (r:g.ro c=some (.fix z)) (e:m.look c=z):COk m g c:=by unfold COk;rw [r];exact e
theorem COk.key {c z:Int} (r:g.ro c=some (.key z)) (e:m.look c=0∨m.look c=z):COk m g c:=by unfold COk;rw [r];exact e
theorem COk.free {c:Int} (r:g.ro c=some .chg∨g.ro c=some .cnt):COk m g c:=by unfold COk;rcases r with r | r <;> (rw [r];trivial)
theorem COk.zero {c:Int} (r:g.ro c=some .shut∨g.ro c=some .sum∨g.ro c=some .slot) (e:m.look c=0):COk m g c:=by unfold COk;rcases r with r | r | r <;> (rw [r];exact .inl e)
theorem COk.child {c:Int} (r:g.ro c=some .slot) (e:OkW m g c (m.look c)):COk m g c:=by unfold COk;rw [r];exact .inr (.inl e)
theorem COk.root {c b:Int} (r:g.ro c=some .root) (eb:g.rb c=b) (h:RbOk m g b) (e:m.look c=0):COk m g c:=by unfold COk;rw [r];simp only;rw [eb];exact ⟨h,.inl e⟩
theorem COk.o {c b:Int} (r:g.ro c=some .out) (eb:g.rb c=b) (h:DcOk m g b) (e:m.look c=0):COk m g c:=by unfold COk;rw [r];simp only;rw [eb];exact ⟨h,.inl e,fun _=>by rw [e];decide⟩
section
variable {t:Nat} {A:Int}
theorem mk_empty (h:Inv m g) (hA:A=(m.xs.length:Int)+1) (hm:More m m' [0]):∃ g',Gt t m g m' g'/\IsEmpty g' A/\g'.hm A=none/\g'.ow A=t/\g'.hm=g.hm/\g'.pl=g.pl:=by
 have h0:1<=A:=by omega
 have e:=fun c=>Gh.add_in (g:=g) (A:=A) (n:=1) (R:=fun _=>.fix 0) (K:=1) (H:=g.hm) (t:=t) (c:=c);obtain ⟨a1,a2,a3,a4⟩:=e A (by omega) (by omega);have st:=step_add h hm hA (n:=1) rfl (Links.old h hA) (R:=fun _=>.fix 0) (K:=1) (t:=t) (fun _ j j0 j1=>by
  have lk:m'.look (A+j)=[(0:Int)].getD j.toNat 0:=hm.at hA j0 (by simp;omega);refine COk.fix (e (A+j) (by omega) (by omega)).1 ?_;rw [lk,show j=0 by omega];rfl) (fun d n' i hI _ _ _=>by have:=hI.kn;rw [a3] at this;omega)
 exact ⟨_,⟨st.1,st.2,add_own h (ws:=[0]) hA rfl (fun _ _=>rfl)⟩,⟨a3,Gh.add_rec h0 (Int.le_refl _),a1⟩,h.hmA (by rw [hA];exact h.noA),a4,rfl,rfl⟩
theorem mk_leaf (h:Inv m g) (hA:A=(m.xs.length:Int)+1) {k v:Int} (hm:More m m' [k,v]):∃ g',Gt t m g m' g'/\IsLeaf g' A k v/\g'.hm=g.hm/\g'.pl=g.pl:=by
 have h0:1<=A:=by omega
 have e:=fun c=>Gh.add_in (g:=g) (A:=A) (n:=2) (R:=fun j=>.fix ([k,v].getD j.toNat 0)) (K:=2) (H:=g.hm) (t:=t) (c:=c);obtain ⟨a1,a2,a3,a4⟩:=e A (by omega) (by omega);obtain ⟨b1,_⟩:=e (A+1) (by omega) (by omega);rw [Int.sub_self] at a1;rw [show A+1 - A=1 by omega] at b1;have st:=step_add h hm hA (n:=2) rfl (Links.old h hA) (R:=fun j=>.fix ([k,v].getD j.toNat 0)) (K:=2) (t:=t) (fun _ j j0 j1=>by
  refine COk.fix (e (A+j) (by omega) (by omega)).1 ?_;rw [hm.at hA j0 (by simpa using j1),show A+j - A=j by omega]) (fun d n' i hI _ _ _=>by have:=hI.kn;rw [a3] at this;omega)
 exact ⟨_,⟨st.1,st.2,add_own h (ws:=[k,v]) hA rfl (fun _ _=>rfl)⟩,⟨a3,Gh.add_rec h0 (Int.le_refl _),a1,b1⟩,rfl,rfl⟩
theorem mk_dc (h:Inv m g) (hA:A=(m.xs.length:Int)+1) {gd p o x:Int} (ho:OkW m g p o) (hx:OkW m g p x) (hat:At g gd p) (hm:More m m' [gd,p,o,x,0]):∃ g',Gt t m g m' g'/\IsDc g' A gd p o x/\g'.pl A=false/\g'.ow A=t:=by
 have h0:1<=A:=by omega
 have hpl:g.pl A=false:=by
  cases e:g.pl A with
  | false=>rfl
  | true=>
   obtain ⟨_,_,_,_,q⟩:=h.plw A e
   have:=q.c0
   have hno:g.ro A=none:=by rw [hA];exact h.noA
   rw [hno] at this;cases this
 obtain ⟨R,hR⟩:∃ R:Int->Ro,R=fun j=>if j=4 then Ro.out else .fix ([gd,p,o,x,0].getD j.toNat 0):=⟨_,rfl⟩;have e:=fun c=>Gh.add_in (g:=g) (A:=A) (n:=5) (R:=R) (K:=5) (H:=g.hm) (t:=t) (c:=c);have e':∀ j,0<=j->j < 5->(g.add A 5 R 5 g.hm t).ro (A+j)=some (R j)/\(g.add A 5 R 5 g.hm t).rb (A+j)=A:=fun j q1 q2=>by
  obtain ⟨u1,u2,_⟩:=e (A+j) (by omega) (by omega);rw [show A+j - A=j by omega] at u1;exact ⟨u1,u2⟩
 obtain ⟨_,_,a3,a4⟩:=e A (by omega) (by omega);have hD:IsDc (g.add A 5 R 5 g.hm t) A gd p o x:=by
  refine ⟨a3,Gh.add_rec h0 (Int.le_refl _),?_,?_,?_,?_,?_⟩
  ·have:=(e' 0 (by omega) (by omega)).1;rw [Int.add_zero] at this;rw [this,hR];rfl
  ·rw [(e' 1 (by omega) (by omega)).1,hR];rfl
  ·rw [(e' 2 (by omega) (by omega)).1,hR];rfl
  ·rw [(e' 3 (by omega) (by omega)).1,hR];rfl
  ·rw [(e' 4 (by omega) (by omega)).1,hR];rfl
 have st:=step_add h hm hA (n:=5) rfl (Links.old h hA) (R:=R) (K:=5) (t:=t) (fun hE j j0 j1=>by
  obtain ⟨q,q2⟩:=e' j j0 j1;have lk:=hm.at hA j0 (by simpa using j1)
  by_cases j4:j=4
  ·have r:R j=.out:=by rw [hR];exact if_pos j4
   exact COk.o (by rw [q,r]) q2 ⟨gd,p,o,x,hD,hE.okW (fun _ _ e=>hE.back hat.siv e) ho,hE.okW (fun _ _ e=>hE.back hat.siv e) hx,hE.at hat,fun e=>by have:=h.late A e;rw [hpl] at this;cases this⟩ (by rw [lk,j4];rfl)
  ·have r:R j=.fix ([gd,p,o,x,0].getD j.toNat 0):=by rw [hR];exact if_neg j4
   exact COk.fix (by rw [q,r]) lk) (fun d n' i hI _ _ _=>by have:=hI.kn;rw [a3] at this;omega)
 exact ⟨_,⟨st.1,st.2,add_own h (ws:=[gd,p,o,x,0]) hA rfl (fun _ _=>rfl)⟩,hD,hpl,a4⟩
theorem mk_reb (h:Inv m g) (hA:A=(m.xs.length:Int)+1) {w gd p:Int} (hw:OkI m g p w) (hat:At g gd p) (hm:More m m' [w,gd,p,0,0]):∃ g',Gt t m g m' g'/\IsReb g' A w gd p/\g'.hm A=none/\g'.ow A=t:=by
 have h0:1<=A:=by omega
 obtain ⟨R,hR⟩:∃ R:Int->Ro,R=fun j=>if j=4 then Ro.cnt else if j=3 then Ro.root else .fix ([w,gd,p,0,0].getD j.toNat 0):=⟨_,rfl⟩;have e:=fun c=>Gh.add_in (g:=g) (A:=A) (n:=5) (R:=R) (K:=4) (H:=g.hm) (t:=t) (c:=c);have e':∀ j,0<=j->j < 5->(g.add A 5 R 4 g.hm t).ro (A+j)=some (R j)/\(g.add A 5 R 4 g.hm t).rb (A+j)=A:=fun j q1 q2=>by
  obtain ⟨u1,u2,_⟩:=e (A+j) (by omega) (by omega);rw [show A+j - A=j by omega] at u1;exact ⟨u1,u2⟩
 obtain ⟨_,_,a3,a4⟩:=e A (by omega) (by omega);have hD:IsReb (g.add A 5 R 4 g.hm t) A w gd p:=by
  refine ⟨a3,Gh.add_rec h0 (Int.le_refl _),?_,?_,?_,?_,?_⟩
  ·have:=(e' 0 (by omega) (by omega)).1;rw [Int.add_zero] at this;rw [this,hR];rfl
  ·rw [(e' 1 (by omega) (by omega)).1,hR];rfl
  ·rw [(e' 2 (by omega) (by omega)).1,hR];rfl
  ·rw [(e' 3 (by omega) (by omega)).1,hR];rfl
  ·rw [(e' 4 (by omega) (by omega)).1,hR];rfl
 have st:=step_add h hm hA (n:=5) rfl (Links.old h hA) (R:=R) (K:=4) (t:=t) (fun hE j j0 j1=>by
  obtain ⟨q,q2⟩:=e' j j0 j1;have lk:=hm.at hA j0 (by simpa using j1)
  by_cases j4:j=4
  ·have r:R j=.cnt:=by rw [hR];exact if_pos j4
   exact COk.free (.inr (by rw [q,r]))
  ·by_cases j3:j=3
   ·have r:R j=.root:=by rw [hR];exact (if_neg j4).trans (if_pos j3)
    exact COk.root (by rw [q,r]) q2 ⟨w,gd,p,hD,hE.okI hw,hE.at hat⟩ (by rw [lk,j3];rfl)
   ·have r:R j=.fix ([w,gd,p,0,0].getD j.toNat 0):=by rw [hR];exact (if_neg j4).trans (if_neg j3)
    exact COk.fix (by rw [q,r]) lk) (fun d n' i hI _ _ _=>by have:=hI.kn;rw [a3] at this;omega)
 exact ⟨_,⟨st.1,st.2,add_own h (ws:=[w,gd,p,0,0]) hA rfl (fun _ _=>rfl)⟩,hD,h.hmA (by rw [hA];exact h.noA),a4⟩
def Kid (m:Mst) (g:Gh) (t:Nat) (w:Int):Prop:=w=0∨(kd w=2/\∃ k v,IsLeaf g (ad w) k v)∨(kd w=3/\ad w≠1/\g.hm (ad w)=none/\g.ow (ad w)=t/\Compl m g (ad w)/\∃ d n,IsInner g (ad w) d n/\2<=d)
def kidI (b w:Int):Bool:=kd w == 3 && ad w == b
def linkH (g:Gh) (A d:Int) (cs:List Int) (b:Int):Option Int:=match cs.findIdx? (kidI b) with
 | some i=>some (A+4+d+i)
 | none=>g.hm b
theorem idx_some {cs:List Int} {b:Int} {i:Nat} (h:cs.findIdx? (kidI b)=some i):∃ w,cs[i]? = some w/\kd w=3/\ad w=b:=by
 rw [List.findIdx?_eq_some_iff_getElem] at h;obtain ⟨h1,h2,_⟩:=h;simp only [kidI,Bool.and_eq_true,beq_iff_eq] at h2;exact ⟨_,List.getElem?_eq_getElem h1,h2.1,h2.2⟩
theorem idx_is {cs:List Int} (hd:∀ i j:Nat,∀ v w,cs[i]? = some v->cs[j]? = some w->kd v=3->kd w=3->ad v=ad w->i=j) {i:Nat} {w:Int} (h:cs[i]? = some w) (k:kd w=3):cs.findIdx? (kidI (ad w))=some i:=by
 cases e:cs.findIdx? (kidI (ad w)) with
 | none=>
  rw [List.findIdx?_eq_none_iff] at e
  have:=e w (List.mem_of_getElem? h)
  simp [kidI,k] at this
 | some j=>
  obtain ⟨v,e1,e2,e3⟩:=idx_some e;rw [hd i j w v h e1 k e2 e3.symm]
theorem mk_inner (h:Inv m g) (hA:A=(m.xs.length:Int)+1) {size d:Int} {q cs:List Int} (kz:Int->Int) (hd:(cs.length:Int)=d) (hd1:1<=d) (hq:(q.length:Int)=d - 1) (hkid:∀ w ∈ cs,Kid m g t w)
  (hdis:∀ i j:Nat,∀ v w,cs[i]? = some v->cs[j]? = some w->kd v=3->kd w=3->ad v=ad w->i=j)
  (hkey:∀ i:Nat,1<=i->(i:Int) < d->q.getD (i - 1) 0=kz i∨(q.getD (i - 1) 0=0/\cs.getD i 0=0))
  (hm:More m m' (innerL size q cs)) :
  ∃ g',Gt t m g m' g'/\IsInner g' A d size/\g'.hm A=none/\g'.ow A=t/\(∀ i,1<=i->i < d->gk g' A i=kz i)/\(∀ i:Nat,(i:Int) < d->m'.look (A+4+d+i)=cs.getD i 0)/\(∀ b,(∀ w ∈ cs,kd w=3->ad w≠b)->g'.hm b=g.hm b)/\g'.pl=g.pl:=by
 have h0:1<=A:=by omega
 have hl:((innerL size q cs).length:Int)=2 * d+4:=by rw [innerL_length];omega
 obtain ⟨R,hR⟩:∃ R:Int->Ro,R=fun j=>if j=0 then .fix d else if j=1 then .fix size else if j=2 then .shut else if j=3 then .chg else if j=4 then .sum else if j < 4+d then .key (kz (j - 4)) else .slot:=⟨_,rfl⟩;obtain ⟨g',hg⟩:∃ g',g.add A (2 * d+4) R 3 (linkH g A d cs) t=g':=⟨_,rfl⟩;have e':∀ j,0<=j->j < 2 * d+4->g'.ro (A+j)=some (R j)/\g'.rb (A+j)=A/\g'.kn (A+j)=3/\g'.ow (A+j)=t:=fun j q1 q2=>by
  obtain ⟨u1,u2⟩:=Gh.add_in (g:=g) (A:=A) (n:=2 * d+4) (R:=R) (K:=3) (H:=linkH g A d cs) (t:=t) (c:=A+j) (by omega) (by omega);rw [show A+j - A=j by omega] at u1;rw [<- hg];exact ⟨u1,u2⟩
 have r0:R 0=.fix d:=by rw [hR];rfl
 have r1:R 1=.fix size:=by rw [hR];rfl
 have r2:R 2=.shut:=by rw [hR];rfl
 have r3:R 3=.chg:=by rw [hR];rfl
 have r4:R 4=.sum:=by rw [hR];rfl
 have rk:∀ i,1<=i->i < d->R (4+i)=.key (kz i):=fun i i1 i2=>by
  rw [hR];show (if 4+i=0 then _ else _)=_;rw [if_neg (by omega),if_neg (by omega),if_neg (by omega),if_neg (by omega),if_neg (by omega),if_pos (by omega),show 4+i - 4=i by omega]
 have rs:∀ i,0<=i->i < d->R (4+d+i)=.slot:=fun i i1 i2=>by
  rw [hR];show (if 4+d+i=0 then _ else _)=_;rw [if_neg (by omega),if_neg (by omega),if_neg (by omega),if_neg (by omega),if_neg (by omega),if_neg (by omega)]
 have eA:=e' 0 (by omega) (by omega);rw [Int.add_zero] at eA;have hI:IsInner g' A d size:=by
  refine ⟨eA.2.2.1,by rw [<- hg];exact Gh.add_rec h0 (Int.le_refl _),hd1,by rw [eA.1,r0],by rw [(e' 1 (by omega) (by omega)).1,r1],by rw [(e' 2 (by omega) (by omega)).1,r2],by rw [(e' 3 (by omega) (by omega)).1,r3],by rw [(e' 4 (by omega) (by omega)).1,r4],fun i i1 i2=>⟨kz i,?_⟩,fun i i1 i2=>?_⟩
  ·rw [show A+4+i=A+(4+i) by omega,(e' (4+i) (by omega) (by omega)).1,rk i i1 i2]
  ·rw [show A+4+d+i=A+(4+d+i) by omega,(e' (4+d+i) (by omega) (by omega)).1,rs i i1 i2]
 have hgk:∀ i,1<=i->i < d->gk g' A i=kz i:=fun i i1 i2=>by
  unfold gk;rw [show A+4+i=A+(4+i) by omega,(e' (4+i) (by omega) (by omega)).1,rk i i1 i2]
 have lks:∀ i:Nat,(i:Int) < d->m'.look (A+4+d+i)=cs.getD i 0:=fun i i2=>by
  have:=hm.at hA (j:=4+d+i) (by omega) (by omega)
  rw [show A+(4+d+(i:Int))=A+4+d+i by omega] at this;rw [this];unfold innerL;rw [List.getD_eq_getElem?_getD,List.getD_eq_getElem?_getD,List.getElem?_append_right (by simp;omega),List.getElem?_append_right (by simp;omega)];congr 2;simp;omega
 have lkk:∀ i:Nat,1<=i->(i:Int) < d->m'.look (A+4+i)=q.getD (i - 1) 0:=fun i i1 i2=>by
  have:=hm.at hA (j:=4+i) (by omega) (by omega)
  rw [show A+(4+(i:Int))=A+4+i by omega] at this;rw [this];unfold innerL;rw [List.getD_eq_getElem?_getD,List.getD_eq_getElem?_getD,List.getElem?_append_right (by simp;omega),List.getElem?_append_left (by simp;omega)];congr 2;simp;omega
 have noA:g.hm A=none:=h.hmA (by rw [hA];exact h.noA);have hmA:linkH g A d cs A=none:=by
  unfold linkH;cases e:cs.findIdx? (kidI A) with
  | none=>exact noA
  | some i=>
   obtain ⟨w,e1,e2,e3⟩:=idx_some e;rcases hkid w (List.mem_of_getElem? e1) with q | ⟨q,_⟩ | ⟨_,_,_,_,_,d',n',q,_⟩
   ·rw [q] at e2;exact absurd e2 (by decide)
   ·omega
   ·have:=q.c0
    have hno:g.ro A=none:=by rw [hA];exact h.noA
    rw [e3,hno] at this;cases this
 have hL:Links m' g g' A (linkH g A d cs):=by
  refine ⟨hmA,fun b c e=>?_,fun b c e=>?_⟩
  ·unfold linkH;cases e2:cs.findIdx? (kidI b) with
   | none=>exact e
   | some i=>
    obtain ⟨w,e1,e2,e3⟩:=idx_some e2;rcases hkid w (List.mem_of_getElem? e1) with q | ⟨q,_⟩ | ⟨_,_,q,_⟩
    ·rw [q] at e2;exact absurd e2 (by decide)
    ·omega
    ·rw [e3,e] at q;cases q
  ·unfold linkH at e;cases e2:cs.findIdx? (kidI b) with
   | none=>rw [e2] at e;exact .inl e
   | some i=>
    rw [e2] at e;have ec:=Option.some.inj e;obtain ⟨w,e1,e2,e3⟩:=idx_some e2;have hil:=(List.getElem?_eq_some_iff.1 e1).1;have lw:m'.look c=w:=by
     rw [<- ec,lks i (by omega),List.getD_eq_getElem?_getD,e1];rfl
    rcases hkid w (List.mem_of_getElem? e1) with q | ⟨q,_⟩ | ⟨_,q1,_,_,_,d',n',q2,_⟩
    ·rw [q] at e2;exact absurd e2 (by decide)
    ·omega
    ·rw [e3] at q1 q2;exact .inr ⟨q1,by rw [q2.kn];decide,(by rw [q2.c0];exact (fun e=>by cases e)),d,size,i,⟨hI,by omega,by omega,ec.symm⟩,by rw [lw];exact e3⟩
 have noIv:∀ lo hi,¬ Iv g' A lo hi:=fun lo hi e=>by
  cases e with
  | top _=>
   have:=h.noA
   rw [<- hA,h.top.1.c0] at this;cases this
  | sub _ _ _ _ _ e2=>
   have:g'.hm A=none:=by rw [<- hg];exact hmA
   rw [this] at e2;cases e2
 have hk:∀ d' n' i,IsInner g' A d' n'->1<=i->i < d'->m'.look (A+4+d' + i)≠0->m'.look (A+4+i)=gk g' A i:=fun d' n' i hI' i1 i2 q=>by
  obtain ⟨rfl,rfl⟩:=hI.deg hI';rw [hgk i i1 i2];have a1:=lks i.toNat (by omega);have a2:=lkk i.toNat (by omega) (by omega);have a3:=hkey i.toNat (by omega) (by omega);rw [show ((i.toNat:Nat):Int)=i by omega] at a1 a2 a3;rw [a1] at q;rw [a2];rcases a3 with a3 | ⟨_,a3⟩
  ·exact a3
  ·exact absurd a3 q
 have st:=step_add h hm hA (n:=2 * d+4) hl.symm (R:=R) (K:=3) (t:=t) (H:=linkH g A d cs) (by rw [hg];exact hL) (fun hE j j0 j1=>by
  rw [hg] at hE ⊢;obtain ⟨q1,q2,_⟩:=e' j j0 j1;have lk:=hm.at hA j0 (by omega)
  by_cases c0:j=0
  ·subst c0;exact COk.fix (by rw [q1,r0]) (by rw [lk,<- hd];rfl)
  by_cases c1:j=1
  ·subst c1;exact COk.fix (by rw [q1,r1]) (by rw [lk];rfl)
  by_cases c2:j=2
  ·subst c2;exact COk.zero (.inl (by rw [q1,r2])) (by rw [lk];rfl)
  by_cases c3:j=3
  ·subst c3;exact COk.free (.inl (by rw [q1,r3]))
  by_cases c4:j=4
  ·subst c4;exact COk.zero (.inr (.inl (by rw [q1,r4]))) (by rw [lk];rfl)
  by_cases c5:j < 4+d
  ·obtain ⟨i,rfl⟩:∃ i:Nat,j=4+(i:Int):=⟨(j - 4).toNat,by omega⟩;refine COk.key (z:=kz i) (by rw [q1,rk i (by omega) (by omega)]) ?_;have a2:=lkk i (by omega) (by omega);rw [show A+4+(i:Int)=A+(4+i) by omega] at a2;rw [a2];rcases hkey i (by omega) (by omega) with a3 | ⟨a3,_⟩
   ·exact .inr a3
   ·exact .inl a3
  ·obtain ⟨i,rfl⟩:∃ i:Nat,j=4+d+(i:Int):=⟨(j - 4 - d).toNat,by omega⟩;have r:g'.ro (A+(4+d+i))=some .slot:=by rw [q1,rs i (by omega) (by omega)]
   have a1:=lks i (by omega);rw [show A+4+d+(i:Int)=A+(4+d+i) by omega] at a1;have hil:i < cs.length:=by omega
   obtain ⟨w,ew⟩:∃ w,cs[i]? = some w:=⟨_,List.getElem?_eq_getElem hil⟩;rw [List.getD_eq_getElem?_getD,ew] at a1;have a1':m'.look (A+(4+d+i))=w:=a1;rcases hkid w (List.mem_of_getElem? ew) with q | ⟨k,u,v,hl'⟩ | ⟨k,b1,b2,b3,b4,d',n',b5,b6⟩
   ·exact COk.zero (.inr (.inr r)) (by rw [a1',q])
   ·have hw:OkW m' g' (A+(4+d+i)) w:=.inr (.inl ⟨k,u,v,hE.leaf hl',fun lo hi e=>by
     obtain ⟨a,d2,n2,l2,u2,i2,z1,z2,z3,z4,z5,_,_⟩:=e;obtain ⟨rfl,_⟩:=Slot.fn (g:=g') (c:=A+(4+d+i)) ⟨z2,z3,z4,z5⟩ ⟨hI,by omega,by omega,(by omega:A+(4+d+(i:Int))=A+4+d+i)⟩;exact absurd z1 (noIv _ _)⟩)
    exact COk.child r (by rw [a1'];exact hw)
   ·have hh:g'.hm (ad w)=some (A+(4+d+i)):=by
     rw [<- hg];show linkH g A d cs (ad w)=_;unfold linkH;rw [idx_is hdis ew k];show some (A+4+d+(i:Int))=_;congr 1;omega
    have hw:OkW m' g' (A+(4+d+i)) w:=.inr (.inr (.inl ⟨k,d',n',hE.inner b5,b6,b1,hh,hE.compl b5 b4⟩));exact COk.child r (by rw [a1'];exact hw)) (by rw [hg];exact hk)
 rw [hg] at st;have hH:∀ b,g.ow b≠t->linkH g A d cs b=g.hm b:=fun b hb=>by
  unfold linkH;cases e:cs.findIdx? (kidI b) with
  | none=>rfl
  | some i=>
   obtain ⟨w,e1,e2,e3⟩:=idx_some e;rcases hkid w (List.mem_of_getElem? e1) with q | ⟨q,_⟩ | ⟨_,_,_,q,_⟩
   ·rw [q] at e2;exact absurd e2 (by decide)
   ·omega
   ·exact absurd (e3 ▸ q) hb
 have ow:=add_own (R:=R) (K:=3) h (ws:=innerL size q cs) hA hl.symm hH;rw [hg] at ow;refine ⟨g',⟨st.1,st.2,ow⟩,hI,by rw [<- hg];exact hmA,eA.2.2.2,hgk,lks,fun b hb=>?_,by rw [<- hg];rfl⟩;rw [<- hg];show linkH g A d cs b=_;unfold linkH;cases e:cs.findIdx? (kidI b) with
 | none=>rfl
 | some i=>
  obtain ⟨w,e1,e2,e3⟩:=idx_some e;exact absurd e3 (hb w (List.mem_of_getElem? e1) e2)
end
end Sd
end Go.Proofs.YtibnlaihiahjpaaGreat
