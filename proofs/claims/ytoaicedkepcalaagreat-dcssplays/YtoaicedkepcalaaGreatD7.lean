/-
  What the proof of YtoaicedkepcalaaGreatDcssPlaysProof goes by, part 7 of 11: contracts and plain facts; each part begins with its own sentence. No conditions beyond each theorem's own.
-/
import Derived.Test.YtoaicedkepcalaaGreatD6
import Derived.Test.YtoaicedkepcalaaGreatRows
import Derived.Laws.OwnMore
import Derived.Maps.OwnIn
namespace Go.Proofs.YtoaicedkepcalaaGreat
open Go.RowKit
section
def oneC (s:Mst) (f:Nat) (p:Int × Int):List (Int × Int):=pairsF s f (s.logicZ p.2)
theorem pairsF_succ {s:Mst} {f:Nat} {x:Int} (h2:kd x≠2):pairsF s (f+1) x=(slotsL s x).flatMap (oneC s f):=by
 rw [pairsF,leafL,if_neg h2,List.nil_append,spotsF_succ,List.flatMap_assoc];rfl
theorem pairsF_tgt {s:Mst} {f:Nat} {x:Int} (h4:kd x=4) (h3:kd (tgt s x)=3):pairsF s f (tgt s x)=pairsF s f x:=by
 rw [pairsF,pairsF,spotsF_tgt h3,leafL,leafL,if_neg (by rw [h3];decide),if_neg (by rw [h4];decide)]
theorem pairsF_none {s:Mst} {f:Nat} {x:Int} (h2:kd x≠2) (h3:kd (tgt s x)≠3):pairsF s f x=[]:=by
 rw [pairsF,spotsF_none h3,leafL,if_neg h2];rfl
theorem pairsF_le (s:Mst) (f:Nat) (x:Int):(pairsF s f x).length<=(spotsF s f x).length+1:=by
 rw [pairsF,List.length_append];have h1:=leafL_len s x;have h2:=leaves_len s (spotsF s f x);omega
theorem oneC_len (s:Mst) (f:Nat) (L:List (Int × Int)):(L.flatMap (oneC s f)).length<=(L.flatMap (oneF s f)).length:=by
 induction L with
 | nil=>simp
 | cons p L ih=>
  simp only [List.flatMap_cons,List.length_append]
  have:=pairsF_le s f (s.logicZ p.2)
  unfold oneC oneF;simp only [List.length_cons];unfold oneC oneF at ih;omega
def ContD (f:Nat):Prop:=∀ (w:World) (b:Nat) (s:Mst) (_:DM w b s) (_:s.ok) (x:Int) (_:Wf s f x) (_:(spotsF s f x).length<=70000),Calls Tryz.prog 140 #[.pointer (some ⟨b,0,none⟩),.int .i64 x] w (PSliced 59 (pairsF s f x) w)
set_option maxHeartbeats 2000000 in
set_option maxRecDepth 20000 in
theorem cont_inner (f:Nat) (ih:ContD f) (w:World) (b:Nat) (s:Mst) (h:DM w b s) (ho:s.ok) (x:Int) (hw:Wf s (f+1) x) (k3:kd x=3) (hl:(spotsF s (f+1) x).length<=70000) :
  Calls Tryz.prog 140 #[.pointer (some ⟨b,0,none⟩),.int .i64 x] w (PSliced 59 (pairsF s (f+1) x) w):=by
 have e0:tgt s x=x:=by rw [tgt,if_neg (by rw [k3];decide)]
 obtain ⟨hwh,hwk⟩:=hw;obtain ⟨p,hp⟩:∃ p,ad x=p:=⟨_,rfl⟩;have pr:=ad_range x;rw [hp] at pr;obtain ⟨a,rfl⟩:∃ a:Nat,p=(a:Int):=⟨p.toNat,by omega⟩;have a2:(a:Int)<=65536:=pr.2;have hd:=hwh.deg (by rw [e0];exact k3);rw [e0,hp] at hd;obtain ⟨d,hd'⟩:∃ d:Nat,s.look (a:Int)=(d:Int):=⟨(s.look a).toNat,by omega⟩;rw [hd'] at hd;obtain ⟨d2,d3⟩:=hd;have eA:atN s x=a:=by unfold atN;rw [e0,hp];omega
 have eD:degN s x=d:=by unfold degN;rw [e0,hp,hd'];omega
 have HLA:Hid (∀ k,k < d->(slotsL s x)[k]? = some ((k:Int),childS a d k)):=gh (fun k hk=>by
  have:=slotsL_at (s:=s) (x:=x) (by rw [e0];exact k3) (k:=k) (by rw [eD];exact hk)
  rwa [eA,eD] at this)
 have HLL:Hid ((slotsL s x).length=d):=gh (by rw [slotsL_len (by rw [e0];exact k3),eD]);rw [spotsF_succ] at hl;rw [pairsF_succ (by rw [k3];decide)];have H:=gh h;have HO:=gh ho;have HX:=gh hwh.i64;have HP:=gh hp;have HD:=gh hd';have K3:=gh k3;have IH:=gh ih;have HWK:=gh hwk;have HL:=gh hl;clear h ho hwh hp hd' k3 ih hwk hl pr e0 eA eD;go_enter Tryz.func140,Tryz.ntmps140;go_wp2_with (fail);refine (ak_d _ x a HX.o HP.o).mono ?_;rintro e w' ⟨rfl,rfl⟩;go_wp2_with (fail);refine (kk_d _ x 3 HX.o K3.o).mono ?_;rintro e w' ⟨rfl,rfl⟩;go_wp2_with (fail);refine (lk_d _ b s a d H.o HD.o).mono ?_;rintro e w' ⟨rfl,rfl⟩;go_wp2
 go_loopw [5,8] (fun v i wr=>∃ (k:Nat) (ys:List (Int × Int)),k<=d/\i=.int .i64 (k:Int)/\Hid (ys=((slotsL s x).take k).flatMap (oneC s f))/\Hid (PRow wr w.heap.size 59 v ys)/\Hid (Kept w wr)) (fun _ i _=>d - (intOf i).toNat)
 case atStart=>exact ⟨0,[],by omega,by simp,gh (by simp),gh (PRow.nil _ _ _),gh (Kept.refl _)⟩
 case round=>
  obtain ⟨k,ys,hk,rfl,HY,HR,HK⟩:=hrel
  by_cases hkn:k < d
  ·have j1:(k:Int) < (d:Int):=by omega
   have hcz:=gh (childZ_in (n:=a) (d:=(d:Int)) (i:=k) (by omega) (by omega) (by omega) (by omega) (by omega) (by omega));obtain ⟨sl,hsl⟩:∃ sl,(a:Int)+4+(d:Int)+k=sl:=⟨_,rfl⟩;rw [hsl] at hcz;obtain ⟨y,hy⟩:∃ y,s.logicZ sl=y:=⟨_,rfl⟩;have HYY:=gh hy;have hat:=HLA.o k hkn;have hat':(slotsL s x)[k]? = some ((k:Int),sl):=by rw [hat];unfold childS;rw [hsl]
   have hone:oneC s f ((k:Int),sl)=pairsF s f y:=by rw [oneC,hy]
   have hwf:Wf s f y:=by
    have:=HWK.o ((k:Int),sl) (List.mem_of_getElem? hat')
    rwa [hy] at this
   have HWF:=gh hwf;have hnx:((slotsL s x).take (k+1)).flatMap (oneC s f)=ys++pairsF s f y:=by rw [flat_take _ hat',<- HY.o,hone]
   have hlc:((slotsL s x).flatMap (oneC s f)).length<=70000:=Nat.le_trans (oneC_len s f _) HL.o;have hlen:(ys++pairsF s f y).length<=70000:=by rw [<- hnx];exact Nat.le_trans (flat_take_le _ _ _) hlc
   rw [List.length_append] at hlen;have hl2:(spotsF s f y).length<=70000:=by
    have h1:((slotsL s x).take (k+1)).flatMap (oneF s f)=((slotsL s x).take k).flatMap (oneF s f)++((sl,y) :: spotsF s f y):=by rw [flat_take _ hat',oneF,hy]
    have h2:=Nat.le_trans (flat_take_le (oneF s f) (slotsL s x) (k+1)) HL.o;rw [h1,List.length_append,List.length_cons] at h2;omega
   obtain ⟨us,hus⟩:∃ us,ys++pairsF s f y=us:=⟨_,rfl⟩;have HUS:=gh hus.symm;have HNX:Hid (us=((slotsL s x).take (k+1)).flatMap (oneC s f)):=gh (by rw [hnx,<- hus]);have L2:Hid ((spotsF s f y).length<=70000):=gh hl2;have L3:Hid (ys.length+(pairsF s f y).length<=1000000):=gh (by omega);have MW:=gh (H.o.kept HK.o);clear hy hat hat' hone hwf hnx hlc hlen hl2 hus hsl;go_wp2_with (fail);refine (child_r _ a d k sl hcz.o).mono ?_;rintro e w' ⟨rfl,rfl⟩;go_wp2_with (fail);refine (logic_d _ b s sl y MW.o HO.o HYY.o).mono ?_;rintro e w' ⟨rfl,rfl⟩;go_wp2_with (fail);refine (IH.o _ b s MW.o HO.o y HWF.o L2.o).mono ?_;rintro e W2 ⟨v2,rfl,hr2,k2⟩;obtain ⟨a2',c2,hv2,hrd,_,_,h0,_⟩:=hr2.reads;obtain ⟨M,hM⟩:∃ M,(pairsF s f y).length=M:=⟨_,rfl⟩;have HMM:=gh hM;rw [hM] at hv2;subst hv2;have HR2:=gh (HR.o.kept k2);have HK2:=gh (HK.o.trans k2);have HRD:=gh hrd;have H0:=gh h0;clear hr2 k2 hrd h0 hM HR HK MW;go_wp2_with (at_builtin;refine Stop.out ?_);refine ⟨?_⟩;refine wpList_append_pairs ptP rfl _ _ rfl w.heap.size _ ys (pairsF s f y) us rfl HR2.o a2' M c2 HMM.o rfl HRD.o H0.o L3.o HK2.o.size HUS.o ?_;intro v3 W3 hown hg _;have HK3:=gh (pkept_append HK2.o HR2.o hg);have HR3:=gh hown;clear hown hg HR2 HK2 HRD H0;go_wp2;exact ⟨⟨k+1,us,by omega,by simp,HNX,HR3,HK3⟩,by simp [intOf];omega⟩
  ·have hkn':k=d:=by omega
   subst hkn';have j1:¬ ((k:Int) < (k:Int)):=by omega
   have HE:Hid (ys=(slotsL s x).flatMap (oneC s f)):=gh (by rw [HY.o,List.take_of_length_le (by rw [HLL.o];omega)]);go_wp2;go_ret;exact ⟨_,rfl,by rw [<- HE.o];exact HR.o,HK.o⟩
set_option maxHeartbeats 1000000 in
theorem cont_d:∀ f,ContD f
 | 0=>fun _ _ _ _ _ _ h _=>h.elim
 | f+1=>by
  have ih:=cont_d f;intro w b s h ho x hw hl;obtain ⟨k,hk⟩:∃ k,kd x=k:=⟨_,rfl⟩
  by_cases k3:k=3
  ·exact cont_inner f ih w b s h ho x hw (by rw [hk,k3]) hl
  obtain ⟨p,hp⟩:∃ p,ad x=p:=⟨_,rfl⟩;have pr:=ad_range x;rw [hp] at pr;have H:=gh h;have HX:=gh hw.1.i64;have HP:=gh hp;have HK:=gh hk
  by_cases k2:k=2
  ·subst k2;obtain ⟨z1,hz1⟩:∃ z,s.look p=z:=⟨_,rfl⟩;obtain ⟨z2,hz2⟩:∃ z,s.look (p+1)=z:=⟨_,rfl⟩;have HE:Hid (pairsF s (f+1) x=[(z1,z2)]):=gh (by
    rw [pairsF,spotsF_none (by rw [tgt,if_neg (by rw [hk];decide),hk];decide),leafL,if_pos hk,hp,hz1,hz2];rfl)
   have HZ1:=gh hz1;have HZ2:=gh hz2;clear h ho hw hl hk hp hz1 hz2 ih k3;go_enter Tryz.func140,Tryz.ntmps140;go_wp2_with (fail);refine (ak_d _ x p HX.o HP.o).mono ?_;rintro e w' ⟨rfl,rfl⟩;go_wp2_with (fail);refine (kk_d _ x 2 HX.o HK.o).mono ?_;rintro e w' ⟨rfl,rfl⟩;go_wp2_with (fail);refine (lk_d _ b s p z1 H.o HZ1.o).mono ?_;rintro e w' ⟨rfl,rfl⟩;go_wp2_with (fail);refine (lk_d _ b s (p+1) z2 H.o HZ2.o).mono ?_;rintro e w' ⟨rfl,rfl⟩;go_wp2;go_ret;refine ⟨_,rfl,?_,Kept.alloc (Kept.refl _) _⟩;rw [HE.o];exact ⟨rfl,.inr ⟨w.heap.size,1,_,rfl,Nat.le_refl _,heap_new _ _,Nat.le_refl _,by unfold maxLen;omega,rfl,rfl⟩⟩
  by_cases k4:k=4
  ·have h3:=hw.1.tg (by rw [hk];exact k4);have e0:tgt s x=s.look p:=by rw [tgt,if_pos (by rw [hk];exact k4),hp]
   obtain ⟨z,hz⟩:∃ z,s.look p=z:=⟨_,rfl⟩;have HZ:=gh hz;have hw2:=hw.down ho h3;have HS:Hid (Calls Tryz.prog 140 #[.pointer (some ⟨b,0,none⟩),.int .i64 z] w (PSliced 59 (pairsF s (f+1) x) w)):=gh (by
    rw [<- pairsF_tgt (by rw [hk];exact k4) h3,e0,hz];rw [e0,hz] at hw2 h3;refine cont_inner f ih w b s h ho z hw2 h3 ?_;rw [<- hz,<- e0,spotsF_tgt (by rw [e0,hz];exact h3)];exact hl)
   subst k4;clear h ho hw hl hk hp hz e0 h3 hw2 ih k3 k2;go_enter Tryz.func140,Tryz.ntmps140;go_wp2_with (fail);refine (ak_d _ x p HX.o HP.o).mono ?_;rintro e w' ⟨rfl,rfl⟩;go_wp2_with (fail);refine (kk_d _ x 4 HX.o HK.o).mono ?_;rintro e w' ⟨rfl,rfl⟩;go_wp2_with (fail);refine (lk_d _ b s p z H.o HZ.o).mono ?_;rintro e w' ⟨rfl,rfl⟩;go_wp2_with (fail);refine HS.o.mono ?_;rintro e W1 ⟨v,rfl,hr,k1⟩;have HR:=gh hr;have K1:=gh k1;clear hr k1 HS;go_wp2;go_ret;exact ⟨_,rfl,HR.o,K1.o⟩
  ·have HE:=gh (pairsF_none (s:=s) (f:=f+1) (x:=x) (by rw [hk];exact k2) (by rw [tgt,if_neg (by rw [hk];exact k4),hk];exact k3));have g0:(k == 2)=false:=by simp [k2]
   have g1:(k == 4)=false:=by simp [k4]
   have g2:(k == 3)=false:=by simp [k3]
   clear h ho hw hl hk hp ih k3 k4 k2;go_enter Tryz.func140,Tryz.ntmps140;go_wp2_with (fail);refine (ak_d _ x p HX.o HP.o).mono ?_;rintro e w' ⟨rfl,rfl⟩;go_wp2_with (fail);refine (kk_d _ x k HX.o HK.o).mono ?_;rintro e w' ⟨rfl,rfl⟩;go_wp2;go_ret;exact ⟨_,rfl,by rw [HE.o];exact PRow.nil _ _ _,Kept.refl _⟩
def leavesL (s:Mst):List (Int × Int):=if soundB s=true then pairsF s (fuel s) (s.logicZ 6) else []
theorem leaves_d (w:World) (b:Nat) (s:Mst) (h:DM w b s) (ho:s.ok) (xs:List (Int × Int)) (e1:leavesL s=xs) :
  Calls Tryz.prog 113 #[.pointer (some ⟨b,0,none⟩)] w (PSliced 59 xs w):=by
 have H:=gh h;have HO:=gh ho;obtain ⟨q,hq⟩:∃ q,soundB s=q:=⟨_,rfl⟩;have HQ:=gh hq;rw [leavesL,hq] at e1;cases q with
 | false=>
  have HX:Hid (xs=[]):=gh (by rw [<- e1];rfl);clear h ho hq e1;go_enter Tryz.func113,Tryz.ntmps113;go_wp2_with (fail);refine (sound_d _ b s H.o HO.o false HQ.o).mono ?_;rintro e W2 ⟨rfl,k2⟩;have K2:=gh k2;clear k2;go_wp2;go_ret;exact ⟨_,rfl,by rw [HX.o];exact PRow.nil _ _ _,K2.o⟩
 | true=>
  obtain ⟨y,hy⟩:∃ y,s.logicZ 6=y:=⟨_,rfl⟩;have HYY:=gh hy;have HX:Hid (pairsF s (fuel s) y=xs):=gh (by rw [<- e1,if_pos rfl,hy]);have hwf:=wf_root ho hq;rw [hy] at hwf;have HWF:=gh hwf;have hlen:=spotsL_len ho hq;rw [spotsL,hy,List.length_cons] at hlen;have L2:Hid ((spotsF s (fuel s) y).length<=70000):=gh (by omega);clear h ho hq e1 hy hwf hlen;go_enter Tryz.func113,Tryz.ntmps113;go_wp2_with (fail);refine (sound_d _ b s H.o HO.o true HQ.o).mono ?_;rintro e W2 ⟨rfl,k2⟩;have K2:=gh k2;have M2:=gh (H.o.kept k2);clear k2;go_wp2_with (fail);refine (logic_d _ b s 6 y M2.o HO.o HYY.o).mono ?_;rintro e w' ⟨rfl,rfl⟩;go_wp2_with (fail);refine (cont_d (fuel s) W2 b s M2.o HO.o y HWF.o L2.o).mono ?_;rintro e W4 ⟨v2,rfl,hr2,k4⟩;have R4:=gh hr2;have K4:=gh (K2.o.trans k4);rw [HX.o] at R4;clear hr2 k4;go_wp2;go_ret;exact ⟨_,rfl,R4.o.low K2.o.size,K4.o⟩
end
section
open Go.Shelf
variable {P:Nat->Prop}
attribute [local go_sem] Oper.semAt_some
theorem Mst.make_ok {s:Mst} (h:s.ok) (hs:s.size<=65536) {ws:List Int} (hw:∀ z ∈ ws,I64 z):(s.make ws).ok/\(s.make ws).size=s.size:=by
 unfold Mst.make
 split
 ·rename_i hf;refine ⟨⟨fun z hz=>?_,?_⟩,rfl⟩
  ·rcases List.mem_append.1 hz with hz | hz
   ·exact h.1 z hz
   ·exact hw z hz
  ·simp only [Mst.fits,Bool.and_eq_true,decide_eq_true_eq] at hf;simp only [List.length_append];omega
 ·exact ⟨h,rfl⟩
theorem recS_ok {s:Mst} (h:s.ok) (hs:s.size<=65536) (k:Int) {ws:List Int} (hw:∀ z ∈ ws,I64 z):((recS s k ws).2.ok/\(recS s k ws).2.size=s.size)/\I64 (recS s k ws).1:=⟨Mst.make_ok h hs hw,i64_of _ _⟩
theorem kidF_ok {L:Mst->List (Int × Int)->Int × Mst} (hL:∀ s ps,s.ok->s.size<=65536->Fit.PF ps->ps.length<=1000000->((L s ps).2.ok/\(L s ps).2.size=s.size)/\I64 (L s ps).1) {ps:List (Int × Int)} (hp:Fit.PF ps) (hl:ps.length<=1000000) {s:Mst} (h:s.ok) (hs:s.size<=65536):∀ n,((kidF L ps s n).2.ok/\(kidF L ps s n).2.size=s.size)/\∀ z ∈ (kidF L ps s n).1,I64 z
 | 0=>⟨⟨h,rfl⟩,fun _ h=>by cases h⟩
 | i+1=>by
  obtain ⟨⟨a1,a2⟩,a3⟩:=kidF_ok hL hp hl h hs i;rw [kidF];obtain ⟨⟨b1,b2⟩,b3⟩:=hL _ _ a1 (by rw [a2];exact hs) (Fit.PF.part hp (i:Int)) (Nat.le_trans (by unfold partL;simp only [List.length_take,List.length_drop];omega) hl);refine ⟨⟨b1,by rw [b2,a2]⟩,fun z hz=>?_⟩;rcases List.mem_append.1 hz with hz | hz
  ·exact a3 z hz
  ·obtain rfl:=List.mem_singleton.1 hz;exact b3
theorem layF_ok:∀ (f:Nat) (s:Mst) (ps:List (Int × Int)),s.ok->s.size<=65536->Fit.PF ps->ps.length<=1000000->((layF f s ps).2.ok/\(layF f s ps).2.size=s.size)/\I64 (layF f s ps).1
 | 0,_,_,h,_,_,_=>⟨⟨h,rfl⟩,i64_0⟩
 | f+1,s,ps,h,hs,hp,hl=>by
  rw [layF_succ];have hk:=kidF_ok (L:=layF f) (fun s ps h hs hp hl=>layF_ok f s ps h hs hp hl) hp hl h hs (Pt.degZ ps.length).toNat
  split
  ·exact recS_ok h hs 1 (fun z hz=>by obtain rfl:=List.mem_singleton.1 hz;exact i64_0)
  ·split
   ·exact recS_ok h hs 2 (fun z hz=>by
     simp only [List.mem_cons,List.not_mem_nil,or_false] at hz;rcases hz with rfl | rfl
     ·exact (Fit.PF.head hp).1
     ·exact (Fit.PF.head hp).2)
   ·obtain ⟨⟨a,b⟩,c⟩:=recS_ok hk.1.1 (by rw [hk.1.2];exact hs) 3 (Fit.innerL_fit (n:=ps.length) (i64_small (by omega) (by omega)) (Fit.lowL hp (Pt.degZ ps.length).toNat) hk.2 (by rw [kidF_len];have:=deg_small ps.length;omega));exact ⟨⟨a,by rw [b,hk.1.2]⟩,c⟩
theorem buildS_ok {s:Mst} (h:s.ok) (hs:s.size<=65536) {ps:List (Int × Int)} (hp:Fit.PF ps) (hl:ps.length<=1000000):((buildS s ps).2.ok/\(buildS s ps).2.size=s.size)/\I64 (buildS s ps).1.1:=by
 unfold buildS
 split
 ·exact layF_ok _ s ps h hs hp hl
 ·exact ⟨⟨h,rfl⟩,i64_0⟩
theorem Mst.write_ok {s:Mst} (h:s.ok) (a:Int) {x:Int} (hx:I64 x):(s.write a x).ok:=by
 unfold Mst.write Mst.put Mst.touch
 split
 ·split
  ·refine ⟨fun z hz=>?_,by simpa using h.2⟩;rcases List.mem_or_eq_of_mem_set hz with hz | rfl
   ·exact h.1 z hz
   ·exact hx
  ·exact ⟨h.1,h.2⟩
 ·split
  ·refine ⟨fun z hz=>?_,by simpa using h.2⟩;rcases List.mem_or_eq_of_mem_set hz with hz | rfl
   ·exact h.1 z hz
   ·exact hx
  ·exact ⟨h.1,h.2⟩
namespace Ixp
def idleB (ix:Ixp):Bool:=ix.ts.all fun q=>!q.busy
def loadZ (ix:Ixp) (ps:List (Int × Int)):Int × Ixp:=
 if ix.idleB=false then (4,ix)
 else if ascB ps=false then (6,ix)
 else if 0 < (leavesL ix.m).length then (7,ix)
 else if (buildS ix.m ps).1.2=false then (8,{ ix with m:=(buildS ix.m ps).2 })
 else (0,{ ix with m:=(buildS ix.m ps).2.write 6 (buildS ix.m ps).1.1,logn:=ix.logn+1 })
end Ixp
set_option maxRecDepth 100000 in
set_option maxHeartbeats 1000000 in
theorem idle_r (W:World) (n₀ x mb tb:Nat) (ix:Ixp) (mv:Value) (tv lv:Sl) (pz:List Pt) (h:IxIs P W n₀ x ix mb mv tb tv lv pz) (hN:ix.ts.length<=100000) (r:Bool) (e1:ix.idleB=r) :
  Calls Tryz.prog 111 #[.pointer (some ⟨x,0,none⟩)] W fun e W'=>e=.returned (.bool r)/\W=W':=by
 obtain ⟨⟨_,c4,_⟩,_⟩:=h.cells;have H:=gh h;have HE:=gh e1;have hn:=h.tvn.1;have hc:=h.tvn.2;obtain ⟨tn,etn⟩:∃ tn,tv.n=tn:=⟨_,rfl⟩;obtain ⟨tc,etc⟩:∃ tc,tv.c=tc:=⟨_,rfl⟩;rw [etn,etc] at c4;rw [etn] at hn;rw [etn,etc] at hc;have HL:Hid (tn=ix.ts.length):=gh hn;have t1:tn<=100000:=by omega
 clear h e1 hn etn etc hN;go_enter Tryz.func111,Tryz.ntmps111;go_wp2_with (fail)
 go_loopw [3] (fun vi wr=>∃ k:Nat,vi=.int .i64 (k:Int)/\k<=tn/\wr=W/\Hid (∀ i q,i < k->ix.ts[i]? = some q->q.busy=false)) (fun vi _=>tn - (intOf vi).toNat)
 case atStart=>exact ⟨0,rfl,by omega,rfl,gh (fun _ _ e=>absurd e (by omega))⟩
 case round=>
  obtain ⟨k,rfl,hk,rfl,A⟩:=hrel
  by_cases hlt:k < tn
  ·obtain ⟨q,hq⟩:∃ q,ix.ts[k]? = some q:=⟨_,List.getElem?_eq_getElem (by rw [<- HL.o];exact hlt)⟩;obtain ⟨p,hp⟩:∃ p,pz[k]? = some p:=⟨_,List.getElem?_eq_getElem (by rw [H.o.pn,<- HL.o];exact hlt)⟩;have cj:=H.o.slot hp;have d1:=(H.o.th k q p hq hp).cells.1.2.1;have j1:(k:Int) < (tn:Int):=by omega
   have j2:k < tc:=by omega
   have j0:decide ((k:Int) < 0)=false:=by simp
   have j3:decide ((tn:Int)<=(k:Int))=false:=by simp;omega
   have HQ:=gh hq;obtain ⟨b,hbz⟩:∃ b,q.busy=b:=⟨_,rfl⟩;rw [hbz] at d1;have HB:=gh hbz;clear hq hp hbz;cases b with
   | true=>
    have HF:Hid (r=false):=gh (by
     rw [<- HE.o,Ixp.idleB,Bool.eq_false_iff];intro e
     have:=List.all_eq_true.1 e q (List.mem_of_getElem? HQ.o)
     rw [HB.o] at this;cases this)
    go_wp2;go_ret;exact ⟨by rw [HF.o];rfl,rfl⟩
   | false=>
    go_wp2;refine ⟨⟨k+1,by simp,by omega,by simp,gh (fun i q' hi hq'=>?_)⟩,by simp only [intOf];omega⟩
    by_cases hik:i=k
    ·subst hik;rw [HQ.o] at hq';cases hq';exact HB.o
    ·exact A.o i q' (by omega) hq'
  ·have j1:¬ ((k:Int) < (tn:Int)):=by omega
   have HF:Hid (r=true):=gh (by
    rw [<- HE.o,Ixp.idleB,List.all_eq_true];intro q hq;obtain ⟨i,hi,rfl⟩:=List.getElem_of_mem hq;rw [A.o i _ (by have:=HL.o;omega) (List.getElem?_eq_getElem hi)];rfl)
   go_wp2;go_ret;exact ⟨by rw [HF.o];rfl,rfl⟩
end
section
open Go.Shelf
attribute [local go_sem] Oper.semAt_some
theorem IxIs.memory {P:Nat->Prop} {W W':World} {n₀ x mb tb:Nat} {ix:Ixp} {mv mv':Value} {tv lv:Sl} {pz:List Pt} {m':Mst} (h:IxIs P W n₀ x ix mb mv tb tv lv pz) (t:Td (Foot mb mv) W W') (hm:DMem W' n₀ mb mv' m') (hok:m'.ok) (hft:∀ k,Foot mb mv' k->Foot mb mv k∨W.heap.size<=k) :
  IxIs P W' n₀ x { ix with m:=m' } mb mv' tb tv lv pz:=by
 have ne:∀ {y:Nat} {c:Array Value} {T:TypeId},W.heap[y]? = some (.cells c T)->T≠126->T≠2->¬ Foot mb mv y:=fun hy e1 e2=>foot_apart h.mem hy e1 e2;have get:∀ {i:Nat} {p1:Pt},pz[i]? = some p1->∃ q1,ix.ts[i]? = some q1:=fun h1=>by
  have:=(List.getElem?_eq_some_iff.1 h1).1
  rw [h.pn] at this;exact ⟨_,List.getElem?_eq_getElem this⟩
 have nw:∀ {i:Nat} {p:Pt},pz[i]? = some p->∀ g,p.tp.v.ownBlock=some g->¬ Foot mb mv g/\g < W.heap.size:=fun {i p} hp g eg=>by
  obtain ⟨q,hq⟩:=get hp;obtain ⟨c,hc⟩:=(h.th i q p hq hp).fr.types.2 g eg;refine ⟨?_,(Array.getElem?_eq_some_iff.1 hc).1⟩;rintro (e | e)
  ·have:=h.mem.box
   rw [<- e,hc] at this;simp at this
  ·exact h.da i p hp g eg e
 refine ⟨h.le,t.heap h.box (ne h.box (by decide) (by decide)),hm,hok,h.tva,h.tvn,?_,h.pn,fun i q p e1 e2=>?_,h.log.turned t (fun g e=>?_),h.dt,fun i p e1 g eg eg'=>?_,h.bz,fun k hk=>?_⟩
 ·obtain ⟨c,h1,h2⟩:=h.row;exact ⟨c,t.heap h1 (ne h1 (by decide) (by decide)),h2⟩
 ·have th:=h.th i q p e1 e2;refine ⟨th.le,t.heap th.box (ne th.box (by decide) (by decide)),?_⟩;rcases th.fr with hn | ⟨f,pp,h1,h2,F⟩
  ·exact .inl hn
  ·refine .inr ⟨f,pp,h1,h2,F.le,t.heap F.box (ne F.box (by decide) (by decide)),F.row.turnedO t (fun g e=>(nw e2 g e).1),F.lst.turned t (fun g e=>?_),F.good,F.i64⟩;obtain ⟨c,hc⟩:=F.lst.typed g e;exact ne hc (by decide) (by decide)
 ·obtain ⟨c,hc⟩:=h.log.typed g e;exact ne hc (by decide) (by decide)
 ·obtain ⟨n1,n2⟩:=nw e1 g eg;rcases hft g (.inr eg') with h1 | h1
  ·exact n1 h1
  ·omega
 ·obtain ⟨⟨c,T,hc,hT⟩,h2,h3⟩:=h.np k hk;have nf:¬ Foot mb mv k:=by
   rintro (e | e)
   ·have:=h.mem.box
    rw [<- e,hc] at this;simp at this;rw [this.2] at hT
    revert hT
    decide
   ·exact h2 e
  refine ⟨⟨c,T,t.heap hc nf,hT⟩,fun e=>?_,h3⟩;rcases hft k (.inr e) with h1 | h1
  ·exact nf h1
  ·have:=(Array.getElem?_eq_some_iff.1 hc).1
   omega
variable {S E:TypeId}
theorem wpListIn_append_pairs {F:Fence} {nF:Nat} {w:World} {ops:Array Oper} {rest:List Oper} {o:Oper} {a:Act} {Q:Exit->Act->World->Prop} (pt:PT S E) (hgd:o.guard=none) (s x:Operand) (ho:o.op=.call { callee:=.builtin .append,args:=#[s,x],argTypes:=#[S,S] })
  (base:Nat) (v:Value) (xs zs ys:List (Int × Int)) (hs:a.eval s=v) (hown:PRow w base E v xs) (aw:Option Addr) (M cw:Nat) (hM:zs.length=M) (hx:a.eval x=.slice aw M cw) (hr:PReads w aw zs) (h0:aw=none->cw=0)
  (hl:xs.length+zs.length<=1000000) (hbase:base<=w.heap.size) (hy:ys=xs++zs)
  (h:∀ v' w',PRow w' base E v' ys->w.grownBy w' v.ownBlock->(v'.ownBlock=v.ownBlock∨v'.ownBlock=some w.heap.size)->wpListIn F nF Tryz.prog ops Q rest (a.put o.dst v') w'):wpListIn F nF Tryz.prog ops Q (o :: rest) a w:=by
 obtain ⟨i0,hi,hz0,hz1,hz2⟩:=info_parts pt.info;have fin:∀ v' w',w'.ownsRow base E 2 v' (xs.length+zs.length) (flat xs++flat zs)->PRow w' base E v' ys:=fun v' w' h1=>by
  rw [hy];show World.ownsRow _ _ _ _ _ (xs++zs).length (flat (xs++zs));rw [List.length_append,flat_append];exact h1
 subst hM;cases aw with
 | none=>
  have e0:zs=[]:=by
   rcases hr with e | ⟨_,_,e,_⟩
   ·exact e
   ·cases e
  subst e0;obtain rfl:=h0 rfl;refine wpListIn_plain hgd fun K hK=>?_;have hrun:=run_append_owned_none (P:=Tryz.prog) (w:=w) base S o.type E i0 2 pt.under hi v xs.length (flat xs) hown;unfold Oper.wpIn;refine ⟨by simp [Oper.about,ho,resolve,Target.leads,Sem.run_pure],?_⟩;rw [Oper.semAt_plain F _ _ (by rw [ho];intro c hc';cases hc')];simp only [execOp,ho,resolve,invoke,builtin,Sem.run_bind,Sem.run_pure,Result.andThen_ok,List.map_toArray,List.map_cons,List.map_nil,hs,hx,List.length_nil,hrun];exact hK _ _ (h v w (by rw [hy,List.append_nil];exact hown) (World.grownBy.refl _ _) (.inl rfl))
 | some ad=>
  by_cases e0:zs=[]
  ·subst e0;exact wpListIn_append_own_at w hgd s x S ho base E i0 _ 2 16 pt.under hi hz0 hz1 hz2 rfl (by decide) v xs.length (flat xs) hs hown ad 0 cw [] hx rfl (by simp) (by simp) (by simp at hl;unfold maxLen;omega) (by simp at hl;omega) hbase (fun v' w' h1 h2 _ h4=>h v' w' (fin v' w' (by simpa [flat] using h1)) h2 h4)
  ·obtain ⟨bl,off,e,hrow⟩:∃ bl off,some ad=some ⟨bl,off,none⟩/\∀ j p,zs[j]? = some p->w.cell? ⟨bl,off+j * 2,none⟩=some (.int .i64 p.1)/\w.cell? ⟨bl,off+(j * 2+1),none⟩=some (.int .i64 p.2):=by
    rcases hr with e | h
    ·exact absurd e e0
    ·exact h
   cases e;refine wpListIn_append_own_at w hgd s x S ho base E i0 _ 2 16 pt.under hi hz0 hz1 hz2 rfl (by decide) v xs.length (flat xs) hs hown _ zs.length cw (flat zs) hx (flat_length zs) (PReads.news hrow) (flat_one _) (by unfold maxLen;omega) (by omega) hbase ?_;intro v' w' h1 h2 _ h4;exact h v' w' (fin v' w' h1) h2 h4
structure Lst (W:World) (a:Option Addr) (ps:List (Int × Int)) (M cap:Nat):Prop where
 reads:PReads W a ps
 len:ps.length=M
 fits:M<=cap
 top:cap<=maxLen
 most:M<=5000
 nil:a=none->cap=0
 ty:ps≠[]->∀ ad,a=some ad->∃ c,W.heap[ad.block]? = some (.cells c 59)
theorem Lst.turned {W W':World} {a:Option Addr} {ps:List (Int × Int)} {M cap:Nat} {R:Nat->Prop} (h:Lst W a ps M cap) (t:Td R W W') (hR:∀ k c,W.heap[k]? = some (.cells c 59)->¬ R k):Lst W' a ps M cap:=by
 by_cases e:ps=[]
 ·exact ⟨.inl e,h.len,h.fits,h.top,h.most,h.nil,fun h'=>absurd e h'⟩
 ·refine ⟨h.reads.turned t (fun k _ ⟨ad,e1,e2⟩=>?_),h.len,h.fits,h.top,h.most,h.nil,fun _ ad e1=>?_⟩
  ·obtain ⟨c,hc⟩:=h.ty e ad e1;rw [<- e2];exact hR _ c hc
  ·obtain ⟨c,hc⟩:=h.ty e ad e1;exact ⟨c,t.heap hc (hR _ c hc)⟩
theorem Lst.kept {W W':World} {a:Option Addr} {ps:List (Int × Int)} {M cap:Nat} (h:Lst W a ps M cap) (t:Kept W W'):Lst W' a ps M cap:=h.turned t (fun _ _ _ e=>e)
theorem Lst.foot {W W':World} {a:Option Addr} {ps:List (Int × Int)} {M cap:Nat} {n₀ mb:Nat} {mv:Value} {m:Mst} (h:Lst W a ps M cap) (hd:DMem W n₀ mb mv m) (t:Td (Foot mb mv) W W'):Lst W' a ps M cap:=h.turned t (fun _ _ hc=>foot_apart hd hc (by decide) (by decide))
theorem mine_foot {W W':World} {n₀ mb:Nat} {mv:Value} {m:Mst} (hd:DMem W n₀ mb mv m) (t:Td (Foot mb mv) W W'):Td (Mine NoP W n₀) W W':=t.mono (fun k _ e=>by
 obtain ⟨c,hc | hc⟩:=hd.types k e
 ·exact Mine.of (hd.lt k e).1 id hc (by decide)
 ·exact Mine.of (hd.lt k e).1 id hc (by decide))
set_option maxRecDepth 100000 in
set_option maxHeartbeats 4000000 in
theorem load_r (W:World) (n₀ x mb tb:Nat) (ix:Ixp) (mv:Value) (tv lv:Sl) (pz:List Pt) (h:IxIs NoP W n₀ x ix mb mv tb tv lv pz) (hn:n₀<=W.heap.size) (hN:ix.ts.length<=100000) (hlog:ix.logn<=800000) (a:Option Addr) (ps:List (Int × Int)) (M cap:Nat) (hl:Lst W a ps M cap) (hp:Fit.PF ps) (r:Int) (ix':Ixp) (he:ix.loadZ ps=(r,ix')) :
  Calls Tryz.prog 87 #[.pointer (some ⟨x,0,none⟩),.slice a M cap] W fun e W'=>e=.returned (.int .i64 r)/\(∃ mv' lv',IxIs NoP W' n₀ x ix' mb mv' tb tv lv' pz)/\Td (Mine NoP W n₀) W W':=by
 unfold Ixp.loadZ at he;obtain ⟨b1,hb1⟩:∃ b,ix.idleB=b:=⟨_,rfl⟩;rw [hb1] at he;have H:=gh h;have HB1:=gh hb1;have HN:=gh hn;have HT:=gh hN;have HL:=gh hl;have HP:=gh hp;have HLOG:=gh hlog;cases b1 with
 | false=>
  rw [if_pos rfl] at he;obtain ⟨rfl,rfl⟩:=Prod.mk.inj he;clear h hn hN hlog hl hp he hb1;go_enter Tryz.func87,Tryz.ntmps87;go_wp2_with (fail);refine (idle_r W n₀ x mb tb ix mv tv lv pz H.o HT.o false HB1.o).mono ?_;rintro e w' ⟨rfl,rfl⟩;go_wp2;go_ret;exact ⟨rfl,⟨mv,lv,H.o⟩,Td.refl _ _⟩
 | true=>
  rw [if_neg (by decide)] at he;obtain ⟨b2,hb2⟩:∃ b,ascB ps=b:=⟨_,rfl⟩;rw [hb2] at he;have HB2:=gh hb2;cases b2 with
  | false=>
   rw [if_pos rfl] at he;obtain ⟨rfl,rfl⟩:=Prod.mk.inj he;clear h hn hN hlog hl hp he hb1 hb2;go_enter Tryz.func87,Tryz.ntmps87;go_wp2_with (fail);refine (idle_r W n₀ x mb tb ix mv tv lv pz H.o HT.o true HB1.o).mono ?_;rintro e w' ⟨rfl,rfl⟩;go_wp2_with (fail);refine (asc_d W a ps M cap HL.o.reads HL.o.len HL.o.fits HL.o.most false HB2.o).mono ?_;rintro e W2 ⟨rfl,k2⟩;have K2:=gh k2;clear k2;go_wp2;go_ret;exact ⟨rfl,⟨mv,lv,H.o.kept K2.o⟩,K2.o.mono (fun _ _ e=>e.elim)⟩
  | true=>
   rw [if_neg (by decide)] at he;obtain ⟨L,hL⟩:∃ L,leavesL ix.m=L:=⟨_,rfl⟩;rw [hL] at he;have HLV:=gh hL;obtain ⟨n,hnL⟩:∃ n,L.length=n:=⟨_,rfl⟩;rw [hnL] at he;have HNL:=gh hnL;have d1:∀ V:World,Kept W V->V.cell? ⟨x,3,none⟩=some (.pointer (some ⟨mb,0,none⟩)):=fun _ k=>(H.o.kept k).cells.1.1
   by_cases h0:0 < n
   ·rw [if_pos h0] at he;obtain ⟨rfl,rfl⟩:=Prod.mk.inj he;have i0:(0:Int) < (n:Int):=by omega
    have D1:=gh d1;clear h hn hN hlog hl hp he hb1 hb2 hL hnL h0 d1;go_enter Tryz.func87,Tryz.ntmps87;go_wp2_with (fail);refine (idle_r W n₀ x mb tb ix mv tv lv pz H.o HT.o true HB1.o).mono ?_;rintro e w' ⟨rfl,rfl⟩;go_wp2_with (fail);refine (asc_d W a ps M cap HL.o.reads HL.o.len HL.o.fits HL.o.most true HB2.o).mono ?_;rintro e W2 ⟨rfl,k2⟩;have K2:=gh k2;have e1:=D1.o _ K2.o;clear k2;go_wp2_with (fail);refine (leaves_d W2 mb ix.m ⟨n₀,mv,ix.m,rfl,(H.o.kept K2.o).mem⟩ H.o.mok L HLV.o).mono ?_;rintro e W3 ⟨v3,rfl,hr3,k3⟩;obtain ⟨a3,c3,hv3,_⟩:=hr3.reads;rw [HNL.o] at hv3;subst hv3;have K3:=gh (K2.o.trans k3);clear hr3 k3 e1;go_wp2;go_ret;exact ⟨rfl,⟨mv,lv,H.o.kept K3.o⟩,K3.o.mono (fun _ _ e=>e.elim)⟩
   ·rw [if_neg h0] at he;have i0:¬ ((0:Int) < (n:Int)):=by omega
    obtain ⟨z,q,m1,hz⟩:∃ z q m1,buildS ix.m ps=((z,q),m1):=⟨_,_,_,rfl⟩;have hbk:=buildS_ok h.mok h.mem.top hp (by have:=hl.len;have:=hl.most;omega);rw [hz] at he hbk;dsimp only at he hbk;have HZ:=gh hz;have HBK:=gh hbk;have D1:=gh d1;have HA:Hid (∀ V,Kept W V->ps≠[]->∀ ad,a=some ad->¬ Foot mb mv ad.block):=gh (fun V k e ad e1=>by
     obtain ⟨c,hc⟩:=hl.ty e ad e1;exact foot_apart h.mem hc (by decide) (by decide))
    clear h hn hN hlog hl hp hb1 hb2 hL hnL h0 d1 hz hbk;cases q with
    | false=>
     rw [if_pos rfl] at he;obtain ⟨rfl,rfl⟩:=Prod.mk.inj he;clear he;go_enter Tryz.func87,Tryz.ntmps87;go_wp2_with (fail);refine (idle_r W n₀ x mb tb ix mv tv lv pz H.o HT.o true HB1.o).mono ?_;rintro e w' ⟨rfl,rfl⟩;go_wp2_with (fail);refine (asc_d W a ps M cap HL.o.reads HL.o.len HL.o.fits HL.o.most true HB2.o).mono ?_;rintro e W2 ⟨rfl,k2⟩;have K2:=gh k2;have e1:=D1.o _ K2.o;clear k2;go_wp2_with (fail);refine (leaves_d W2 mb ix.m ⟨n₀,mv,ix.m,rfl,(H.o.kept K2.o).mem⟩ H.o.mok L HLV.o).mono ?_;rintro e W3 ⟨v3,rfl,hr3,k3⟩;obtain ⟨a3,c3,hv3,_⟩:=hr3.reads;rw [HNL.o] at hv3;subst hv3;have K3:=gh (K2.o.trans k3);have e2:=D1.o _ K3.o;clear hr3 k3 e1;go_wp2_with (fail);refine (buildA_d W3 n₀ mb mv ix.m a ps M cap (H.o.kept K3.o).mem (Nat.le_trans HN.o K3.o.size) (HL.o.kept K3.o).reads HL.o.len HL.o.fits HL.o.top HL.o.most (HA.o W3 K3.o) z false m1 HZ.o).mono ?_;rintro e W4 ⟨rfl,mv4,m4,t4,f4⟩;have I4:=gh ((H.o.kept K3.o).memory t4 m4 HBK.o.1.1 f4);have T4:Hid (Td (Mine NoP W n₀) W W4):=gh (Td.mine_kept K3.o (mine_foot (H.o.kept K3.o).mem t4));clear m4 t4 f4 e2;go_wp2;go_ret;exact ⟨rfl,⟨mv4,lv,I4.o⟩,T4.o⟩
    | true=>
     rw [if_neg (by decide)] at he;obtain ⟨rfl,rfl⟩:=Prod.mk.inj he;clear he;go_enter Tryz.func87,Tryz.ntmps87;go_wp2_with (fail);refine (idle_r W n₀ x mb tb ix mv tv lv pz H.o HT.o true HB1.o).mono ?_;rintro e w' ⟨rfl,rfl⟩;go_wp2_with (fail);refine (asc_d W a ps M cap HL.o.reads HL.o.len HL.o.fits HL.o.most true HB2.o).mono ?_;rintro e W2 ⟨rfl,k2⟩;have K2:=gh k2;have e1:=D1.o _ K2.o;clear k2;go_wp2_with (fail);refine (leaves_d W2 mb ix.m ⟨n₀,mv,ix.m,rfl,(H.o.kept K2.o).mem⟩ H.o.mok L HLV.o).mono ?_;rintro e W3 ⟨v3,rfl,hr3,k3⟩;obtain ⟨a3,c3,hv3,_⟩:=hr3.reads;rw [HNL.o] at hv3;subst hv3;have K3:=gh (K2.o.trans k3);have e2:=D1.o _ K3.o;clear hr3 k3 e1;go_wp2_with (fail);refine (buildA_d W3 n₀ mb mv ix.m a ps M cap (H.o.kept K3.o).mem (Nat.le_trans HN.o K3.o.size) (HL.o.kept K3.o).reads HL.o.len HL.o.fits HL.o.top HL.o.most (HA.o W3 K3.o) z true m1 HZ.o).mono ?_;rintro e W4 ⟨rfl,mv4,m4,t4,f4⟩;have I4:=gh ((H.o.kept K3.o).memory t4 m4 HBK.o.1.1 f4);have T4:Hid (Td (Mine NoP W n₀) W W4):=gh (Td.mine_kept K3.o (mine_foot (H.o.kept K3.o).mem t4));have L4:Hid (Lst W4 a ps M cap):=gh ((HL.o.kept K3.o).foot (H.o.kept K3.o).mem t4);have e3:=I4.o.cells.1.1;clear m4 t4 f4 e2;go_wp2_with (fail);refine (write_d W4 n₀ mb mv4 m1 6 z I4.o.mem).mono ?_;rintro e W5 ⟨rfl,m5,t5⟩;have I5:=gh (I4.o.memory t5 m5 (Mst.write_ok HBK.o.1.1 6 HBK.o.2) (fun _ e=>.inl e));have T5:Hid (Td (Mine NoP W n₀) W W5):=gh (T4.o.mine_trans (mine_foot I4.o.mem t5));have L5:Hid (Lst W5 a ps M cap):=gh (L4.o.foot I4.o.mem t5);clear m5 t5 e3 I4 T4 L4 HA D1 HL;obtain ⟨V8,hV8⟩:∃ V8,W5.drew=V8:=⟨_,rfl⟩;have k8:Kept W5 V8:=by rw [<- hV8];exact Kept.drew _
     have I8:=gh (I5.o.kept k8);have L8:=gh (L5.o.kept k8);have T8:Hid (Td (Mine NoP W n₀) W V8):=gh (T5.o.trans k8 (fun _ e=>e) (fun _ _ e=>e.elim));have HV8:=gh hV8;obtain ⟨⟨_,_,e5,_,e7⟩,_⟩:=I8.o.cells;have ne:∀ {y:Nat} {c:Array Value} {T:TypeId},V8.heap[y]? = some (.cells c T)->T≠145->¬ lv.v.ownBlock=some y:=fun hy e1 e2=>by
      obtain ⟨c',hc⟩:=I8.o.log.typed _ e2;rw [hy] at hc;simp at hc;exact e1 hc.2
     have z5:∀ u:Wd (fun U=>Td (fun k=>lv.v.ownBlock=some k) V8 U),u.w.cell? ⟨x,5,none⟩=some (.slice lv.a lv.n lv.c):=fun u=>u.ok.cell e5 (ne I8.o.box (by decide));have z7:∀ u:Wd (fun U=>Td (fun k=>lv.v.ownBlock=some k) V8 U),u.w.cell? ⟨x,7,none⟩=some (.int .i64 ix.picks):=fun u=>u.ok.cell e7 (ne I8.o.box (by decide));have NX:=gh (ne I8.o.box (by decide));clear I5 L5 T5 hV8 k8 e5 e7 ne;go_wp2_with (fail);refine region_last [0,1,2,3,4,6,9,10,11,12,5,7,8,13,14,15,16,17] 18 (fun U=>Td (fun k=>lv.v.ownBlock=some k) V8 U) (by kernel_rfl) (by kernel_rfl) (by rw [HV8.o];exact Td.refl _ _) (fun _=>?_);rw [HV8.o]
     repeat (refine lq rfl rfl ?_;go_big_quiet_step (fail);refine wpQuiet_nil ?_)
     refine ll rfl rfl ?_;gi_wp2;refine ⟨Wd.mem (Td.alloc _ _ _),?_⟩;refine ll rfl rfl ?_;gi_wp2_with (gi_at_builtin;refine Stop.out ?_);refine ⟨?_⟩;have kE:Kept V8 (V8.alloc (.cells #[] 59)):=Td.alloc _ _ _;refine wpListIn_append_pairs ptP rfl _ _ rfl V8.heap.size _ [] ps ps rfl (⟨rfl,.inr ⟨V8.heap.size,0,#[],rfl,Nat.le_refl _,heap_new V8 _,Nat.le_refl _,Nat.zero_le _,rfl,rfl⟩⟩:PRow _ V8.heap.size 59 (.slice (some ⟨V8.heap.size,0,none⟩) 0 0) []) a M cap L8.o.len rfl (L8.o.kept kE).reads L8.o.nil (by have:=L8.o.len;have:=L8.o.most;simp;omega) kE.size rfl ?_;rintro vp A1 hrow hgrow -
     have KA:Hid (Kept V8 A1):=gh (kE.own (fun i e=>e) (Td.of_grownBy (R:=fun k=>V8.heap.size<=k) hgrow (fun k e=>by cases e;exact Nat.le_refl _)));obtain ⟨ap,cp,rfl,_⟩:=hrow.reads;clear hrow hgrow kE;gi_wp2;refine ⟨Wd.mem (KA.o.mono (fun _ _ e=>e.elim)),?_⟩;simp only [Act.put,List.setIfInBounds_toArray,List.set_cons_succ,List.set_cons_zero]
     repeat (refine lq rfl rfl ?_;go_big_quiet_step (fail);refine wpQuiet_nil ?_)
     refine ll rfl rfl ?_;gi_wp2;refine ⟨Wd.mem ((KA.o.alloc _).mono (fun _ _ e=>e.elim)),?_⟩;refine ll rfl rfl ?_;gi_wp2_with (gi_at_builtin;refine Stop.out ?_);refine ⟨?_⟩;refine wpListIn_append_ev rfl _ _ rfl n₀ lv.v ix.logn rfl (I8.o.log.turned (KA.o.alloc _) (fun _ _ e=>e)) A1.heap.size _ rfl (heap_new _ _) rfl (by simp [Value.oneCell']) (by have:=HLOG.o;omega) (by have:=T8.o.size;have:=KA.o.size;have:=HN.o;simp;omega) ?_;rintro v9 A2 hlog9 ⟨la9,lc9,rfl⟩ hgrow hat;have TA:Hid (Td (fun k=>lv.v.ownBlock=some k) V8 A2):=gh ((KA.o.alloc _).then (Td.of_grownBy (R:=fun k=>lv.v.ownBlock=some k) hgrow (fun _ h=>h)));have bxA:=TA.o.heap I8.o.box NX.o;have cA:A2.cell? ⟨x,5,none⟩=some (.slice lv.a lv.n lv.c):=by simp [World.cell?,bxA,Ixp.cs]
     have gA:A2.frozen? ⟨x,5,none⟩=false:=by simp [World.frozen?,bxA]
     obtain ⟨A3,hA3⟩:∃ A3,A2.setCell ⟨x,5,none⟩ (.slice la9 (ix.logn+1) lc9)=A3:=⟨_,rfl⟩;have tA3:Td (fun k=>k=x) A2 A3:=by rw [<- hA3];exact Td.setCell (R:=fun k=>k=x) _ _ _ rfl
     have TX:Td (fun k=>k=x∨lv.v.ownBlock=some k) V8 A3:=TA.o.trans tA3 (fun _ e=>.inr e) (fun _ _ e=>.inl e);have IXE:Hid (IxIs NoP A3 n₀ x { ix with m:=m1.write 6 z,logn:=ix.logn+1 } mb mv4 tb tv ⟨la9,ix.logn+1,lc9⟩ pz):=gh (by
      refine I8.o.boxed (ix':={ ix with m:=m1.write 6 z,logn:=ix.logn+1 }) TX ?_ rfl rfl (hlog9.turned tA3 (fun g e e'=>?_))
      ·rw [<- hA3];simp [World.setCell,Array.getElem?_modify,bxA,Ixp.cs]
      ·obtain ⟨c,hc⟩:=hlog9.typed g e;rw [e',bxA] at hc;simp at hc)
     have TE:Hid (Td (Mine NoP W n₀) W A3):=gh (T8.o.mine_trans (TX.mono (fun k _ e=>by
      rcases e with e | e
      ·rw [e];exact I8.o.mines.box
      ·exact I8.o.mines.log k e)))
     have HA3:=gh hA3;clear hlog9 hgrow hat hA3 tA3 bxA TX;gi_wp2;refine ⟨Wd.mem TA.o,?_⟩;simp only [Act.put,List.setIfInBounds_toArray,List.set_cons_succ,List.set_cons_zero]
     repeat (refine lq rfl rfl ?_;go_big_quiet_step (fail);refine wpQuiet_nil ?_)
     refine lz rfl ?_;gi_wp2;refine last_done ?_;rw [HA3.o];clear z5 z7 cA gA;go_wp2;go_ret;exact ⟨rfl,⟨_,_,IXE.o⟩,TE.o⟩
end
namespace Mp
variable {α β:Type}
def ltI:Int->Int->Bool:=fun a b=>decide (a < b)
variable (lt:α->α->Bool)
def put:List (α × β)->α->β->List (α × β)
 | [],k,v=>[(k,v)]
 | x :: l,k,v=>if lt k x.1 then (k,v) :: x :: l else if lt x.1 k then x :: put l k v else (k,v) :: l
def get:List (α × β)->α->Option β
 | [],_=>none
 | x :: l,k=>if lt k x.1 then none else if lt x.1 k then get l k else some x.2
variable {lt}
theorem mem_put {xs:List (α × β)} {k:α} {v:β} {y:α × β} (h:y ∈ put lt xs k v):y=(k,v)∨y ∈ xs:=by
 induction xs with
 | nil=>simpa [put] using h
 | cons x xs ih=>
  unfold put at h
  split at h
  ·simpa using h
  ·split at h
   ·rcases List.mem_cons.1 h with rfl | h
    ·exact .inr (List.mem_cons_self ..)
    ·exact (ih h).imp id (List.mem_cons_of_mem _)
   ·rcases List.mem_cons.1 h with rfl | h
    ·exact .inl rfl
    ·exact .inr (List.mem_cons_of_mem _ h)
theorem length_put_le {xs:List (α × β)} {k:α} {v:β}:(put lt xs k v).length<=xs.length+1:=by
 induction xs with
 | nil=>simp [put]
 | cons x xs ih=>
  unfold put
  split
  ·simp
  ·split
   ·simp only [List.length_cons];omega
   ·simp
end Mp
namespace Mp
variable {β:Type}
theorem ltI_true {a b:Int}:ltI a b=true↔a < b:=by simp [ltI]
end Mp
namespace Mp
def place (xs:List (Int × Int)) (k:Int):Nat:=(xs.takeWhile fun p=>decide (p.1 < k)).length
theorem place_nil (k:Int):place [] k=0:=rfl
theorem place_cons (x:Int × Int) (xs:List (Int × Int)) (k:Int):place (x :: xs) k=if x.1 < k then place xs k+1 else 0:=by
 unfold place
 by_cases h:x.1 < k <;> simp [h]
theorem place_le:(xs:List (Int × Int))->(k:Int)->place xs k<=xs.length
 | [],_=>Nat.le_refl _
 | x :: xs,k=>by
  have:=place_le xs k
  rw [place_cons];simp only [List.length_cons]
  split <;> omega
theorem place_below:{xs:List (Int × Int)}->{k:Int}->{j:Nat}->{p:Int × Int}->j < place xs k->xs[j]? = some p->p.1 < k
 | [],_,_,_,h,_=>by simp [place_nil] at h
 | x :: xs,k,j,p,h,hp=>by
  rw [place_cons] at h
  split at h
  ·rename_i hx;cases j with
   | zero=>
    obtain rfl:x=p:=by simpa using hp
    exact hx
   | succ j=>exact place_below (xs:=xs) (j:=j) (by omega) (by simpa using hp)
  ·omega
theorem place_stop:{xs:List (Int × Int)}->{k:Int}->{p:Int × Int}->xs[place xs k]? = some p->k<=p.1
 | [],_,_,h=>by simp at h
 | x :: xs,k,p,h=>by
  rw [place_cons] at h
  split at h
  ·exact place_stop (xs:=xs) (by simpa using h)
  ·obtain rfl:x=p:=by simpa using h
   omega
def hit (xs:List (Int × Int)) (k:Int):Bool:=match xs[place xs k]? with | some p=>p.1 == k | none=>false
theorem get_place:(xs:List (Int × Int))->(k:Int)->get ltI xs k=if hit xs k then (xs[place xs k]?).map Prod.snd else none
 | [],k=>by simp [get,hit]
 | x :: xs,k=>by
  have ih:=get_place xs k;unfold get
  by_cases h1:k < x.1
  ·have e:hit (x :: xs) k=false:=by
    have:place (x :: xs) k=0:=by rw [place_cons,if_neg (by omega)]
    simp only [hit,this,List.getElem?_cons_zero,beq_eq_false_iff_ne,ne_eq];omega
   rw [if_pos (ltI_true.2 h1),e];rfl
  ·rw [if_neg (by rw [ltI_true];exact h1)]
   by_cases h2:x.1 < k
   ·have:place (x :: xs) k=place xs k+1:=by rw [place_cons,if_pos h2]
    have e:hit (x :: xs) k=hit xs k:=by simp only [hit,this,List.getElem?_cons_succ]
    rw [if_pos (ltI_true.2 h2),ih,e,this,List.getElem?_cons_succ]
   ·have:place (x :: xs) k=0:=by rw [place_cons,if_neg h2]
    have e:x.1=k:=by omega
    rw [if_neg (by rw [ltI_true];exact h2)];simp [hit,this,e]
theorem put_place:(xs:List (Int × Int))->(k v:Int)->put ltI xs k v=xs.take (place xs k)++(k,v) :: xs.drop (if hit xs k then place xs k+1 else place xs k)
 | [],k,v=>by simp [put,place_nil]
 | x :: xs,k,v=>by
  have ih:=put_place xs k v;unfold put
  by_cases h1:k < x.1
  ·have hp:place (x :: xs) k=0:=by rw [place_cons,if_neg (by omega)]
   have e:hit (x :: xs) k=false:=by
    simp only [hit,hp,List.getElem?_cons_zero,beq_eq_false_iff_ne,ne_eq];omega
   rw [if_pos (ltI_true.2 h1),e,hp];rfl
  ·rw [if_neg (by rw [ltI_true];exact h1)]
   by_cases h2:x.1 < k
   ·have hp:place (x :: xs) k=place xs k+1:=by rw [place_cons,if_pos h2]
    have e:hit (x :: xs) k=hit xs k:=by simp only [hit,hp,List.getElem?_cons_succ]
    rw [if_pos (ltI_true.2 h2),ih,e,hp];cases hit xs k <;> simp
   ·have hp:place (x :: xs) k=0:=by rw [place_cons,if_neg h2]
    have e:hit (x :: xs) k=true:=by
     simp only [hit,hp,List.getElem?_cons_zero,beq_iff_eq];omega
    rw [if_neg (by rw [ltI_true];exact h2),e,hp];simp
end Mp
namespace Mp
def PReads (w:World) (a:Option Addr) (xs:List (Int × Int)):Prop:=
 xs=[]∨∃ bl,a=some ⟨bl,0,none⟩/\∀ j p,xs[j]? = some p->w.cell? ⟨bl,j * 2,none⟩=some (.int .i64 p.1)/\w.cell? ⟨bl,j * 2+1,none⟩=some (.int .i64 p.2)
theorem PReads.turned {w w':World} {a:Option Addr} {xs:List (Int × Int)} (h:PReads w a xs) {R:Nat->Prop} (ht:Td R w w') (hR:∀ k,(Value.slice a 0 0).ownBlock=some k->¬ R k):PReads w' a xs:=by
 rcases h with h | ⟨bl,rfl,h⟩
 ·exact .inl h
 ·refine .inr ⟨bl,rfl,fun j p hp=>?_⟩;have hn:=hR bl rfl;exact ⟨ht.cell (h j p hp).1 hn,ht.cell (h j p hp).2 hn⟩
theorem PReads.kept {w w':World} {a:Option Addr} {xs:List (Int × Int)} (h:PReads w a xs) (ht:Kept w w'):PReads w' a xs:=h.turned ht (fun _ _ e=>e)
theorem PReads.at {w:World} {a:Option Addr} {xs:List (Int × Int)} (h:PReads w a xs) {j:Nat} {p:Int × Int} (hp:xs[j]? = some p):∃ bl,a=some ⟨bl,0,none⟩/\bl < w.heap.size/\w.cell? ⟨bl,j * 2,none⟩=some (.int .i64 p.1)/\w.cell? ⟨bl,j * 2+1,none⟩=some (.int .i64 p.2):=by
 rcases h with h | ⟨bl,ha,hc⟩
 ·rw [h] at hp;simp at hp
 ·exact ⟨bl,ha,World.block_lt_of_cell? _ _ (hc j p hp).1,hc j p hp⟩
theorem preads_of_row {w:World} {n₀:Nat} {v:Value} {xs:List (Int × Int)} (h:w.ownsRow n₀ 59 2 v xs.length (flat xs)):∃ a cap,v=.slice a xs.length cap/\PReads w a xs/\xs.length<=cap:=by
 rcases h.2 with ⟨rfl,h0⟩ | ⟨g,cap,cur,rfl,_,_,hc,_⟩
 ·obtain rfl:=List.length_eq_zero_iff.1 h0;exact ⟨none,0,rfl,.inl rfl,Nat.le_refl _⟩
 ·refine ⟨_,cap,rfl,.inr ⟨g,rfl,fun j p hp=>?_⟩,hc⟩;have hj:=(List.getElem?_eq_some_iff.1 hp).1;rw [h.cellAt (j * 2) (by omega),h.cellAt (j * 2+1) (by omega)];exact flat_at hp
theorem info47:(Tryz.prog.info? 59).map (fun i=>(i.zero,i.size,i.bytes))=some (some (.agg #[.int .i64 0,.int .i64 0]),2,16):=by kernel_rfl
theorem kept_append {w wr w1:World} {v:Value} {xs:List (Int × Int)} {tmp:Obj} (k:Kept w wr) (hr:wr.ownsRow w.heap.size 59 2 v xs.length (flat xs)) (hg:(wr.alloc tmp).grownBy w1 v.ownBlock):Kept w w1:=
 Td.trans (k.trans (Td.alloc _ _ tmp)) (Td.of_grownBy (R:=fun j=>v.ownBlock=some j) hg (fun _ h=>h)) (fun _ h=>h) (fun i hi h=>by have:=(hr.lt i h).1;omega)
theorem kept_append0 {w wr w1:World} {v:Value} {xs:List (Int × Int)} (k:Kept w wr) (hr:wr.ownsRow w.heap.size 59 2 v xs.length (flat xs)) (hg:wr.grownBy w1 v.ownBlock):Kept w w1:=
 Td.trans k (Td.of_grownBy (R:=fun j=>v.ownBlock=some j) hg (fun _ h=>h)) (fun _ h=>h) (fun i hi h=>by have:=(hr.lt i h).1;omega)
theorem two_newR (w:World) (x y:Int):∀ (j:Nat) (u:Value),[Value.int .i64 x,.int .i64 y][j]? = some u->(w.alloc (.cells #[.int .i64 x,.int .i64 y] 59)).cell? ((⟨w.heap.size,0,none⟩:Addr).add j)=some u:=by
 intro j u h;have hb:(w.alloc (.cells #[.int .i64 x,.int .i64 y] 59)).heap[w.heap.size]? = some (.cells #[.int .i64 x,.int .i64 y] 59):=heap_new w _;have c:∀ i,(w.alloc (.cells #[.int .i64 x,.int .i64 y] 59)).cell? ⟨w.heap.size,i,none⟩=#[Value.int .i64 x,.int .i64 y][i]?:=fun i=>by
  unfold World.cell?;rw [hb];rfl
 rcases j with _ | _ | j
 ·simp at h;subst h;exact c 0
 ·simp at h;subst h;exact c 1
 ·simp at h
def PSliced (xs:List (Int × Int)) (w:World) (e:Ending) (w':World):Prop:=∃ v,e=.returned v/\w'.ownsRow w.heap.size 59 2 v xs.length (flat xs)/\Kept w w'
theorem wpList_append_none {P:Program} {w:World} {ops:Array Oper} {rest:List Oper} {o:Oper} {a:Act} {Q:Exit->Act->World->Prop} (hgd:o.guard=none) (s x:Operand) (t:TypeId)
  (ho:o.op=.call { callee:=.builtin .append,args:=#[s,x],argTypes:=#[t,t] })
  (base:Nat) (e:TypeId) (i:TypeInfo) (size:Nat) (ht:P.underlying t=some (.slice e)) (hi:P.info? e=some i)
  (v:Value) (n:Nat) (xs:List Value) (hs:a.eval s=v) (hown:w.ownsRow base e size v n xs) (hx:a.eval x=.slice none 0 0)
  (h:wpList P ops Q rest (a.put o.dst v) w):wpList P ops Q (o :: rest) a w:=by
 refine wpList_plain hgd fun K hK=>?_;have hr:=run_append_owned_none (P:=P) (w:=w) base t o.type e i size ht hi v n xs hown;unfold Oper.wp execOp;simp only [ho,resolve,invoke,builtin,Sem.run_bind,Sem.run_pure,Result.andThen_ok,List.map_toArray,List.map_cons,List.map_nil,hs,hx,hr];exact hK _ _ h
theorem prow_new (w:World):(w.alloc (.cells #[] 59)).ownsRow w.heap.size 59 2 (.slice (some ⟨w.heap.size,0,none⟩) 0 0) ([]:List (Int × Int)).length (flat []):=
 ⟨rfl,.inr ⟨w.heap.size,0,#[],rfl,Nat.le_refl _,heap_new w _,Nat.le_refl _,Nat.zero_le _,rfl,rfl⟩⟩
theorem src_cells {w w':World} {n₀ g cap:Nat} {xs:List (Int × Int)} (h:w.ownsRow n₀ 59 2 (.slice (some ⟨g,0,none⟩) xs.length cap) xs.length (flat xs)) (k:Kept w w') (q m:Nat) :
  ∀ (j:Nat) (u:Value),(flat ((xs.drop q).take m))[j]? = some u->w'.cell? ((⟨g,q * 2,none⟩:Addr).add j)=some u:=by
 intro j u hu;have hq:q<=xs.length:=by
  by_cases hq:q<=xs.length
  ·exact hq
  ·rw [List.drop_eq_nil_of_le (by omega)] at hu;simp [flat] at hu
 have e:flat xs=flat (xs.take q)++(flat ((xs.drop q).take m)++flat ((xs.drop q).drop m)):=by
  rw [<- flat_append,List.take_append_drop,<- flat_append,List.take_append_drop]
 have hj:=(List.getElem?_eq_some_iff.1 hu).1;have l1:(flat (xs.take q)).length=q * 2:=by rw [flat_length,List.length_take];congr 1;omega
 have hx:(flat xs)[q * 2+j]? = some u:=by
  rw [e,List.getElem?_append_right (by omega),l1,Nat.add_sub_cancel_left,List.getElem?_append_left hj];exact hu
 have hlt:q * 2+j < xs.length * 2:=by
  have:=(List.getElem?_eq_some_iff.1 hx).1
  rwa [flat_length] at this
 have hc:=h.cellAt (q * 2+j) hlt;rw [hx] at hc;rw [Go.WideShapes.add_plain];exact k.cell hc id
set_option maxRecDepth 100000 in
theorem place_c (w:World) (a:Option Addr) (xs:List (Int × Int)) (cap:Nat) (k:Int) (hr:PReads w a xs) (hc:xs.length<=cap) (hl:xs.length<=5000) :
  Calls Tryz.prog 143 #[.slice a xs.length cap,.int .i64 k] w fun e w'=>e=.returned (.int .i64 (place xs k:Int))/\w=w':=by
 have HR:=gh hr;have hpl:=place_le xs k;clear hr;go_enter Tryz.func143,Tryz.ntmps143;go_wp2
 go_loopw [5] (fun i wr=>∃ n:Nat,n<=place xs k/\i=.int .i64 n/\w=wr) (fun i _=>xs.length - (intOf i).toNat)
 case atStart=>exact ⟨0,Nat.zero_le _,rfl,rfl⟩
 case round=>
  obtain ⟨n,hn,rfl,rfl⟩:=hrel
  by_cases hlt:n < xs.length
  ·obtain ⟨⟨x,xv⟩,hp⟩:∃ p,xs[n]? = some p:=⟨_,List.getElem?_eq_getElem hlt⟩;obtain ⟨bl,rfl,_,g1,_⟩:=HR.o.at hp;simp only at g1;have i3:n < cap:=by omega
   by_cases hnp:n < place xs k
   ·have hx:x < k:=place_below hnp hp;clear hp;go_wp2;exact ⟨⟨n+1,by omega,by simp,trivial⟩,by simp [intOf];omega⟩
   ·have e:n=place xs k:=by omega
    have hx:k<=x:=by
     rw [e] at hp;exact place_stop hp
    have E:=gh e;clear hp e hnp;go_wp2;go_ret;exact ⟨by rw [<- E.o];rfl,rfl⟩
  ·have E:Hid (n=place xs k):=gh (by omega);go_wp2;go_ret;exact ⟨by rw [<- E.o];rfl,rfl⟩
theorem hit_true {xs:List (Int × Int)} {k:Int} (h:hit xs k=true):∃ v,xs[place xs k]? = some (k,v)/\place xs k < xs.length:=by
 unfold hit at h;cases hp:xs[place xs k]? with
 | none=>simp [hp] at h
 | some p=>
  simp [hp] at h;exact ⟨p.2,by rw [<- h],(List.getElem?_eq_some_iff.1 hp).1⟩
theorem hit_false {xs:List (Int × Int)} {k:Int} (h:hit xs k=false):xs.length=place xs k∨∃ x v,xs[place xs k]? = some (x,v)/\place xs k < xs.length/\x≠k:=by
 have hl:=place_le xs k;cases hp:xs[place xs k]? with
 | none=>
  rw [List.getElem?_eq_none_iff] at hp;exact .inl (by omega)
 | some p=>
  unfold hit at h;simp [hp] at h;exact .inr ⟨p.1,p.2,rfl,(List.getElem?_eq_some_iff.1 hp).1,h⟩
theorem preads_of_own {w:World} {n₀ g cap:Nat} {xs:List (Int × Int)} (h:w.ownsRow n₀ 59 2 (.slice (some ⟨g,0,none⟩) xs.length cap) xs.length (flat xs)):PReads w (some ⟨g,0,none⟩) xs:=by
 obtain ⟨a,c,e,hp,_⟩:=preads_of_row h;cases e;exact hp
set_option maxRecDepth 100000 in
set_option maxHeartbeats 1000000 in
theorem refPut_c (w:World) (n₀:Nat) (v:Value) (xs:List (Int × Int)) (k u:Int) (hv:w.ownsRow n₀ 59 2 v xs.length (flat xs)) (hl:xs.length<=5000) :
  Calls Tryz.prog 115 #[v,.int .i64 k,.int .i64 u] w (PSliced (put ltI xs k u) w):=by
 obtain ⟨y0,hi',hz0,hz1,hz2⟩:=info_parts info47;have hpp:=put_place xs k u;have r0:=prow_new w;rcases hv.2 with ⟨rfl,h0⟩ | ⟨g,cap,cur,rfl,hg0,_,hcap,hmx,_⟩
 ·obtain rfl:=List.length_eq_zero_iff.1 h0;have HP:Hid (Calls Tryz.prog 143 #[.slice none 0 0,.int .i64 k] w fun e w'=>e=.returned (.int .i64 0)/\w=w'):=gh (place_c w none [] 0 k (.inl rfl) (Nat.le_refl _) (by simp));clear hv hpp h0;go_enter Tryz.func115,Tryz.ntmps115;go_wp2_with (fail);refine HP.o.mono ?_;rintro e w' ⟨rfl,rfl⟩;go_wp2_with (at_builtin;refine Stop.out ?_);refine ⟨?_⟩;refine wpList_append_none rfl _ _ 44 rfl w.heap.size 59 y0 2 Tryz.underlying44 hi' _ _ _ rfl r0 rfl ?_;go_wp2_with (at_builtin;refine Stop.out ?_);refine ⟨?_⟩;refine wpList_append_own_at _ rfl _ _ 44 rfl w.heap.size 59 y0 (.agg #[.int .i64 0,.int .i64 0]) 2 16 Tryz.underlying44 hi' hz0 hz1 hz2 rfl (by decide) _ _ _ rfl (r0.alloc (.cells #[.int .i64 k,.int .i64 u] 59)) ⟨w.heap.size+1,0,none⟩ 1 1 [.int .i64 k,.int .i64 u] rfl rfl (by have:=two_newR (w.alloc (.cells #[] 59)) k u;rwa [World.size_alloc] at this) (by simp [Value.oneCell']) (by decide) (by decide) (by rw [World.size_alloc,World.size_alloc];omega) ?_;intro v2 w2 hown2 hg2 hni _;clear hni;have K2:=gh (kept_append (xs:=[]) (show Kept w (w.alloc (.cells #[] 59)) from Td.alloc _ _ _) r0 hg2);clear hg2 r0;go_wp2_with (at_builtin;refine Stop.out ?_);refine ⟨?_⟩;refine wpList_append_none rfl _ _ 44 rfl w.heap.size 59 y0 2 Tryz.underlying44 hi' _ _ _ rfl hown2 rfl ?_;go_wp2;go_ret;exact ⟨v2,rfl,by simpa [flat,put] using hown2,K2.o⟩
 ·have hc5:cap<=9223372036854775807:=by unfold maxLen at hmx;omega
  have HP:=gh (place_c w _ xs cap k (preads_of_own hv) hcap hl);have hpl:=place_le xs k;have HV:=gh hv;cases hh:hit xs k with
  | true=>
   obtain ⟨hv',hat,hlt⟩:=hit_true hh;obtain ⟨_,he,_,g1,_⟩:=(preads_of_own hv).at hat;obtain rfl:=Option.some.inj he |> Addr.mk.inj |>.1
   simp only at g1;rw [hh,if_pos rfl] at hpp;obtain ⟨n,hn⟩:∃ n,place xs k=n:=⟨_,rfl⟩;rw [hn] at HP g1 hlt hpp hpl;have HPP:=gh hpp;have i3:n < cap:=by omega
   clear hv hpp hat hh hn he;go_enter Tryz.func115,Tryz.ntmps115;go_wp2_with (fail);refine HP.o.mono ?_;rintro e w' ⟨rfl,rfl⟩;have s1:=src_cells HV.o (show Kept w (w.alloc (.cells #[] 59)) from Td.alloc _ _ _) 0 n;simp only [Nat.zero_mul,List.drop_zero] at s1;go_wp2_with (at_builtin;refine Stop.out ?_);refine ⟨?_⟩;refine wpList_append_own_at _ rfl _ _ 44 rfl w.heap.size 59 y0 (.agg #[.int .i64 0,.int .i64 0]) 2 16 Tryz.underlying44 hi' hz0 hz1 hz2 rfl (by decide) _ _ _ rfl r0 ⟨g,0,none⟩ n cap (flat (xs.take n)) rfl (by rw [flat_length,List.length_take];congr 1;omega) s1 (flat_one _) (by simp;unfold maxLen;omega) (by simp;omega) (by simp) ?_;intro v1 w1 hown1 hg1 hni _;clear hni;have K1:=gh (kept_append0 (xs:=[]) (show Kept w (w.alloc (.cells #[] 59)) from Td.alloc _ _ _) r0 hg1);have r1:w1.ownsRow w.heap.size 59 2 v1 (xs.take n).length (flat (xs.take n)):=(by rw [List.length_take,Nat.min_eq_left (by omega)];simpa [flat] using hown1);have zz1:=K1.o.size;have R1:=gh r1;clear hown1 hg1 s1 r0 r1;go_wp2_with (at_builtin;refine Stop.out ?_);refine ⟨?_⟩;refine wpList_append_own_at _ rfl _ _ 44 rfl w.heap.size 59 y0 (.agg #[.int .i64 0,.int .i64 0]) 2 16 Tryz.underlying44 hi' hz0 hz1 hz2 rfl (by decide) _ _ _ rfl (R1.o.alloc (.cells #[.int .i64 k,.int .i64 u] 59)) ⟨w1.heap.size,0,none⟩ 1 1 [.int .i64 k,.int .i64 u] rfl rfl (two_newR _ _ _) (by simp [Value.oneCell']) (by rw [List.length_take];unfold maxLen;omega) (by rw [List.length_take];omega) (by simp;omega) ?_;intro v2 w2 hown2 hg2 hni _;clear hni;have K2:=gh (kept_append K1.o R1.o hg2);have r2:w2.ownsRow w.heap.size 59 2 v2 (xs.take n++[(k,u)]).length (flat (xs.take n++[(k,u)])):=(by simpa [flat_append,flat] using hown2);have R2:=gh r2;have s2:=src_cells HV.o K2.o (n+1) (xs.length - (n+1));have g1':=K2.o.cell g1 id;have zz2:=K2.o.size;clear hown2 hg2 r2 g1
   by_cases hcq:cap=n+1
   ·go_wp2_with (at_builtin;refine Stop.out ?_);refine ⟨?_⟩;refine wpList_append_own_at _ rfl _ _ 44 rfl w.heap.size 59 y0 (.agg #[.int .i64 0,.int .i64 0]) 2 16 Tryz.underlying44 hi' hz0 hz1 hz2 rfl (by decide) _ _ _ rfl R2.o _ _ _ (flat []) rfl (by first | (simp [flat];done) | (simp [flat];omega)) (by simp [flat]) (flat_one _) (by simp only [List.length_append,List.length_take,List.length_singleton];unfold maxLen;omega) (by simp only [List.length_append,List.length_take,List.length_singleton];omega) (by omega) ?_;intro v3 w3 hown3 hg3 hni _;clear hni;have KF:=gh (kept_append0 K2.o R2.o hg3);go_wp2;go_ret;refine ⟨v3,rfl,?_,KF.o⟩;rw [HPP.o];have e0:xs.drop (n+1)=[]:=List.drop_eq_nil_of_le (by omega);have e1:(xs.take n++[(k,u)]).length+(xs.length - (n+1))=(xs.take n++[(k,u)]).length:=by omega
    rw [e0]
    try rw [e1] at hown3
    simpa [flat] using hown3
   ·go_wp2_with (at_builtin;refine Stop.out ?_);refine ⟨?_⟩;refine wpList_append_own_at _ rfl _ _ 44 rfl w.heap.size 59 y0 (.agg #[.int .i64 0,.int .i64 0]) 2 16 Tryz.underlying44 hi' hz0 hz1 hz2 rfl (by decide) _ _ _ rfl R2.o ⟨g,(n+1) * 2,none⟩ (xs.length - (n+1)) (cap - (n+1)) (flat ((xs.drop (n+1)).take (xs.length - (n+1)))) rfl (by rw [flat_length,List.length_take,List.length_drop];congr 1;omega) s2 (flat_one _) (by simp only [List.length_append,List.length_take,List.length_singleton];unfold maxLen;omega) (by simp only [List.length_append,List.length_take,List.length_singleton];omega) (by omega) ?_;intro v3 w3 hown3 hg3 hni _;clear hni;have KF:=gh (kept_append0 K2.o R2.o hg3);go_wp2;go_ret;refine ⟨v3,rfl,?_,KF.o⟩;rw [HPP.o];have e1:(xs.drop (n+1)).take (xs.length - (n+1))=xs.drop (n+1):=List.take_of_length_le (by rw [List.length_drop];exact Nat.le_refl _);rw [e1,<- flat_append] at hown3;have e2:(xs.take n++[(k,u)]).length+(xs.length - (n+1))=(xs.take n++[(k,u)]++xs.drop (n+1)).length:=by simp only [List.length_append,List.length_drop]
    rw [e2] at hown3;simpa using hown3
  | false=>
   rw [hh,if_neg (by simp)] at hpp;rcases hit_false hh with he | ⟨x,xv,hat,hlt,hne⟩
   ·obtain ⟨n,hn⟩:∃ n,place xs k=n:=⟨_,rfl⟩;rw [hn] at HP hpp hpl he;have HPP:=gh hpp;have hnl:¬ ((n:Int) < (xs.length:Int)):=by omega
    have hnl':¬ (n < xs.length):=by omega
    have he':xs.length<=n:=by omega
    clear hv hpp hh hn he;go_enter Tryz.func115,Tryz.ntmps115;go_wp2_with (fail);refine HP.o.mono ?_;rintro e w' ⟨rfl,rfl⟩;have s1:=src_cells HV.o (show Kept w (w.alloc (.cells #[] 59)) from Td.alloc _ _ _) 0 n;simp only [Nat.zero_mul,List.drop_zero] at s1;go_wp2_with (at_builtin;refine Stop.out ?_);refine ⟨?_⟩;refine wpList_append_own_at _ rfl _ _ 44 rfl w.heap.size 59 y0 (.agg #[.int .i64 0,.int .i64 0]) 2 16 Tryz.underlying44 hi' hz0 hz1 hz2 rfl (by decide) _ _ _ rfl r0 ⟨g,0,none⟩ n cap (flat (xs.take n)) rfl (by rw [flat_length,List.length_take];congr 1;omega) s1 (flat_one _) (by simp;unfold maxLen;omega) (by simp;omega) (by simp) ?_;intro v1 w1 hown1 hg1 hni _;clear hni;have K1:=gh (kept_append0 (xs:=[]) (show Kept w (w.alloc (.cells #[] 59)) from Td.alloc _ _ _) r0 hg1);have r1:w1.ownsRow w.heap.size 59 2 v1 (xs.take n).length (flat (xs.take n)):=(by rw [List.length_take,Nat.min_eq_left (by omega)];simpa [flat] using hown1);have zz1:=K1.o.size;have R1:=gh r1;clear hown1 hg1 s1 r0 r1;go_wp2_with (at_builtin;refine Stop.out ?_);refine ⟨?_⟩;refine wpList_append_own_at _ rfl _ _ 44 rfl w.heap.size 59 y0 (.agg #[.int .i64 0,.int .i64 0]) 2 16 Tryz.underlying44 hi' hz0 hz1 hz2 rfl (by decide) _ _ _ rfl (R1.o.alloc (.cells #[.int .i64 k,.int .i64 u] 59)) ⟨w1.heap.size,0,none⟩ 1 1 [.int .i64 k,.int .i64 u] rfl rfl (two_newR _ _ _) (by simp [Value.oneCell']) (by rw [List.length_take];unfold maxLen;omega) (by rw [List.length_take];omega) (by simp;omega) ?_;intro v2 w2 hown2 hg2 hni _;clear hni;have K2:=gh (kept_append K1.o R1.o hg2);have r2:w2.ownsRow w.heap.size 59 2 v2 (xs.take n++[(k,u)]).length (flat (xs.take n++[(k,u)])):=(by simpa [flat_append,flat] using hown2);have R2:=gh r2;have s2:=src_cells HV.o K2.o (n) (xs.length - (n));have zz2:=K2.o.size;clear hown2 hg2 r2
    by_cases hcq:cap=n
    ·go_wp2_with (at_builtin;refine Stop.out ?_);refine ⟨?_⟩;refine wpList_append_own_at _ rfl _ _ 44 rfl w.heap.size 59 y0 (.agg #[.int .i64 0,.int .i64 0]) 2 16 Tryz.underlying44 hi' hz0 hz1 hz2 rfl (by decide) _ _ _ rfl R2.o _ _ _ (flat []) rfl (by first | (simp [flat];done) | (simp [flat];omega)) (by simp [flat]) (flat_one _) (by simp only [List.length_append,List.length_take,List.length_singleton];unfold maxLen;omega) (by simp only [List.length_append,List.length_take,List.length_singleton];omega) (by omega) ?_;intro v3 w3 hown3 hg3 hni _;clear hni;have KF:=gh (kept_append0 K2.o R2.o hg3);go_wp2;go_ret;refine ⟨v3,rfl,?_,KF.o⟩;rw [HPP.o];have e0:xs.drop (n)=[]:=List.drop_eq_nil_of_le (by omega);have e1:(xs.take n++[(k,u)]).length+(xs.length - (n))=(xs.take n++[(k,u)]).length:=by omega
     rw [e0]
     try rw [e1] at hown3
     simpa [flat] using hown3
    ·go_wp2_with (at_builtin;refine Stop.out ?_);refine ⟨?_⟩;refine wpList_append_own_at _ rfl _ _ 44 rfl w.heap.size 59 y0 (.agg #[.int .i64 0,.int .i64 0]) 2 16 Tryz.underlying44 hi' hz0 hz1 hz2 rfl (by decide) _ _ _ rfl R2.o _ _ _ (flat []) rfl (by first | (simp [flat];done) | (simp [flat];omega)) (by simp [flat]) (flat_one _) (by simp only [List.length_append,List.length_take,List.length_singleton];unfold maxLen;omega) (by simp only [List.length_append,List.length_take,List.length_singleton];omega) (by omega) ?_;intro v3 w3 hown3 hg3 hni _;clear hni;have KF:=gh (kept_append0 K2.o R2.o hg3);go_wp2;go_ret;refine ⟨v3,rfl,?_,KF.o⟩;rw [HPP.o];have e0:xs.drop (n)=[]:=List.drop_eq_nil_of_le (by omega);have e1:(xs.take n++[(k,u)]).length+(xs.length - (n))=(xs.take n++[(k,u)]).length:=by omega
     rw [e0]
     try rw [e1] at hown3
     simpa [flat] using hown3
   ·obtain ⟨_,he,_,g1,_⟩:=(preads_of_own hv).at hat;obtain rfl:=Option.some.inj he |> Addr.mk.inj |>.1
    simp only at g1;obtain ⟨n,hn⟩:∃ n,place xs k=n:=⟨_,rfl⟩;rw [hn] at HP g1 hlt hpp hpl;have HPP:=gh hpp;have i3:n < cap:=by omega
    have hx:(x == k)=false:=by simp only [beq_eq_false_iff_ne,ne_eq];exact hne
    clear hv hpp hat hh hn he hne;go_enter Tryz.func115,Tryz.ntmps115;go_wp2_with (fail);refine HP.o.mono ?_;rintro e w' ⟨rfl,rfl⟩;have s1:=src_cells HV.o (show Kept w (w.alloc (.cells #[] 59)) from Td.alloc _ _ _) 0 n;simp only [Nat.zero_mul,List.drop_zero] at s1;go_wp2_with (at_builtin;refine Stop.out ?_);refine ⟨?_⟩;refine wpList_append_own_at _ rfl _ _ 44 rfl w.heap.size 59 y0 (.agg #[.int .i64 0,.int .i64 0]) 2 16 Tryz.underlying44 hi' hz0 hz1 hz2 rfl (by decide) _ _ _ rfl r0 ⟨g,0,none⟩ n cap (flat (xs.take n)) rfl (by rw [flat_length,List.length_take];congr 1;omega) s1 (flat_one _) (by simp;unfold maxLen;omega) (by simp;omega) (by simp) ?_;intro v1 w1 hown1 hg1 hni _;clear hni;have K1:=gh (kept_append0 (xs:=[]) (show Kept w (w.alloc (.cells #[] 59)) from Td.alloc _ _ _) r0 hg1);have r1:w1.ownsRow w.heap.size 59 2 v1 (xs.take n).length (flat (xs.take n)):=(by rw [List.length_take,Nat.min_eq_left (by omega)];simpa [flat] using hown1);have zz1:=K1.o.size;have R1:=gh r1;clear hown1 hg1 s1 r0 r1;go_wp2_with (at_builtin;refine Stop.out ?_);refine ⟨?_⟩;refine wpList_append_own_at _ rfl _ _ 44 rfl w.heap.size 59 y0 (.agg #[.int .i64 0,.int .i64 0]) 2 16 Tryz.underlying44 hi' hz0 hz1 hz2 rfl (by decide) _ _ _ rfl (R1.o.alloc (.cells #[.int .i64 k,.int .i64 u] 59)) ⟨w1.heap.size,0,none⟩ 1 1 [.int .i64 k,.int .i64 u] rfl rfl (two_newR _ _ _) (by simp [Value.oneCell']) (by rw [List.length_take];unfold maxLen;omega) (by rw [List.length_take];omega) (by simp;omega) ?_;intro v2 w2 hown2 hg2 hni _;clear hni;have K2:=gh (kept_append K1.o R1.o hg2);have r2:w2.ownsRow w.heap.size 59 2 v2 (xs.take n++[(k,u)]).length (flat (xs.take n++[(k,u)])):=(by simpa [flat_append,flat] using hown2);have R2:=gh r2;have s2:=src_cells HV.o K2.o (n) (xs.length - (n));have g1':=K2.o.cell g1 id;have zz2:=K2.o.size;clear hown2 hg2 r2 g1;go_wp2_with (at_builtin;refine Stop.out ?_);refine ⟨?_⟩;refine wpList_append_own_at _ rfl _ _ 44 rfl w.heap.size 59 y0 (.agg #[.int .i64 0,.int .i64 0]) 2 16 Tryz.underlying44 hi' hz0 hz1 hz2 rfl (by decide) _ _ _ rfl R2.o ⟨g,(n) * 2,none⟩ (xs.length - (n)) (cap - (n)) (flat ((xs.drop (n)).take (xs.length - (n)))) rfl (by rw [flat_length,List.length_take,List.length_drop];congr 1;omega) s2 (flat_one _) (by simp only [List.length_append,List.length_take,List.length_singleton];unfold maxLen;omega) (by simp only [List.length_append,List.length_take,List.length_singleton];omega) (by omega) ?_;intro v3 w3 hown3 hg3 hni _;clear hni;have KF:=gh (kept_append0 K2.o R2.o hg3);go_wp2;go_ret;refine ⟨v3,rfl,?_,KF.o⟩;rw [HPP.o];have e1:(xs.drop (n)).take (xs.length - (n))=xs.drop (n):=List.take_of_length_le (by rw [List.length_drop];exact Nat.le_refl _);rw [e1,<- flat_append] at hown3;have e2:(xs.take n++[(k,u)]).length+(xs.length - (n))=(xs.take n++[(k,u)]++xs.drop (n)).length:=by simp only [List.length_append,List.length_drop]
    rw [e2] at hown3;simpa using hown3
end Mp
namespace Mp
theorem row_base {w:World} {b b':Nat} {e:TypeId} {size:Nat} {v:Value} {n:Nat} {xs:List Value} (h:w.ownsRow b e size v n xs) (hb:b'<=b):w.ownsRow b' e size v n xs:=by
 obtain ⟨h1,h2⟩:=h;refine ⟨h1,?_⟩;rcases h2 with h2 | ⟨g,cap,cur,rfl,hg,r⟩
 ·exact .inl h2
 ·exact .inr ⟨g,cap,cur,rfl,by omega,r⟩
end Mp
namespace Mp
def fillP (zs:List Int):Nat->List (Int × Int)
 | 0=>[]
 | t+1=>match zs[t]? with
  | some z=>put ltI (fillP zs t) (z % 97 - 40) (t:Int)
  | none=>fillP zs t
theorem fillP_step {zs:List Int} {t:Nat} {z:Int} (h:zs[t]? = some z):fillP zs (t+1)=put ltI (fillP zs t) (z % 97 - 40) (t:Int):=by simp [fillP,h]
theorem fillP_le (zs:List Int):(t:Nat)->(fillP zs t).length<=t
 | 0=>Nat.le_refl _
 | t+1=>by
  have:=fillP_le zs t
  unfold fillP
  split
  ·rename_i z _
   have:=length_put_le (lt:=ltI) (xs:=fillP zs t) (k:=z % 97 - 40) (v:=(t:Int))
   omega
  ·omega
theorem fillP_mem (zs:List Int):(t:Nat)->∀ p ∈ fillP zs t,-40<=p.1/\p.1<=56/\0<=p.2/\p.2<=t
 | 0=>by simp [fillP]
 | t+1=>by
  intro p hp;unfold fillP at hp
  split at hp
  ·rcases mem_put hp with rfl | hp
   ·simp only;omega
   ·have:=fillP_mem zs t p hp
    omega
  ·have:=fillP_mem zs t p hp
   omega
def pairsP (zs:List Int):List (Int × Int):=fillP zs (min zs.length 60)
theorem pairsP_le (zs:List Int):(pairsP zs).length<=60:=by
 have:=fillP_le zs (min zs.length 60)
 unfold pairsP;omega
theorem pairsP_i64 (zs:List Int):∀ p ∈ pairsP zs,I64 p.1/\I64 p.2:=by
 intro p hp
 have:=fillP_mem zs _ p hp
 unfold I64;omega
set_option maxRecDepth 100000 in
set_option maxHeartbeats 1000000 in
theorem pairs_c (w:World) (a:Option Addr) (zs:List Int) (M cap:Nat) (hM:zs.length=M) (hr:Reads w a zs) (hc:M<=cap) (hm:cap<=maxLen) :
  Calls Tryz.prog 88 #[.slice a M cap] w (PSliced (pairsP zs) w):=by
 subst hM;have hm':(zs.length:Int)<=9223372036854775807:=by unfold maxLen at hm;omega
 have HR:=gh hr;clear hr hm;go_enter Tryz.func88,Tryz.ntmps88;go_wp2
 go_loopw [3,4,5] (fun v i _ wr=>∃ t:Nat,t<=zs.length/\t<=60/\i=.int .i64 t/\Hid (wr.ownsRow w.heap.size 59 2 v (fillP zs t).length (flat (fillP zs t)))/\Hid (Kept w wr)) (fun _ i _ _=>60 - (intOf i).toNat)
 case atStart=>exact ⟨0,Nat.zero_le _,by omega,rfl,gh (World.ownsRow_nil _ _ _ _),gh (Kept.refl _)⟩
 case round=>
  obtain ⟨t,ht1,ht2,rfl,HV,HK⟩:=hrel
  by_cases hlt:t < zs.length/\t < 60
  ·obtain ⟨hlt1,hlt2⟩:=hlt;obtain ⟨z,hz⟩:∃ z,zs[t]? = some z:=⟨_,List.getElem?_eq_getElem hlt1⟩;obtain ⟨bl,off,rfl,_,hrow⟩:=(HR.o.kept HK.o).at hz;have HZ:=gh (fillP_step hz);have i1:(t:Int) < (zs.length:Int):=by omega
   have i2:(t:Int) < 60:=by omega
   have i3:t < cap:=by omega
   have zr:=HK.o.size;obtain ⟨y,hy⟩:∃ y,z % 97=y:=⟨_,rfl⟩;have y1:0<=y:=by omega
   have y2:y < 97:=by omega
   have HY:=gh hy;rw [hy] at HZ;clear hz hy;go_wp2_with (fail);refine (cut_g _ z 97 (by decide) (by decide)).mono ?_;rw [HY.o];rintro e w0 ⟨rfl,rfl⟩;go_wp2_with (fail);refine (refPut_c _ _ _ (fillP zs t) (y - 40) t HV.o (by have:=fillP_le zs t;omega)).mono ?_;rintro e w1 ⟨v1,rfl,hrow1,hk1⟩;have V1:Hid (w1.ownsRow w.heap.size 59 2 v1 (fillP zs (t+1)).length (flat (fillP zs (t+1)))):=gh (by rw [HZ.o];exact row_base hrow1 zr);have K1:=gh (HK.o.trans hk1);clear hrow1 hk1;go_wp2;exact ⟨⟨t+1,by omega,by omega,by simp,V1,K1⟩,by simp [intOf];omega⟩
  ·have e:min zs.length 60=t:=by omega
   have E:Hid (pairsP zs=fillP zs t):=gh (by unfold pairsP;rw [e]);have hex:¬ ((t:Int) < (zs.length:Int))∨((t:Int) < (zs.length:Int)/\¬ ((t:Int) < 60)):=by omega
   clear e hlt;rcases hex with hx | ⟨hx1,hx2⟩
   ·go_wp2;go_ret;exact ⟨_,rfl,by rw [E.o];exact HV.o,HK.o⟩
   ·go_wp2;go_ret;exact ⟨_,rfl,by rw [E.o];exact HV.o,HK.o⟩
end Mp
section
open Go.Shelf
variable {P:Nat->Prop}
attribute [local go_sem] Oper.semAt_some
theorem Reads.takes {w:World} {a:Option Addr} {zs:List Int} (h:Reads w a zs) (n:Nat):Reads w a (zs.take n):=by
 rcases h with h | ⟨bl,off,e,h⟩
 ·exact .inl (by rw [h];simp)
 ·refine .inr ⟨bl,off,e,fun j z hz=>h j z ?_⟩;rw [List.getElem?_take] at hz
  split at hz
  ·exact hz
  ·cases hz
theorem few_r (w:World) (a:Option Addr) (zs:List Int) (M cap n:Nat) (hr:Reads w a zs) (hM:zs.length=M) (hc:M<=cap) (hm:cap<=maxLen) (hn:n<=1000) :
  Calls Tryz.prog 89 #[.slice a M cap,.int .i64 (n:Int)] w fun e w'=>e=.returned (.slice a (min M n) cap)/\w=w':=by
 have hm':(M:Int)<=9223372036854775807:=by unfold maxLen at hm;omega
 by_cases hlt:n < M
 ·have i1:(n:Int) < (M:Int):=by omega
  have i2:n<=cap:=by omega
  have e1:min M n=n:=by omega
  rcases hr with h | ⟨bl,off,rfl,_⟩
  ·rw [h] at hM;simp at hM;omega
  ·rw [e1];clear hm hM e1;go_enter Tryz.func89,Tryz.ntmps89;go_wp2;go_ret;exact ⟨rfl,rfl⟩
 ·have i1:¬ ((n:Int) < (M:Int)):=by omega
  have e1:min M n=M:=by omega
  rw [e1];clear hm hM e1 hr;go_enter Tryz.func89,Tryz.ntmps89;go_wp2;go_ret;exact ⟨rfl,rfl⟩
namespace Ixp
def busyB (ix:Ixp) (t:Nat):Bool:=match ix.ts[t]? with | some q=>q.busy | none=>false
def actZ (ix:Ixp) (z:Int):Ixp:=
 let t:=(z % 3).toNat
 let n:=z.tdiv 3
 if 0 < n % 3/\ix.busyB t=true then doZ t (1+n.tdiv 3 % 24).toNat ix else ix.invokeZ t (opK (n.tdiv 3)) (opKey (n.tdiv 3)) (opVal (n.tdiv 3))
theorem actZ_gd {ix:Ixp} {c:Nat} (h:Gd ix c) (z:Int):Gd (ix.actZ z) (c+24):=by
 unfold actZ;dsimp only
 split
 ·exact (doZ_gd _ _ h).le (by omega)
 ·exact (invokeZ_gd h _ _ _ _).le (by omega)
theorem pickZ_len (ix:Ixp) (j:Nat):(ix.pickZ j).2.ts.length=ix.ts.length:=by
 unfold pickZ
 split
 ·rfl
 ·split
  ·rfl
  ·split
   ·dsimp only;rw [(takesL_keeps _ _ _).1];simp [pick1]
   ·rfl
theorem doZ_len (j:Nat):∀ (n:Nat) (ix:Ixp),(doZ j n ix).ts.length=ix.ts.length
 | 0,_=>rfl
 | n+1,ix=>by
  rw [doZ]
  split
  ·exact pickZ_len ix j
  ·rw [doZ_len j n,pickZ_len]
theorem invokeZ_len (ix:Ixp) (j:Nat) (k key val:Int):(ix.invokeZ j k key val).ts.length=ix.ts.length:=by
 unfold invokeZ
 split
 ·rfl
 ·split
  ·rfl
  ·simp [invoke]
theorem actZ_len (ix:Ixp) (z:Int):(ix.actZ z).ts.length=ix.ts.length:=by
 unfold actZ;dsimp only
 split
 ·exact doZ_len _ _ _
 ·exact invokeZ_len _ _ _ _ _
theorem loadZ_ts (ix:Ixp) (ps:List (Int × Int)):(ix.loadZ ps).2.ts=ix.ts/\(ix.loadZ ps).2.logn<=ix.logn+1:=by
 unfold loadZ
 repeat' split
 all_goals exact ⟨rfl,by simp⟩
end Ixp
def world0 (cells:Int) (keys:List Int):Ixp:=((Ixp.fresh (150+cells % 650) 2 3).loadZ (Mp.pairsP (keys.take 20))).2
def worldZ (cells:Int) (keys l:List Int):Ixp:=(l.take 70).foldl Ixp.actZ (world0 cells keys)
theorem world0_gd (cells:Int) (keys:List Int):(world0 cells keys).Gd 0/\(world0 cells keys).ts.length=3:=by
 obtain ⟨h1,h2⟩:=Ixp.loadZ_ts (Ixp.fresh (150+cells % 650) 2 3) (Mp.pairsP (keys.take 20));have h3:(world0 cells keys).ts=List.replicate 3 (Tp.idle 2):=h1;have h4:(world0 cells keys).logn<=1:=h2;refine ⟨⟨by rw [h3];simp,fun i q p e1 e2=>?_,fun i q e1=>?_,by omega⟩,by rw [h3];simp⟩
 ·rw [h3,List.getElem?_replicate] at e1
  split at e1
  ·cases e1;cases e2
  ·cases e1
 ·rw [h3,List.getElem?_replicate] at e1
  split at e1
  ·cases e1;exact ⟨by decide,by decide⟩
  ·cases e1
theorem fold_step {α β:Type} (f:β->α->β) {L:List α} {i:Nat} {z:α} (h:L[i]? = some z) (b:β):(L.drop i).foldl f b=(L.drop (i+1)).foldl f (f b z):=by
 obtain ⟨hi,e⟩:=List.getElem?_eq_some_iff.1 h;rw [List.drop_eq_getElem_cons hi,e];rfl
theorem invokez_r (W:World) (n₀ x mb tb:Nat) (ix:Ixp) (mv:Value) (tv lv:Sl) (pz:List Pt) (h:IxIs P W n₀ x ix mb mv tb tv lv pz) (hn:n₀<=W.heap.size) (j:Nat) (hj:j < ix.ts.length) (c:Nat) (hg:ix.Gd c) (hc:c<=7000) (z:Int) :
  Calls Tryz.prog 59 #[.pointer (some ⟨x,0,none⟩),.int .i64 (j:Int),.agg #[.int .i64 (opK z),.int .i64 (opKey z),.int .i64 (opVal z)]] W fun e W'=>(∃ r,e=.returned (.int .i64 r))/\(∃ lv' pz',IxIs P W' n₀ x (ix.invokeZ j (opK z) (opKey z) (opVal z)) mb mv tb tv lv' pz')/\Td (Mine P W n₀) W W':=by
 obtain ⟨q,hq⟩:∃ q,ix.ts[j]? = some q:=⟨_,List.getElem?_eq_getElem hj⟩;obtain ⟨p,hp⟩:∃ p,pz[j]? = some p:=⟨_,List.getElem?_eq_getElem (by rw [h.pn];exact hj)⟩;obtain ⟨b,hb⟩:∃ b,q.busy=b:=⟨_,rfl⟩;unfold Ixp.invokeZ;rw [hq];dsimp only;rw [hb];have hl:=hg.log;cases b with
 | true=>
  rw [if_pos rfl];refine (invoke_busy W n₀ x mb tb ix mv tv lv pz h j q p hq hp hb _ _ _).mono ?_;rintro e W' ⟨rfl,k⟩;exact ⟨⟨4,rfl⟩,⟨lv,pz,h.kept k⟩,k.mono (fun _ _ e=>e.elim)⟩
 | false=>
  rw [if_neg (by decide)];have o:=op_bounds z;refine (invoke_r W n₀ x mb tb ix mv tv lv pz h j q p hq hp hb hn (by omega) _ _ _ ⟨o.1,hg.bud j q hq,i64_small (by show _<=opKey z;omega) (by show opKey z<=_;omega),i64_small (by show _<=opVal z;omega) (by show opVal z<=_;omega)⟩).mono ?_;rintro e W' ⟨rfl,h2,h3⟩;exact ⟨⟨0,rfl⟩,h2,h3⟩
end
section
open Go.Shelf
attribute [local go_sem] Oper.semAt_some
structure Wrl (w W:World) (x mb tb:Nat) (ix:Ixp):Prop where
 ixs:∃ mv tv lv pz,IxIs NoP W w.heap.size x ix mb mv tb tv lv pz
 kept:Kept w W
 len:ix.ts.length=3
theorem Wrl.next {w W W':World} {x mb tb:Nat} {ix ix':Ixp} (h:Wrl w W x mb tb ix) (h1:∃ mv tv lv pz,IxIs NoP W' w.heap.size x ix' mb mv tb tv lv pz) (t:Td (Mine NoP W w.heap.size) W W') (hl:ix'.ts.length=ix.ts.length):Wrl w W' x mb tb ix':=
 ⟨h1,h.kept.own (fun _ e=>e) t.since,by rw [hl,h.len]⟩
set_option maxRecDepth 100000 in
set_option maxHeartbeats 4000000 in
theorem world_r (w:World) (cells:Int) (a1:Option Addr) (keys:List Int) (c1:Nat) (a2:Option Addr) (l:List Int) (c2:Nat) (hr1:Reads w a1 keys) (hc1:keys.length<=c1) (hm1:c1<=maxLen) (hr2:Reads w a2 l) (hc2:l.length<=c2) (hm2:c2<=maxLen) (hi:∀ z ∈ l,I64 z) :
  Calls Tryz.prog 47 #[.int .i64 cells,.int .i64 3,.slice a1 keys.length c1,.slice a2 l.length c2] w fun e W=>∃ x,e=.returned (.pointer (some ⟨x,0,none⟩))/\∃ mb tb,Wrl w W x mb tb (worldZ cells keys l):=by
 obtain ⟨M1,hM1⟩:∃ M,keys.length=M:=⟨_,rfl⟩;obtain ⟨M2,hM2⟩:∃ M,l.length=M:=⟨_,rfl⟩;rw [hM1] at hc1 ⊢;rw [hM2] at hc2 ⊢;have hl2:(M2:Int)<=9223372036854775807:=by unfold maxLen at hm2;omega
 obtain ⟨m,hm⟩:∃ m,cells % 650=m:=⟨_,rfl⟩;have m0:0<=m/\m < 650:=by omega
 have C1:∀ X,Calls Tryz.prog 25 #[.int .i64 cells,.int .i64 650] X fun e X'=>e=.returned (.int .i64 m)/\X=X':=fun X=>hm ▸ cut_g X cells 650 (by decide) (by decide);obtain ⟨r0,ix0,hld⟩:∃ r i,(Ixp.fresh (150+m) 2 3).loadZ (Mp.pairsP (keys.take 20))=(r,i):=⟨_,_,rfl⟩;have H0:Hid (world0 cells keys=ix0):=gh (by rw [world0,hm,hld]);have HLD:=gh hld;have HR1:=gh hr1;have HR2:=gh hr2;have HM1:=gh hM1;have HM2:=gh hM2;have HC1:=gh (And.intro hc1 hm1);have HC2:=gh hc2;have HI:=gh hi;clear hr1 hr2 hM1 hM2 hc1 hc2 hm1 hm2 hi hm hld;go_enter Tryz.func47,Tryz.ntmps47;go_wp2_with (fail);refine (C1 w).mono ?_;rintro e w' ⟨rfl,rfl⟩;clear C1;go_wp2_with (fail);refine (new_r w (150+m) 2 3 (by omega) (by omega) (by decide) (by decide) (by decide) (by decide)).mono ?_;rintro e W1 ⟨x,rfl,⟨mb,mv1,tb,tv1,lv1,pz1,i1⟩,k1⟩;have I1:=gh i1;have K1:=gh k1;clear i1 k1;go_wp2_with (fail);refine (few_r W1 a1 keys M1 c1 20 (HR1.o.kept K1.o) HM1.o HC1.o.1 HC1.o.2 (by decide)).mono ?_;rintro e w' ⟨rfl,rfl⟩;go_wp2_with (fail);refine (Mp.pairs_c W1 a1 (keys.take 20) (min M1 20) c1 (by rw [List.length_take,HM1.o,Nat.min_comm]) ((HR1.o.kept K1.o).takes 20) (by have:=HC1.o.1;omega) HC1.o.2).mono ?_;rintro e W2 ⟨v2,rfl,r2,k2⟩;have r2':PRow W2 W1.heap.size 59 v2 (Mp.pairsP (keys.take 20)):=r2;obtain ⟨ap,cp,rfl,hpr,hpc,hpm,hp0,_⟩:=r2'.reads;obtain ⟨Mp',hMp⟩:∃ M,(Mp.pairsP (keys.take 20)).length=M:=⟨_,rfl⟩;have LS:Hid (Lst W2 ap (Mp.pairsP (keys.take 20)) Mp' cp):=gh ⟨hpr,hMp,by omega,hpm,by have:=Mp.pairsP_le (keys.take 20);omega,hp0,fun _ ad e=>by
  obtain ⟨c,hc⟩:=r2'.typed ad.block (by rw [e];rfl);exact ⟨c,hc⟩⟩
 have I2:=gh (I1.o.kept k2);have K2:=gh (K1.o.trans k2);rw [hMp];clear r2 r2' hpr hpc hpm hp0 hMp k2 I1;go_wp2_with (fail);refine (load_r W2 w.heap.size x mb tb _ mv1 tv1 lv1 pz1 I2.o K2.o.size (by simp [Ixp.fresh]) (by simp [Ixp.fresh]) ap _ Mp' cp LS.o (Mp.pairsP_i64 _) r0 ix0 HLD.o).mono ?_;rintro e W3 ⟨rfl,⟨mv3,lv3,i3⟩,t3⟩;rw [<- H0.o] at i3;have G0:=gh (world0_gd cells keys);have WR:Hid (Wrl w W3 x mb tb (world0 cells keys)):=gh ⟨⟨mv3,tv1,lv3,pz1,i3⟩,K2.o.own (fun _ e=>e) t3.since,G0.o.2⟩;clear i3 t3 LS I2 K2 K1;go_wp2_with (fail)
 rename World=>W4
 go_loopw [11,12,13] (fun vi _ _ wr=>∃ (i:Nat) (ix:Ixp),vi=.int .i64 (i:Int)/\i<=M2/\i<=70/\Hid (Wrl w wr x mb tb ix)/\Hid (ix.Gd (24 * i))/\Hid (worldZ cells keys l=((l.take 70).drop i).foldl Ixp.actZ ix)) (fun vi _ _ _=>70 - (intOf vi).toNat)
 case atStart=>exact ⟨0,world0 cells keys,rfl,by omega,by omega,WR,gh G0.o.1,gh rfl⟩
 case round=>
  obtain ⟨i,ix,rfl,hi,hi7,WI,G,E⟩:=hrel;clear WR G0
  by_cases hlt:i < M2
  ·have j1:(i:Int) < (M2:Int):=by omega
   by_cases h70:i < 70
   ·have j2:(i:Int) < 70:=by omega
    obtain ⟨z,hz⟩:∃ z,l[i]? = some z:=⟨_,List.getElem?_eq_getElem (by rw [HM2.o];exact hlt)⟩;obtain ⟨bl,off,rfl,hbl,hcell0⟩:=HR2.o.at hz;have hcell:=WI.o.kept.cell hcell0 id;have j3:i < c2:=by have:=HC2.o;omega
    obtain ⟨z1,z2⟩:=HI.o z (List.mem_of_getElem? hz);obtain ⟨tt,htt⟩:∃ tt:Nat,z % 3=(tt:Int):=⟨(z % 3).toNat,by omega⟩;have tt3:tt < 3:=by omega
    obtain ⟨n1,hn1⟩:∃ n,z.tdiv 3=n:=⟨_,rfl⟩;obtain ⟨n2,hn2⟩:∃ n,n1.tdiv 3=n:=⟨_,rfl⟩;have d1:z.tmod 3+3 * n1=z:=by rw [<- hn1];first | exact Int.tmod_add_tdiv z 3 | exact Int.tmod_add_mul_tdiv z 3
    have d2:n1.tmod 3+3 * n2=n1:=by rw [<- hn2];first | exact Int.tmod_add_tdiv n1 3 | exact Int.tmod_add_mul_tdiv n1 3
    have d3:=Int.lt_tmod_of_pos z (show (0:Int) < 3 by decide);have d4:=Int.tmod_lt_of_pos z (show (0:Int) < 3 by decide);have d5:=Int.lt_tmod_of_pos n1 (show (0:Int) < 3 by decide);have d6:=Int.tmod_lt_of_pos n1 (show (0:Int) < 3 by decide);generalize z.tmod 3=p1 at d1 d3 d4;generalize n1.tmod 3=p2 at d2 d5 d6;have b1:-9223372036854775808<=n1/\n1<=9223372036854775807:=by omega
    have b2:-9223372036854775808<=n2/\n2<=9223372036854775807:=by omega
    clear d1 d2 d3 d4 d5 d6;obtain ⟨k3,hk3⟩:∃ k,n1 % 3=k:=⟨_,rfl⟩;have k30:0<=k3/\k3 < 3:=by omega
    obtain ⟨kk,hkk⟩:∃ kk:Nat,n2 % 24=(kk:Int):=⟨(n2 % 24).toNat,by omega⟩;have kk24:kk < 24:=by omega
    have C3:∀ X,Calls Tryz.prog 25 #[.int .i64 z,.int .i64 3] X fun e X'=>e=.returned (.int .i64 (tt:Int))/\X=X':=fun X=>htt ▸ cut_g X z 3 (by decide) (by decide);have C4:∀ X,Calls Tryz.prog 25 #[.int .i64 n1,.int .i64 3] X fun e X'=>e=.returned (.int .i64 k3)/\X=X':=fun X=>hk3 ▸ cut_g X n1 3 (by decide) (by decide);have C5:∀ X,Calls Tryz.prog 25 #[.int .i64 n2,.int .i64 24] X fun e X'=>e=.returned (.int .i64 (kk:Int))/\X=X':=fun X=>hkk ▸ cut_g X n2 24 (by decide) (by decide);have HC3:=gh C3;have HC4:=gh C4;have HC5:=gh C5;have hzt:(l.take 70)[i]? = some z:=by rw [List.getElem?_take,if_pos h70];exact hz
    have EN:Hid (worldZ cells keys l=((l.take 70).drop (i+1)).foldl Ixp.actZ (ix.actZ z)):=gh (by rw [E.o,fold_step _ hzt]);have GN:Hid ((ix.actZ z).Gd (24 * (i+1))):=gh ((Ixp.actZ_gd G.o z).le (by omega));have AZ:Hid (ix.actZ z=if 0 < k3/\ix.busyB tt=true then Ixp.doZ tt (1+kk) ix else ix.invokeZ tt (opK n2) (opKey n2) (opVal n2)):=gh (by
     have e1:(z % 3).toNat=tt:=by omega
     have e2:(1+n2 % 24).toNat=1+kk:=by omega
     unfold Ixp.actZ;dsimp only;rw [e1,hn1,hk3,hn2,e2])
    have tl:tt < ix.ts.length:=by rw [WI.o.len];exact tt3
    obtain ⟨q,hq⟩:∃ q,ix.ts[tt]? = some q:=⟨_,List.getElem?_eq_getElem tl⟩;obtain ⟨mv,tv,lv,pz,I⟩:=WI.o.ixs;obtain ⟨p,hp⟩:∃ p,pz[tt]? = some p:=⟨_,List.getElem?_eq_getElem (by rw [I.pn];exact tl)⟩;obtain ⟨b,hb⟩:∃ b,q.busy=b:=⟨_,rfl⟩;have BB:Hid (ix.busyB tt=b):=gh (by unfold Ixp.busyB;rw [hq];exact hb);have f4:=I.cells.1.2.1;have fj:=I.slot hp;have fb:=(I.th tt q p hq hp).cells.1.2.1;rw [hb] at fb;have u1:(tt:Int) < (tv.n:Int):=by have:=I.tvn.1;omega
    have u2:tt < tv.c:=by have:=I.tvn;omega
    have u0:decide ((tt:Int) < 0)=false:=by simp
    have u3:decide ((tv.n:Int)<=(tt:Int))=false:=by simp;omega
    have HI4:=gh I;have HQ:=gh hq;have HB:=gh hb;have NW:=gh WI.o.kept.size;have HB2:=gh (And.intro b2.1 b2.2);have i24:Hid (24 * i<=1680):=gh (by omega);have TT3:=gh tl;clear hz htt hk3 hkk C3 C4 C5 hzt E hq hp hb I hcell0 hbl tl;go_wp2_with (fail);refine (HC3.o wr).mono ?_;rintro e w' ⟨rfl,rfl⟩;clear hcell;go_wp2_with (fail)
    try rw [hn1]
    refine (HC4.o wr).mono ?_;rintro e w' ⟨rfl,rfl⟩;have DN:Hid (0 < k3->b=true->Calls Tryz.prog 90 #[.pointer (some ⟨x,0,none⟩),.agg #[.int .i64 2,.int .i64 (tt:Int),.int .i64 (1+(kk:Int)),.int .i64 0,.int .i64 0,.int .i64 0]] wr fun e W'=>e=.returned (.int .i64 0)/\Wrl w W' x mb tb (ix.actZ z)):=gh (fun h3 hbt=>by
     obtain ⟨p',hp'⟩:=HI4.o.bz tt q HQ.o (by rw [HB.o,hbt]);have e1:((1+kk:Nat):Int)=1+(kk:Int):=by omega
     have:=do_r wr w.heap.size x mb tb ix mv tv lv pz HI4.o NW.o tt q p' HQ.o (by rw [HB.o,hbt]) hp' (24 * i) G.o (1+kk) (by omega) (by have:=i24.o;omega)
     rw [e1] at this;refine this.mono ?_;rintro e W' ⟨rfl,⟨mv',lv',pz',h1⟩,h2⟩;have ez:ix.actZ z=Ixp.doZ tt (1+kk) ix:=by rw [AZ.o,if_pos ⟨h3,by rw [BB.o,hbt]⟩]
     exact ⟨rfl,WI.o.next ⟨mv',tv,lv',pz',by rw [ez];exact h1⟩ h2 (Ixp.actZ_len ix z)⟩)
    have IN:Hid (¬ (0 < k3/\b=true)->∀ W',Kept wr W'->Calls Tryz.prog 59 #[.pointer (some ⟨x,0,none⟩),.int .i64 (tt:Int),.agg #[.int .i64 (opK n2),.int .i64 (opKey n2),.int .i64 (opVal n2)]] W' fun e W''=>(∃ r,e=.returned (.int .i64 r))/\Wrl w W'' x mb tb (ix.actZ z)):=gh (fun hne W' k'=>by
     refine (invokez_r W' w.heap.size x mb tb ix mv tv lv pz (HI4.o.kept k') (Nat.le_trans NW.o k'.size) tt TT3.o (24 * i) G.o (by have:=i24.o;omega) n2).mono ?_;rintro e W'' ⟨h0,⟨lv',pz',h1⟩,h2⟩;have ez:ix.actZ z=ix.invokeZ tt (opK n2) (opKey n2) (opVal n2):=by rw [AZ.o,if_neg (by rw [BB.o];exact hne)]
     exact ⟨h0,WI.o.next ⟨mv,tv,lv',pz',by rw [ez];exact h1⟩ (Td.mine_kept k' h2) (Ixp.actZ_len ix z)⟩)
    clear HI4 HQ HB BB AZ G
    by_cases h3:0 < k3
    ·cases b with
     | true=>
      go_wp2_with (fail)
      try rw [hn2]
      refine (HC5.o wr).mono ?_;rintro e w' ⟨rfl,rfl⟩;clear f4 fj fb;go_wp2_with (fail);refine (DN.o h3 (by simp)).mono ?_;rintro e W6 ⟨rfl,w6⟩;have W6':=gh w6;clear w6 DN IN;go_wp2;exact ⟨⟨i+1,_,by simp,by omega,by omega,W6',GN,EN⟩,by simp only [intOf];omega⟩
     | false=>
      go_wp2_with (fail)
      try rw [hn2]
      refine (op_r wr n2 ⟨b2.1,b2.2⟩).mono ?_;rintro e W5 ⟨rfl,k5⟩;have K5:=gh k5;clear f4 fj fb k5;go_wp2_with (fail);refine (IN.o (by simp) W5 K5.o).mono ?_;rintro e W6 ⟨⟨rr,rfl⟩,w6⟩;have W6':=gh w6;clear w6 DN IN;go_wp2;exact ⟨⟨i+1,_,by simp,by omega,by omega,W6',GN,EN⟩,by simp only [intOf];omega⟩
    ·go_wp2_with (fail)
     try rw [hn2]
     refine (op_r wr n2 ⟨b2.1,b2.2⟩).mono ?_;rintro e W5 ⟨rfl,k5⟩;have K5:=gh k5;clear f4 fj fb k5;go_wp2_with (fail);refine (IN.o (by rintro ⟨e,-⟩;omega) W5 K5.o).mono ?_;rintro e W6 ⟨⟨rr,rfl⟩,w6⟩;have W6':=gh w6;clear w6 DN IN;go_wp2;exact ⟨⟨i+1,_,by simp,by omega,by omega,W6',GN,EN⟩,by simp only [intOf];omega⟩
   ·have j2:¬ ((i:Int) < 70):=by omega
    obtain rfl:i=70:=by omega
    have HE:Hid (worldZ cells keys l=ix):=gh (by rw [E.o,List.drop_of_length_le (by simp;omega)];rfl);go_wp2;go_ret;exact ⟨x,rfl,mb,tb,by rw [HE.o];exact WI.o⟩
  ·have j1:¬ ((i:Int) < (M2:Int)):=by omega
   obtain rfl:i=M2:=by omega
   have HE:Hid (worldZ cells keys l=ix):=gh (by rw [E.o,List.drop_of_length_le (by have:=HM2.o;simp;omega)];rfl);go_wp2;go_ret;exact ⟨x,rfl,mb,tb,by rw [HE.o];exact WI.o⟩
end
section
open Go.Shelf
structure Grew1 (s s':Mst):Prop where
 size:s'.size=s.size
 len:s.xs.length<=s'.xs.length
theorem Grew1.refl (s:Mst):Grew1 s s:=⟨rfl,Nat.le_refl _⟩
theorem Grew1.trans {s s' s'':Mst} (h:Grew1 s s') (h':Grew1 s' s''):Grew1 s s'':=⟨h'.size.trans h.size,Nat.le_trans h.len h'.len⟩
theorem Mst.touch_grew (m:Mst) (a:Int):Grew1 m (m.touch a):=by unfold Mst.touch;split <;> exact ⟨rfl,Nat.le_refl _⟩
theorem Mst.write_grew (m:Mst) (a x:Int):Grew1 m (m.write a x):=by
 unfold Mst.write;refine (m.touch_grew a).trans ?_;unfold Mst.put
 split
 ·exact ⟨rfl,by simp⟩
 ·exact Grew1.refl _
theorem Mst.make_grew (m:Mst) (w:List Int):Grew1 m (m.make w):=by
 unfold Mst.make
 split
 ·exact ⟨rfl,by simp⟩
 ·exact ⟨rfl,Nat.le_refl _⟩
theorem Mst.doA_grew (m:Mst) (q:Ak):Grew1 m (m.doA q).2:=by
 have hc:∀ a o x,Grew1 m (m.cas a o x):=fun a o x=>by
  unfold Mst.cas
  split
  ·exact m.write_grew _ _
  ·exact m.touch_grew _
 unfold Mst.doA
 split
 ·exact m.touch_grew _
 ·split
  ·exact m.write_grew _ _
  ·split
   ·exact hc _ _ _
   ·split
    ·exact m.write_grew _ _
    ·split
     ·exact m.make_grew _
     ·exact Grew1.refl _
theorem kidF_grew {L:Mst->List (Int × Int)->Int × Mst} (hL:∀ s ps,Grew1 s (L s ps).2) (ps:List (Int × Int)) (s:Mst):∀ n,Grew1 s (kidF L ps s n).2
 | 0=>Grew1.refl s
 | n+1=>(kidF_grew hL ps s n).trans (hL _ _)
theorem layF_grew:∀ (f:Nat) (s:Mst) (ps:List (Int × Int)),Grew1 s (layF f s ps).2
 | 0,s,_=>Grew1.refl s
 | f+1,s,ps=>by
  rw [layF_succ]
  split
  ·exact s.make_grew _
  ·split
   ·exact s.make_grew _
   ·exact (kidF_grew (fun s ps=>layF_grew f s ps) ps s _).trans (Mst.make_grew _ _)
theorem buildS_grew (s:Mst) (ps:List (Int × Int)):Grew1 s (buildS s ps).2:=by
 unfold buildS
 split
 ·exact layF_grew _ _ _
 ·exact Grew1.refl s
namespace Ixp
theorem loadZ_grew (ix:Ixp) (ps:List (Int × Int)):Grew1 ix.m (ix.loadZ ps).2.m:=by
 unfold loadZ
 repeat' split
 all_goals first
  | exact Grew1.refl _
  | exact buildS_grew _ _
  | exact (buildS_grew _ _).trans (Mst.write_grew _ _ _)
theorem step_grew (p:Fp) (m:Mst):Grew1 m (p.step m).2:=by
 unfold Fp.step
 split
 ·exact Grew1.refl _
 ·exact m.doA_grew _
theorem pickZ_grew (ix:Ixp) (j:Nat):Grew1 ix.m (ix.pickZ j).2.m:=by
 unfold pickZ
 split
 ·exact Grew1.refl _
 ·rename_i q _
  split
  ·exact Grew1.refl _
  ·rename_i p _
   split
   ·dsimp only;rw [(takesL_keeps _ _ _).2.2];show Grew1 ix.m (q.step p ix.m).2.2;rw [(tstep_fr q p ix.m).2.2.1];exact step_grew p ix.m
   ·exact Grew1.refl _
theorem doZ_grew (j:Nat):∀ (n:Nat) (ix:Ixp),Grew1 ix.m (doZ j n ix).m
 | 0,_=>Grew1.refl _
 | n+1,ix=>by
  rw [doZ]
  split
  ·exact pickZ_grew ix j
  ·exact (pickZ_grew ix j).trans (doZ_grew j n _)
theorem invokeZ_m (ix:Ixp) (j:Nat) (k key val:Int):(ix.invokeZ j k key val).m=ix.m:=by
 unfold invokeZ
 split
 ·rfl
 ·split <;> rfl
theorem actZ_grew (ix:Ixp) (z:Int):Grew1 ix.m (ix.actZ z).m:=by
 unfold actZ;dsimp only
 split
 ·exact doZ_grew _ _ _
 ·rw [invokeZ_m];exact Grew1.refl _
theorem fold_grew:∀ (L:List Int) (ix:Ixp),Grew1 ix.m (L.foldl actZ ix).m
 | [],_=>Grew1.refl _
 | z :: L,ix=>(actZ_grew ix z).trans (fold_grew L _)
end Ixp
theorem worldZ_grew (cells:Int) (keys l:List Int):(worldZ cells keys l).m.size=150+cells % 650/\7<=(worldZ cells keys l).m.xs.length:=by
 have h1:=Ixp.loadZ_grew (Ixp.fresh (150+cells % 650) 2 3) (Mp.pairsP (keys.take 20));have h2:=Ixp.fold_grew (l.take 70) (world0 cells keys);have h3:Grew1 (begun (Mst.new (150+cells % 650))) (worldZ cells keys l).m:=h1.trans h2;exact ⟨h3.size,h3.len⟩
end
section
set_option maxRecDepth 20000
theorem reach_p (w:World) (n₀ b:Nat) (v:Value) (s:Mst) (a:Int) (u:Bool) (h:PMem w n₀ b v s) (hu:s.used a=u) :
  Calls Tryz.prog 102 #[.pointer (some ⟨b,0,none⟩),.int .i64 a] w fun e w'=>e=.returned (.bool u)/\PMem w' n₀ b v (s.touch a)/\Td (fun k=>k=b) w w':=by
 obtain ⟨⟨c0,c1,c2,c3,c4⟩,f⟩:=h.opened;have f2:=f 2;have f3:=f 3;have H1:=gh (count_p h (wrap64 (s.count+1)));have H2:=gh (odd_p H1.o (wrap64 (s.odd+1)));obtain ⟨a0,cap,rfl,_⟩:=h.form;have hl:=h.len;have HU:=gh hu;cases u with
 | true=>
  have HE:Hid (s.touch a={ s with count:=wrap64 (s.count+1) }):=gh (by rw [Mst.touch,if_pos hu]);obtain ⟨i1,i2⟩:=Mst.used_iff.1 hu;clear h f hu;go_enter Tryz.func102,Tryz.ntmps102;go_wp2_with (fail);refine (isUsed_p _ n₀ b _ _ a true H1.o HU.o).mono ?_;rintro e w' ⟨rfl,rfl⟩;go_wp2;go_ret;exact ⟨rfl,by rw [HE.o];exact H1.o,Td.setCell _ _ _ rfl⟩
 | false=>
  have HE:Hid (s.touch a={ s with count:=wrap64 (s.count+1),odd:=wrap64 (s.odd+1) }):=gh (by rw [Mst.touch,hu];rfl);have HN:¬ (1<=a/\a<=(s.xs.length:Int)):=fun e=>by rw [Mst.used_iff.2 e] at hu;cases hu
  clear h f hu;clear HN;go_enter Tryz.func102,Tryz.ntmps102;go_wp2_with (fail);refine (isUsed_p _ n₀ b _ _ a false H1.o HU.o).mono ?_;rintro e w' ⟨rfl,rfl⟩;go_wp2;go_ret;exact ⟨rfl,by rw [HE.o];exact H2.o,(Td.setCell (R:=fun k=>k=b) w ⟨b,2,none⟩ _ rfl).trans (Td.setCell (R:=fun k=>k=b) _ ⟨b,3,none⟩ _ rfl) (fun _ h=>h) (fun _ _ h=>h)⟩
theorem read_p (w:World) (n₀ b:Nat) (v:Value) (s:Mst) (a:Int) (h:PMem w n₀ b v s) :
  Calls Tryz.prog 63 #[.pointer (some ⟨b,0,none⟩),.int .i64 a] w fun e w'=>e=.returned (.int .i64 (s.look a))/\PMem w' n₀ b v (s.touch a)/\Td (fun k=>k=b) w w':=by
 have hl:=h.len;have H:=gh h;cases hu:s.used a with
 | true=>
  obtain ⟨j,rfl,hj⟩:=Mst.used_nat hu;obtain ⟨g,cap,z,rfl,hz,hc,_,hgb⟩:=h.cellAt (by decide) hj;rw [Mst.look_succ hz];have HU:=gh hu;have i1:(j:Int) < (s.xs.length:Int):=by omega
  clear hu h hz;go_enter Tryz.func63,Tryz.ntmps63;go_wp2_with (fail);refine (reach_p _ n₀ b _ _ _ true H.o HU.o).mono ?_;rintro e w' ⟨rfl,h1,t1⟩;have c0:=h1.opened.1.1;have c1:=t1.cell hc hgb;have H1:=gh h1;have T1:=gh t1;clear h1 t1 hc;go_wp2;go_ret;exact ⟨rfl,H1.o,T1.o⟩
 | false=>
  rw [Mst.look_none hu];have HU:=gh hu;clear hu h;go_enter Tryz.func63,Tryz.ntmps63;go_wp2_with (fail);refine (reach_p _ n₀ b _ _ _ false H.o HU.o).mono ?_;rintro e w' ⟨rfl,h1,t1⟩;have H1:=gh h1;have T1:=gh t1;clear h1 t1;go_wp2;go_ret;exact ⟨rfl,H1.o,T1.o⟩
theorem write_p (w:World) (n₀ b:Nat) (v:Value) (s:Mst) (a x:Int) (h:PMem w n₀ b v s) :
  Calls Tryz.prog 74 #[.pointer (some ⟨b,0,none⟩),.int .i64 a,.int .i64 x] w fun e w'=>e=.returned (.tuple #[])/\PMem w' n₀ b v (s.write a x)/\Td (Foot b v) w w':=by
 have hl:=h.len;have H:=gh h;cases hu:s.used a with
 | true=>
  obtain ⟨j,rfl,hj⟩:=Mst.used_nat hu;obtain ⟨g,cap,z,rfl,hz,hc,hf,hgb⟩:=h.cellAt (by decide) hj;have HU:=gh hu;have i1:(j:Int) < (s.xs.length:Int):=by omega
  clear hu h hz;go_enter Tryz.func74,Tryz.ntmps74;go_wp2_with (fail);refine (reach_p _ n₀ b _ _ _ true H.o HU.o).mono ?_;rintro e w1 ⟨rfl,h1,t1⟩;have c0:=h1.opened.1.1;have c1:=t1.cell hc hgb;have f1:=(t1.frozen (p:=⟨g,j,none⟩) (World.block_lt_of_cell? _ _ hc) hgb).trans hf;have HP:=gh (put_p hj h1 t1 x);clear h1 t1 hc;go_wp2
  go_end0
  exact ⟨rfl,HP.o⟩
 | false=>
  rw [Mst.write_out hu];have HU:=gh hu;clear hu h;go_enter Tryz.func74,Tryz.ntmps74;go_wp2_with (fail);refine (reach_p _ n₀ b _ _ _ false H.o HU.o).mono ?_;rintro e w1 ⟨rfl,h1,t1⟩;have H1:=gh h1;have T1:=gh (touched_p (v:=v) t1);clear h1 t1;go_wp2
  go_end0
  exact ⟨rfl,H1.o,T1.o⟩
theorem cas_p (w:World) (n₀ b:Nat) (v:Value) (s:Mst) (a old x:Int) (h:PMem w n₀ b v s) :
  Calls Tryz.prog 71 #[.pointer (some ⟨b,0,none⟩),.int .i64 a,.int .i64 old,.int .i64 x] w fun e w'=>e=.returned (.bool (s.did a old))/\PMem w' n₀ b v (s.cas a old x)/\Td (Foot b v) w w':=by
 have hl:=h.len;have H:=gh h;cases hu:s.used a with
 | true=>
  obtain ⟨j,rfl,hj⟩:=Mst.used_nat hu;obtain ⟨g,cap,z,rfl,hz,hc,hf,hgb⟩:=h.cellAt (by decide) hj;rw [Mst.cas,Mst.did_in hz];have HU:=gh hu;have i1:(j:Int) < (s.xs.length:Int):=by omega
  clear hu h hz;cases ho:z == old with
  | true=>
   have ho':(z == old)=true:=ho;go_enter Tryz.func71,Tryz.ntmps71;go_wp2_with (fail);refine (reach_p _ n₀ b _ _ _ true H.o HU.o).mono ?_;rintro e w1 ⟨rfl,h1,t1⟩;have c0:=h1.opened.1.1;have c1:=t1.cell hc hgb;have f1:=(t1.frozen (p:=⟨g,j,none⟩) (World.block_lt_of_cell? _ _ hc) hgb).trans hf;have HP:=gh (put_p hj h1 t1 x);clear h1 t1 hc;go_wp2;go_ret;exact ⟨rfl,HP.o⟩
  | false=>
   go_enter Tryz.func71,Tryz.ntmps71;go_wp2_with (fail);refine (reach_p _ n₀ b _ _ _ true H.o HU.o).mono ?_;rintro e w1 ⟨rfl,h1,t1⟩;have c0:=h1.opened.1.1;have c1:=t1.cell hc hgb;have H1:=gh h1;have T1:=gh (touched_p (v:=(.slice (some ⟨g,0,none⟩) s.xs.length cap)) t1);clear h1 t1 hc;go_wp2;go_ret;exact ⟨rfl,H1.o,T1.o⟩
 | false=>
  rw [Mst.cas,Mst.did_out hu,if_neg (by simp)];have HU:=gh hu;clear hu h;go_enter Tryz.func71,Tryz.ntmps71;go_wp2_with (fail);refine (reach_p _ n₀ b _ _ _ false H.o HU.o).mono ?_;rintro e w1 ⟨rfl,h1,t1⟩;have H1:=gh h1;have T1:=gh (touched_p (v:=v) t1);clear h1 t1;go_wp2;go_ret;exact ⟨rfl,H1.o,T1.o⟩
end
section
open Go.Shelf
attribute [local go_sem] Oper.semAt_some
theorem Mst.look_in {m:Mst} {i:Nat} (h:i < m.xs.length) (z:Int) (e:m.xs[i]? = some z):m.look ((i:Int)+1)=z:=by
 unfold Mst.look Mst.used;rw [if_pos (by simp;omega),List.getD_eq_getElem?_getD,show ((i:Int)+1 - 1).toNat=i by omega,e];rfl
theorem take_drop_step {c d:List Int} {i:Nat} {z:Int} (hc:c[i]? = some z) (hd:i < d.length):(c.take i++d.drop i).set i z=c.take (i+1)++d.drop (i+1):=by
 have hl:i < c.length:=(List.getElem?_eq_some_iff.1 hc).1;have e:(c.take i).length=i:=by rw [List.length_take];omega
 rw [List.set_append_right _ _ (by omega),e,Nat.sub_self,List.take_add_one,hc,List.drop_eq_getElem_cons hd,List.set_cons_zero];simp
theorem take_drop_same {c d:List Int} {i:Nat} {z:Int} (hc:c[i]? = some z) (hd:d[i]? = some z):c.take i++d.drop i=c.take (i+1)++d.drop (i+1):=by
 have hl:i < d.length:=(List.getElem?_eq_some_iff.1 hd).1;have e:d[i]=z:=(List.getElem?_eq_some_iff.1 hd).2;rw [List.take_add_one,hc,List.drop_eq_getElem_cons hl,e];simp
theorem mid_at {c d:List Int} {i:Nat} (hl:i<=c.length):(c.take i++d.drop i)[i]? = d[i]?:=by
 rw [List.getElem?_append_right (by rw [List.length_take];omega),List.length_take,Nat.min_eq_left hl,Nat.sub_self,List.getElem?_drop,Nat.add_zero]
structure Sees (W:World) (y b x mb g:Nat) (cc:Nat) (c:List Int):Prop where
 box:W.heap[y]? = some (.cells #[.pointer (some ⟨b,0,none⟩),.pointer (some ⟨x,0,none⟩)] 39)
 ix:W.cell? ⟨x,3,none⟩=some (.pointer (some ⟨mb,0,none⟩))
 sl:W.cell? ⟨mb,1,none⟩=some (.slice (some ⟨g,0,none⟩) c.length cc)
 cs:∀ j z,c[j]? = some z->W.cell? ⟨g,j,none⟩=some (.int .i64 z)
theorem Sees.turned {W W':World} {y b x mb g cc:Nat} {c:List Int} {R:Nat->Prop} (h:Sees W y b x mb g cc c) (t:Td R W W') (h1:¬ R y) (h2:¬ R x) (h3:¬ R mb) (h4:¬ R g):Sees W' y b x mb g cc c:=
 ⟨t.heap h.box h1,t.cell h.ix h2,t.cell h.sl h3,fun j z e=>t.cell (h.cs j z e) h4⟩
theorem Sees.cells {W:World} {y b x mb g cc:Nat} {c:List Int} (h:Sees W y b x mb g cc c):W.cell? ⟨y,0,none⟩=some (.pointer (some ⟨b,0,none⟩))/\W.cell? ⟨y,1,none⟩=some (.pointer (some ⟨x,0,none⟩)):=by
 have hb:=h.box;simp [World.cell?,hb]
set_option maxRecDepth 100000 in
set_option maxHeartbeats 4000000 in
theorem follow_r (W:World) (n₀ b y x mb g cc:Nat) (v:Value) (m:Mst) (c:List Int) (hm:PMem W n₀ b v m) (hs:Sees W y b x mb g cc c) (hn:n₀<=W.heap.size) (hap:¬ Foot b v y/\¬ Foot b v x/\¬ Foot b v mb/\¬ Foot b v g) (hl:m.xs.length<=c.length) (hz:(c.length:Int)<=m.size) (hcc:c.length<=cc) (hcm:cc<=maxLen) :
  Calls Tryz.prog 40 #[.pointer (some ⟨y,0,none⟩)] W fun e W'=>e=.returned (.tuple #[])/\∃ m',Does 118 layP n₀ b v m' W W'/\m'.xs=c/\m'.size=m.size:=by
 obtain ⟨c0,c1⟩:=hs.cells;obtain ⟨N,hN⟩:∃ N,m.xs.length=N:=⟨_,rfl⟩;obtain ⟨L,hL⟩:∃ L,c.length=L:=⟨_,rfl⟩;have HM:=gh hm;have HS:=gh hs;have HAP:=gh hap;have HL:=gh hL;have HNN:=gh hN;have HZ:=gh hz;have HT:=gh hm.top;have HN:=gh hn;have HC:=gh (And.intro hcc hcm);have U20:∀ X,X=W->Calls Tryz.prog 79 #[.pointer (some ⟨b,0,none⟩)] X fun e w'=>e=.returned (.int .i64 (N:Int))/\X=w':=fun X e=>by rw [e,<- hN];exact used_c W n₀ b v m hm
 have nl:N<=L:=by omega
 clear hm hs hap hL hN hl hz hcc hcm hn;go_enter Tryz.func40,Tryz.ntmps40;go_wp2_with (fail);refine (U20 W rfl).mono ?_;rintro e w' ⟨rfl,rfl⟩;clear U20 c0 c1;go_wp2_with (fail)
 go_loopw [3] (fun vi wr=>∃ (i:Nat) (mi:Mst),vi=.int .i64 (i:Int)/\i<=N/\Hid (PMem wr n₀ b v mi/\mi.xs=c.take i++m.xs.drop i/\mi.size=m.size)/\Hid (Td (Foot b v) W wr)) (fun vi _=>N - (intOf vi).toNat)
 case atStart=>exact ⟨0,m,rfl,Nat.zero_le _,gh ⟨HM.o,by simp,rfl⟩,gh (Td.refl _ _)⟩
 case round=>
  obtain ⟨i,mi,rfl,hi,M,T⟩:=hrel;clear HM;have S:=gh (HS.o.turned T.o HAP.o.1 HAP.o.2.1 HAP.o.2.2.1 HAP.o.2.2.2);obtain ⟨c0,c1⟩:=S.o.cells;have c2:=S.o.ix;have c3:=S.o.sl;rw [HL.o] at c3
  by_cases hiN:i < N
  ·have j1:(i:Int) < (N:Int):=by omega
   have j2:(i:Int) < (L:Int):=by omega
   obtain ⟨z,hz⟩:∃ z,c[i]? = some z:=⟨_,List.getElem?_eq_getElem (by rw [HL.o];omega)⟩;obtain ⟨o,ho⟩:∃ o,m.xs[i]? = some o:=⟨_,List.getElem?_eq_getElem (by rw [HNN.o];omega)⟩;have c4:=S.o.cs i z hz;have lk:mi.look ((i:Int)+1)=o:=Mst.look_in (by rw [M.o.2.1,List.length_append,List.length_take,List.length_drop,HNN.o,HL.o];omega) o (by rw [M.o.2.1,mid_at (by rw [HL.o];omega)];exact ho);have j3:(i:Int) < 65536:=by have:=HT.o;have:=HZ.o;have:=HL.o;omega
   have wi:wrap64 ((i:Int)+1)=(i:Int)+1:=by unfold wrap64;omega
   have WI:=gh wi;clear j3;have i0:decide ((i:Int) < 0)=false:=by simp
   have i1:decide ((L:Int)<=(i:Int))=false:=by simp;omega
   have HZZ:=gh hz;have HO:=gh ho;have LK:=gh lk;obtain ⟨V,hV⟩:∃ V,wr.drew=V:=⟨_,rfl⟩;have kV:Kept wr V:=by rw [<- hV];exact Kept.drew _
   have x0:∀ u:Wd (fun U=>U=V),u.w.cell? ⟨y,0,none⟩=some (.pointer (some ⟨b,0,none⟩)):=fun u=>by rw [u.ok];exact kV.cell c0 id
   have x1:∀ u:Wd (fun U=>U=V),u.w.cell? ⟨y,1,none⟩=some (.pointer (some ⟨x,0,none⟩)):=fun u=>by rw [u.ok];exact kV.cell c1 id
   have x2:∀ u:Wd (fun U=>U=V),u.w.cell? ⟨x,3,none⟩=some (.pointer (some ⟨mb,0,none⟩)):=fun u=>by rw [u.ok];exact kV.cell c2 id
   have x3:∀ u:Wd (fun U=>U=V),u.w.cell? ⟨mb,1,none⟩=some (.slice (some ⟨g,0,none⟩) L cc):=fun u=>by rw [u.ok];exact kV.cell c3 id
   have x4:∀ u:Wd (fun U=>U=V),u.w.cell? ⟨g,i,none⟩=some (.int .i64 z):=fun u=>by rw [u.ok];exact kV.cell c4 id
   have HV:=gh hV;have KV:=gh kV;clear hz ho lk hV kV;go_wp2_with (fail);refine region_wide [0,1,2,3,4,5,7,8,9,10,11,12,13,14,15,16,17,18,19,6,20] (fun U=>U=V) (by kernel_rfl) (by kernel_rfl) (by rw [HV.o]) (fun _=>?_);rw [HV.o]
   repeat (refine pq rfl rfl ?_;go_big_quiet_step (fail);refine wpQuiet_nil ?_)
   refine pl rfl rfl ?_;gi_wp2_with (fail);refine ⟨trivial,?_⟩;refine (callsIn_wide.2 (look_p V n₀ b v mi _ (M.o.1.kept KV.o))).mono ?_;rintro e w' ⟨rfl,rfl⟩
   first | rw [LK.o] | (rw [wi,LK.o])
   gi_wp2_with (fail);refine ⟨Wd.mem rfl,?_⟩
   repeat (refine pq rfl rfl ?_;go_big_quiet_step (fail);refine wpQuiet_nil ?_)
   refine perm_done ?_;clear x0 x1 x2 x3 x4
   by_cases hoz:o=z
   ·have g1:(o != z)=false:=by simp [hoz]
    have HOZ:=gh hoz;clear hoz;go_wp2;clear wi;rw [WI.o];refine ⟨⟨i+1,mi,by simp,by omega,gh ⟨M.o.1.kept KV.o,by rw [M.o.2.1];exact take_drop_same HZZ.o (by rw [<- HOZ.o];exact HO.o),M.o.2.2⟩,gh (Kept.behind T.o KV.o)⟩,?_⟩;simp only [intOf];omega
   ·have g1:(o != z)=true:=by simp [hoz]
    clear hoz;obtain ⟨V2,hV2⟩:∃ V2,V.drew=V2:=⟨_,rfl⟩;have kV2:Kept wr V2:=by rw [<- hV2];exact KV.o.trans (Kept.drew _)
    have x0:∀ u:Wd (fun U=>U=V2),u.w.cell? ⟨y,0,none⟩=some (.pointer (some ⟨b,0,none⟩)):=fun u=>by rw [u.ok];exact kV2.cell c0 id
    have x1:∀ u:Wd (fun U=>U=V2),u.w.cell? ⟨y,1,none⟩=some (.pointer (some ⟨x,0,none⟩)):=fun u=>by rw [u.ok];exact kV2.cell c1 id
    have x2:∀ u:Wd (fun U=>U=V2),u.w.cell? ⟨x,3,none⟩=some (.pointer (some ⟨mb,0,none⟩)):=fun u=>by rw [u.ok];exact kV2.cell c2 id
    have x3:∀ u:Wd (fun U=>U=V2),u.w.cell? ⟨mb,1,none⟩=some (.slice (some ⟨g,0,none⟩) L cc):=fun u=>by rw [u.ok];exact kV2.cell c3 id
    have x4:∀ u:Wd (fun U=>U=V2),u.w.cell? ⟨g,i,none⟩=some (.int .i64 z):=fun u=>by rw [u.ok];exact kV2.cell c4 id
    have HV2:=gh hV2;have KV2:=gh kV2;clear hV2 kV2;go_wp2_with (fail);refine region_last [0,1,2,3,4,5,6,7,8,9,10,11,12,13,14,15,16,17,18] 19 (fun U=>U=V2) (by kernel_rfl) (by kernel_rfl) (by rw [HV2.o]) (fun _=>?_);rw [HV2.o]
    repeat (refine lq rfl rfl ?_;go_big_quiet_step (fail);refine wpQuiet_nil ?_)
    refine lz rfl ?_;gi_wp2_with (fail);refine ⟨trivial,?_⟩;refine (callsIn_wide.2 (write_p V2 n₀ b v mi _ z (M.o.1.kept KV2.o))).mono ?_
    try rw [wi]
    rintro e W3 ⟨rfl,m3,t3⟩;have M3:=gh m3;have T3:=gh t3;clear m3 t3 x0 x1 x2 x3 x4;gi_wp2_with (fail);refine last_done ?_;go_wp2;clear wi;rw [WI.o];refine ⟨⟨i+1,_,by simp,by omega,gh ⟨M3.o,by
     rw [Mst.write_in (by rw [M.o.2.1,List.length_append,List.length_take,List.length_drop,HNN.o,HL.o];omega)];show (mi.xs.set i z)=_;rw [M.o.2.1];exact take_drop_step HZZ.o (by rw [HNN.o];exact hiN),by rw [(Mst.write_grew _ _ _).size];exact M.o.2.2⟩,gh (T.o.trans (KV2.o.then T3.o) (fun _ e=>e) (fun _ _ e=>e))⟩,?_⟩
    simp only [intOf];omega
  ·have j1:¬ (i:Int) < (N:Int):=by omega
   obtain rfl:i=N:=by omega
   have MX:Hid (mi.xs=c.take i++[]):=gh (by rw [M.o.2.1,List.drop_of_length_le (by rw [HNN.o];omega)])
   by_cases hiL:i < L
   ·have j2:(i:Int) < (L:Int):=by omega
    obtain ⟨V,hV⟩:∃ V,wr.drew=V:=⟨_,rfl⟩;have kV:Kept wr V:=by rw [<- hV];exact Kept.drew _
    have x0:∀ u:Wd (fun U=>U=V),u.w.cell? ⟨y,0,none⟩=some (.pointer (some ⟨b,0,none⟩)):=fun u=>by rw [u.ok];exact kV.cell c0 id
    have x1:∀ u:Wd (fun U=>U=V),u.w.cell? ⟨y,1,none⟩=some (.pointer (some ⟨x,0,none⟩)):=fun u=>by rw [u.ok];exact kV.cell c1 id
    have x2:∀ u:Wd (fun U=>U=V),u.w.cell? ⟨x,3,none⟩=some (.pointer (some ⟨mb,0,none⟩)):=fun u=>by rw [u.ok];exact kV.cell c2 id
    have x3:∀ u:Wd (fun U=>U=V),u.w.cell? ⟨mb,1,none⟩=some (.slice (some ⟨g,0,none⟩) L cc):=fun u=>by rw [u.ok];exact kV.cell c3 id
    have HV:=gh hV;have KV:=gh kV;have i0:decide ((i:Int) < 0)=false:=by simp
    have i1:decide ((L:Int) < (i:Int))=false:=by simp;omega
    have i2:decide ((cc:Int) < (L:Int))=false:=by have:=HC.o;have:=HL.o;simp;omega
    clear hV kV;go_wp2_with (fail);refine region_last [0,1,2,3,4,5,6,7,8,9,10,11,12,13,14,15] 16 (fun U=>U=V) (by kernel_rfl) (by kernel_rfl) (by rw [HV.o]) (fun _=>?_);rw [HV.o]
    repeat (refine lq rfl rfl ?_;go_big_quiet_step (fail);refine wpQuiet_nil ?_)
    have i3:¬ cc=i:=by have:=HC.o;have:=HL.o;omega
    obtain ⟨ws,hws⟩:∃ ws,c.drop i=ws:=⟨_,rfl⟩;have hwl:ws.length=L - i:=by rw [<- hws,List.length_drop,HL.o]
    have HF:Hid (mi.fits ws.length=true):=gh (by
     unfold Mst.fits;rw [hwl,MX.o,List.append_nil,List.length_take,M.o.2.2]
     have:=HZ.o
     have:=HL.o
     simp;omega)
    have MK:=make_p V n₀ b v mi (some ⟨g,i,none⟩) ws (cc - i) (M.o.1.kept KV.o) (by have:=HN.o;have:=T.o.size;have:=KV.o.size;omega) (.inr ⟨g,i,rfl,fun k z e=>KV.o.cell (S.o.cs _ z (by rw [<- hws,List.getElem?_drop] at e;exact e)) id⟩) (by have:=HC.o;have:=HL.o;omega) (fun _ ad e=>by cases e;exact fun e=>HAP.o.2.2.2 (.inl e));rw [hwl] at MK;have HMK:=gh MK;have HWS:=gh hws;have HWL:=gh hwl;clear MK hws hwl x0 x1 x2 x3;refine lz rfl ?_;gi_wp2_with (fail);refine ⟨trivial,?_⟩;refine (callsIn_wide.2 HMK.o).mono ?_;rintro e W3 ⟨rfl,D3⟩;have D3':=gh D3;clear D3 HMK;gi_wp2_with (fail);refine last_done ?_;go_wp2
    go_end0
    obtain ⟨v',m3,t3,n3⟩:=D3'.o;refine ⟨rfl,mi.make ws,⟨v',m3,T.o.trans (KV.o.then t3) (fun _ e=>e) (fun _ _ e=>e),fun k hk=>(n3 k hk).imp id (fun h=>by have:=T.o.size;have:=KV.o.size;omega)⟩,?_,?_⟩
    ·unfold Mst.make;rw [if_pos HF.o];show mi.xs++ws=c;rw [MX.o,List.append_nil,<- HWS.o,List.take_append_drop]
    ·rw [(Mst.make_grew _ _).size];exact M.o.2.2
   ·have j2:¬ (i:Int) < (L:Int):=by omega
    go_wp2
    go_end0
    exact ⟨rfl,mi,.same M.o.1 T.o,by rw [MX.o,List.append_nil,List.take_of_length_le (by have:=HL.o;omega)],M.o.2.2⟩
end
section
theorem ptO:PT 94 27:=⟨Tryz.underlying94,by kernel_rfl⟩
def ownF (s:Mst):Nat->Int->List (Int × Int)
 | 0,_=>[]
 | f+1,x=>(slotsL s x).flatMap fun p=>((atN s x:Int),p.2) :: ownF s f (s.logicZ p.2)
def oneO (s:Mst) (f:Nat) (a:Int) (p:Int × Int):List (Int × Int):=(a,p.2) :: ownF s f (s.logicZ p.2)
theorem ownF_succ (s:Mst) (f:Nat) (x:Int):ownF s (f+1) x=(slotsL s x).flatMap (oneO s f (atN s x)):=rfl
theorem ownF_tgt {s:Mst} {f:Nat} {x:Int} (h:kd (tgt s x)=3):ownF s f (tgt s x)=ownF s f x:=by
 cases f with
 | zero=>rfl
 | succ f=>
  rw [ownF_succ,ownF_succ,slotsL_tgt h]
  have:atN s (tgt s x)=atN s x:=by unfold atN;rw [tgt_tgt h]
  rw [this]
theorem ownF_none {s:Mst} {f:Nat} {x:Int} (h:kd (tgt s x)≠3):ownF s f x=[]:=by
 cases f with
 | zero=>rfl
 | succ f=>rw [ownF_succ,slotsL,if_neg h];rfl
theorem ownF_slots (s:Mst):∀ (f:Nat) (x:Int),(ownF s f x).map Prod.snd=(spotsF s f x).map Prod.fst
 | 0,_=>rfl
 | f+1,x=>by
  rw [ownF_succ,spotsF_succ,List.map_flatMap,List.map_flatMap];congr 1;funext p;simp only [oneO,oneF,List.map_cons,ownF_slots s f]
theorem ownF_len (s:Mst) (f:Nat) (x:Int):(ownF s f x).length=(spotsF s f x).length:=by
 have:=congrArg List.length (ownF_slots s f x)
 simpa using this
theorem DM.other {w w':World} {b n₀:Nat} {s:Mst} {v:Value} {E:TypeId} {ys:List (Int × Int)} (h:DM w b s) (hr:PRow w n₀ E v ys) (h1:E≠126) (h2:E≠2) (t:Td (fun k=>v.ownBlock=some k) w w'):DM w' b s:=by
 obtain ⟨n,u,s0,e,hd⟩:=h;refine ⟨n,u,s0,e,hd.turned t (fun k hk e=>?_)⟩;obtain ⟨c,hc⟩:=hr.typed k e;obtain ⟨c',hc' | hc'⟩:=hd.types k hk
 ·rw [hc] at hc';simp at hc';exact h1 hc'.2
 ·rw [hc] at hc';simp at hc';exact h2 hc'.2
structure Grown (n₀:Nat) (w:World) (v:Value) (ys:List (Int × Int)) (w':World) (v':Value):Prop where
 row:PRow w' n₀ 27 v' ys
 turned:Td (fun k=>v.ownBlock=some k) w w'
 new:∀ k,v'.ownBlock=some k->v.ownBlock=some k∨w.heap.size<=k
theorem Grown.trans {n₀:Nat} {w w1 w2:World} {v v1 v2:Value} {ys zs:List (Int × Int)} (h:Grown n₀ w v ys w1 v1) (h':Grown n₀ w1 v1 zs w2 v2):Grown n₀ w v zs w2 v2:=
 ⟨h'.row,h.turned.trans h'.turned (fun _ e=>e) (fun k hk e=>(h.new k e).elim id (fun h=>by omega)),fun k hk=>(h'.new k hk).elim (h.new k) (fun h2=>.inr (by have:=h.turned.size;omega))⟩
def BelD (f:Nat):Prop:=∀ (w:World) (n₀ b:Nat) (s:Mst) (_:DM w b s) (_:s.ok) (x:Int) (_:Wf s f x) (v:Value) (ys:List (Int × Int)) (_:PRow w n₀ 27 v ys) (_:n₀<=w.heap.size) (_:ys.length+(spotsF s f x).length<=70001),
 Calls Tryz.prog 93 #[.pointer (some ⟨b,0,none⟩),.int .i64 x,v] w fun e w'=>∃ v',e=.returned v'/\Grown n₀ w v (ys++ownF s f x) w' v'
set_option maxHeartbeats 4000000 in
set_option maxRecDepth 20000 in
theorem bel_inner (f:Nat) (ih:BelD f) (w:World) (n₀ b:Nat) (s:Mst) (h:DM w b s) (ho:s.ok) (x:Int) (hw:Wf s (f+1) x) (k3:kd x=3) (v:Value) (ys:List (Int × Int)) (hr:PRow w n₀ 27 v ys) (hn:n₀<=w.heap.size) (hl:ys.length+(spotsF s (f+1) x).length<=70001) :
  Calls Tryz.prog 93 #[.pointer (some ⟨b,0,none⟩),.int .i64 x,v] w fun e w'=>∃ v',e=.returned v'/\Grown n₀ w v (ys++ownF s (f+1) x) w' v':=by
 have e0:tgt s x=x:=by rw [tgt,if_neg (by rw [k3];decide)]
 obtain ⟨hwh,hwk⟩:=hw;obtain ⟨p,hp⟩:∃ p,ad x=p:=⟨_,rfl⟩;have pr:=ad_range x;rw [hp] at pr;obtain ⟨a,rfl⟩:∃ a:Nat,p=(a:Int):=⟨p.toNat,by omega⟩;have a2:(a:Int)<=65536:=pr.2;have hd:=hwh.deg (by rw [e0];exact k3);rw [e0,hp] at hd;obtain ⟨d,hd'⟩:∃ d:Nat,s.look (a:Int)=(d:Int):=⟨(s.look a).toNat,by omega⟩;rw [hd'] at hd;obtain ⟨d2,d3⟩:=hd;have eA:atN s x=a:=by unfold atN;rw [e0,hp];omega
 have eD:degN s x=d:=by unfold degN;rw [e0,hp,hd'];omega
 have HLA:Hid (∀ k,k < d->(slotsL s x)[k]? = some ((k:Int),childS a d k)):=gh (fun k hk=>by
  have:=slotsL_at (s:=s) (x:=x) (by rw [e0];exact k3) (k:=k) (by rw [eD];exact hk)
  rwa [eA,eD] at this)
 have HLL:Hid ((slotsL s x).length=d):=gh (by rw [slotsL_len (by rw [e0];exact k3),eD]);rw [ownF_succ,eA];have hlo:ys.length+((slotsL s x).flatMap (oneO s f a)).length<=70001:=by
  have:=ownF_len s (f+1) x
  rw [ownF_succ,eA] at this;omega
 have H:=gh h;have HO:=gh ho;have HX:=gh hwh.i64;have HP:=gh hp;have HD:=gh hd';have K3:=gh k3;have IH:=gh ih;have HWK:=gh hwk;have HL:=gh hlo;have HN:=gh hn;have G0:Hid (Grown n₀ w v ys w v):=gh ⟨hr,Td.refl _ _,fun _ e=>.inl e⟩;obtain ⟨la,lc,hv,_⟩:=hr.reads;obtain ⟨M,hM⟩:∃ M,ys.length=M:=⟨_,rfl⟩;rw [hM] at hv;subst hv;clear h ho hwh hp hd' k3 ih hwk hl hlo hn hr hM pr e0 eA eD;go_enter Tryz.func93,Tryz.ntmps93;go_wp2_with (fail);refine (ak_d _ x a HX.o HP.o).mono ?_;rintro e w' ⟨rfl,rfl⟩;go_wp2_with (fail);refine (kk_d _ x 3 HX.o K3.o).mono ?_;rintro e w' ⟨rfl,rfl⟩;go_wp2_with (fail);refine (lk_d _ b s a d H.o HD.o).mono ?_;rintro e w' ⟨rfl,rfl⟩;go_wp2
 go_loopw [2,9,10] (fun u i _ wr=>∃ (k:Nat) (us:List (Int × Int)),k<=d/\i=.int .i64 (k:Int)/\Hid (us=ys++((slotsL s x).take k).flatMap (oneO s f a))/\Hid (Grown n₀ w (.slice la M lc) us wr u)) (fun _ i _ _=>d - (intOf i).toNat)
 case atStart=>exact ⟨0,ys,by omega,by simp,gh (by simp),G0⟩
 case round=>
  obtain ⟨k,us,hk,rfl,HY,HG⟩:=hrel;have DW:=gh (H.o.other G0.o.row (by decide) (by decide) HG.o.turned);have NW:Hid (n₀<=wr.heap.size):=gh (Nat.le_trans HN.o HG.o.turned.size)
  by_cases hkn:k < d
  ·have j1:(k:Int) < (d:Int):=by omega
   have hcz:=gh (childZ_in (n:=a) (d:=(d:Int)) (i:=k) (by omega) (by omega) (by omega) (by omega) (by omega) (by omega));obtain ⟨sl,hsl⟩:∃ sl,(a:Int)+4+(d:Int)+k=sl:=⟨_,rfl⟩;rw [hsl] at hcz;obtain ⟨z,hz⟩:∃ z,s.logicZ sl=z:=⟨_,rfl⟩;have HZ:=gh hz;have hat:=HLA.o k hkn;have hat':(slotsL s x)[k]? = some ((k:Int),sl):=by rw [hat];unfold childS;rw [hsl]
   have hone:oneO s f a ((k:Int),sl)=((a:Int),sl) :: ownF s f z:=by rw [oneO,hz]
   have hwf:Wf s f z:=by
    have:=HWK.o ((k:Int),sl) (List.mem_of_getElem? hat')
    rwa [hz] at this
   have HWF:=gh hwf;have HNX:Hid (us++[((a:Int),sl)]++ownF s f z=ys++((slotsL s x).take (k+1)).flatMap (oneO s f a)):=gh (by rw [flat_take _ hat',hone,HY.o];simp);have hlen:(ys++((slotsL s x).take (k+1)).flatMap (oneO s f a)).length<=70001:=by
    have:=flat_take_le (oneO s f a) (slotsL s x) (k+1)
    rw [List.length_append]
    have:=HL.o
    omega
   rw [<- HNX.o,List.length_append,List.length_append] at hlen;have L2:Hid ((us++[((a:Int),sl)]).length+(spotsF s f z).length<=70001):=gh (by rw [List.length_append,<- ownF_len];exact hlen);have L3:Hid (us.length<=1000000):=gh (by omega);obtain ⟨ul,uc,hu,_⟩:=HG.o.row.reads;obtain ⟨K,hK⟩:∃ K,us.length=K:=⟨_,rfl⟩;rw [hK] at hu;subst hu;clear hz hat hat' hone hwf hlen hsl hK G0;go_wp2_with (fail);refine (child_r _ a d k sl hcz.o).mono ?_;rintro e w' ⟨rfl,rfl⟩;go_wp2_with (at_builtin;refine Stop.out ?_);refine ⟨?_⟩;have HRA:=gh (HG.o.row.kept (Kept.alloc (Kept.refl wr) (.cells #[.int .i64 (a:Int),.int .i64 sl] 27)));have HNW:Hid ((wr.alloc (.cells #[.int .i64 (a:Int),.int .i64 sl] 27)).heap[wr.heap.size]? = some (.cells #[.int .i64 (a:Int),.int .i64 sl] 27)):=gh (heap_new _ _);refine wpList_append_pair ptO rfl _ _ rfl n₀ (.slice ul K uc) us (us++[((a:Int),sl)]) rfl HRA.o wr.heap.size a sl rfl HNW.o L3.o (by have:=NW.o;simp;omega) rfl ?_;intro v3 W3 hown hg hat;have G3:Hid (Grown n₀ wr (.slice ul K uc) (us++[((a:Int),sl)]) W3 v3):=gh ⟨hown,Kept.then (Td.alloc (fun _=>False) wr _) (Td.of_grownBy (R:=fun k=>(Value.slice ul K uc).ownBlock=some k) hg (fun _ h=>h)),fun k hk=>hat.elim (fun e=>.inl (by rw [<- e];exact hk)) (fun e=>.inr (by rw [e] at hk;cases hk;simp))⟩;have G4:=gh (HG.o.trans G3.o);have D3:=gh (DW.o.other HG.o.row (by decide) (by decide) G3.o.turned);clear hown hg hat HRA HNW;go_wp2_with (fail);refine (logic_d _ b s sl z D3.o HO.o HZ.o).mono ?_;rintro e w' ⟨rfl,rfl⟩;go_wp2_with (fail);refine (IH.o _ n₀ b s D3.o HO.o z HWF.o v3 _ G3.o.row (Nat.le_trans NW.o G3.o.turned.size) L2.o).mono ?_;rintro e W5 ⟨v5,rfl,g5⟩;have G5:=gh (G4.o.trans g5);rw [HNX.o] at G5;clear g5;go_wp2;exact ⟨⟨k+1,_,by omega,by simp,gh rfl,G5⟩,by simp [intOf];omega⟩
  ·have hkn':k=d:=by omega
   subst hkn';have j1:¬ ((k:Int) < (k:Int)):=by omega
   have HE:Hid (us=ys++(slotsL s x).flatMap (oneO s f a)):=gh (by rw [HY.o,List.take_of_length_le (by rw [HLL.o];omega)]);go_wp2;go_ret;exact ⟨_,rfl,by rw [<- HE.o];exact HG.o⟩
set_option maxHeartbeats 1000000 in
theorem bel_d:∀ f,BelD f
 | 0=>fun _ _ _ _ _ _ _ h=>h.elim
 | f+1=>by
  have ih:=bel_d f;intro w n₀ b s h ho x hw v ys hr hn hl;obtain ⟨k,hk⟩:∃ k,kd x=k:=⟨_,rfl⟩
  by_cases k3:k=3
  ·exact bel_inner f ih w n₀ b s h ho x hw (by rw [hk,k3]) v ys hr hn hl
  obtain ⟨p,hp⟩:∃ p,ad x=p:=⟨_,rfl⟩;have H:=gh h;have HX:=gh hw.1.i64;have HP:=gh hp;have HK:=gh hk;have HR:=gh hr;obtain ⟨la,lc,hv,_⟩:=hr.reads;obtain ⟨M,hM⟩:∃ M,ys.length=M:=⟨_,rfl⟩;rw [hM] at hv
  by_cases k4:k=4
  ·have h3:=hw.1.tg (by rw [hk];exact k4);have e0:tgt s x=s.look p:=by rw [tgt,if_pos (by rw [hk];exact k4),hp]
   obtain ⟨z,hz⟩:∃ z,s.look p=z:=⟨_,rfl⟩;have HZ:=gh hz;have hw2:=hw.down ho h3;have HS:Hid (Calls Tryz.prog 93 #[.pointer (some ⟨b,0,none⟩),.int .i64 z,v] w fun e w'=>∃ v',e=.returned v'/\Grown n₀ w v (ys++ownF s (f+1) x) w' v'):=gh (by
    rw [<- ownF_tgt h3];rw [e0,hz] at hw2 h3 ⊢;refine bel_inner f ih w n₀ b s h ho z hw2 h3 v ys hr hn ?_;rw [show spotsF s (f+1) z=spotsF s (f+1) x by rw [<- hz,<- e0];exact spotsF_tgt (by rw [e0,hz];exact h3)];exact hl)
   subst k4;subst hv;clear h ho hw hl hk hp hz e0 h3 hw2 ih k3 hr hM;go_enter Tryz.func93,Tryz.ntmps93;go_wp2_with (fail);refine (ak_d _ x p HX.o HP.o).mono ?_;rintro e w' ⟨rfl,rfl⟩;go_wp2_with (fail);refine (kk_d _ x 4 HX.o HK.o).mono ?_;rintro e w' ⟨rfl,rfl⟩;go_wp2_with (fail);refine (lk_d _ b s p z H.o HZ.o).mono ?_;rintro e w' ⟨rfl,rfl⟩;go_wp2_with (fail);refine HS.o.mono ?_;rintro e W1 ⟨v,rfl,g1⟩;have G1:=gh g1;clear g1 HS;go_wp2;go_ret;exact ⟨_,rfl,G1.o⟩
  ·have HE:=gh (ownF_none (s:=s) (f:=f+1) (x:=x) (by rw [tgt,if_neg (by rw [hk];exact k4),hk];exact k3));have g1:(k == 4)=false:=by simp [k4]
   have g2:(k == 3)=false:=by simp [k3]
   subst hv;clear h ho hw hl hk hp ih k3 k4 hr hM;go_enter Tryz.func93,Tryz.ntmps93;go_wp2_with (fail);refine (ak_d _ x p HX.o HP.o).mono ?_;rintro e w' ⟨rfl,rfl⟩;go_wp2_with (fail);refine (kk_d _ x k HX.o HK.o).mono ?_;rintro e w' ⟨rfl,rfl⟩;go_wp2;go_ret;exact ⟨_,rfl,by rw [HE.o,List.append_nil];exact HR.o,Td.refl _ _,fun _ e=>.inl e⟩
def ownL (s:Mst):List (Int × Int):=(1,6) :: ownF s (fuel s) (s.logicZ 6)
set_option maxHeartbeats 1000000 in
theorem slots_d (w:World) (b:Nat) (s:Mst) (h:DM w b s) (ho:s.ok) (hs:soundB s=true) :
  Calls Tryz.prog 54 #[.pointer (some ⟨b,0,none⟩)] w (PSliced 27 (ownL s) w):=by
 have hl:(spotsF s (fuel s) (s.logicZ 6)).length<=70000:=by
  have:=spotsL_len ho hs
  unfold spotsL at this
  first
  | exact Nat.le_trans (by simp) this
  | (simp at this;omega)
 obtain ⟨z,hz⟩:∃ z,s.logicZ 6=z:=⟨_,rfl⟩;have B:=fun W v (hd:DM W b s) (hr:PRow W w.heap.size 27 v [((1:Int),(6:Int))]) hn=>bel_d (fuel s) W w.heap.size b s hd ho z (by rw [<- hz];exact wf_root ho hs) v _ hr hn (by rw [<- hz];simp;omega);have HB:=gh B;have H:=gh h;have HO:=gh ho;have HZ:=gh hz;have HE:Hid (ownL s=[((1:Int),(6:Int))]++ownF s (fuel s) z):=gh (by rw [ownL,hz];rfl);clear h ho hs hl hz B;go_enter Tryz.func54,Tryz.ntmps54;go_wp2_with (fail);refine (logic_d _ b s 6 z H.o HO.o HZ.o).mono ?_;rintro e w' ⟨rfl,rfl⟩;go_wp2_with (fail);refine (HB.o _ _ (H.o.kept (Td.alloc _ _ _)) ⟨rfl,.inr ⟨w.heap.size,1,_,rfl,Nat.le_refl _,heap_new _ _,Nat.le_refl _,by unfold maxLen;omega,rfl,rfl⟩⟩ (by simp)).mono ?_;rintro e W2 ⟨v2,rfl,g2⟩;have G2:=gh g2;clear g2 HB;go_wp2;go_ret;exact ⟨_,rfl,by rw [HE.o];exact G2.o.row,(show Kept w _ from Td.alloc _ _ _).own (fun i hi=>by simp [Value.ownBlock] at hi;omega) G2.o.turned⟩
end
section
theorem ownL_len {s:Mst} (ho:s.ok) (hs:soundB s=true):1<=(ownL s).length/\(ownL s).length<=70001:=by
 have h1:=spotsL_len ho hs;have h2:=ownF_len s (fuel s) (s.logicZ 6);unfold spotsL at h1;unfold ownL;rw [List.length_cons,h2];refine ⟨by omega,?_⟩
 first
 | (simp at h1;omega)
 | omega
theorem info56:(Tryz.prog.info? 27).map (·.size)=some 2:=by kernel_rfl
set_option maxHeartbeats 1000000 in
theorem slot_d (w:World) (b:Nat) (s:Mst) (h:DM w b s) (ho:s.ok) (hs:soundB s=true) (n:Int) :
  Calls Tryz.prog 11 #[.pointer (some ⟨b,0,none⟩),.int .i64 n] w fun e w'=>∃ p,p ∈ ownL s/\e=.returned (.agg #[.int .i64 p.1,.int .i64 p.2])/\Kept w w':=by
 obtain ⟨l1,l2⟩:=ownL_len ho hs;obtain ⟨W0,hW0⟩:∃ W0,w.alloc (.cells #[.int .i64 0,.int .i64 0] 27)=W0:=⟨_,rfl⟩;have k0:Kept w W0:=by rw [<- hW0];exact Td.alloc _ _ _
 have bo:W0.heap[w.heap.size]? = some (.cells #[.int .i64 0,.int .i64 0] 27):=by rw [<- hW0];exact heap_new _ _
 have S:=slots_d W0 b s (h.kept k0) ho hs;obtain ⟨L,hL⟩:∃ L,(ownL s).length=L:=⟨_,rfl⟩;rw [hL] at l1 l2;obtain ⟨i,hi⟩:∃ i:Nat,n % (L:Int)=(i:Int):=⟨(n % (L:Int)).toNat,by have:=Int.emod_nonneg n (b:=(L:Int)) (by omega);omega⟩;have hiL:i < L:=by have:=Int.emod_lt_of_pos n (b:=(L:Int)) (by omega);omega
 have C:=fun X=>hi ▸ cut_g X n (L:Int) (by omega) (by omega);obtain ⟨p,hp⟩:∃ p,(ownL s)[i]? = some p:=⟨_,List.getElem?_eq_getElem (by rw [hL];exact hiL)⟩;have HW0:=gh hW0;have K0:=gh k0;have BO:=gh bo;have HS:=gh S;have HP:=gh hp;have HL:=gh hL;clear h ho hs hW0 k0 bo S hp hL l2 hi;go_enter Tryz.func11,Tryz.ntmps11;go_wp2_with (fail);rw [HW0.o];refine HS.o.mono ?_;rintro e W1 ⟨v,rfl,hr,k1⟩;obtain ⟨a,cap,hv,hrd,hc,_,_,_⟩:=hr.reads;rw [HL.o] at hv hc;subst hv;obtain ⟨bl,off,rfl,hb,c0,c1⟩:=hrd.at HP.o;have c2:W1.cell? ⟨bl,off+i * 2+1,none⟩=some (.int .i64 p.2):=by rw [Nat.add_assoc];exact c1
 have bo1:=k1.heap BO.o id;have hne:bl≠w.heap.size:=fun e=>by
  obtain ⟨c,hc⟩:=hr.typed bl (by rfl)
  have:=hr.lt bl (by rfl)
  have:=(Array.getElem?_eq_some_iff.1 BO.o).1
  omega
 have d0:W1.cell? ⟨w.heap.size,0,none⟩=some (.int .i64 0):=by simp [World.cell?,bo1]
 have d1:W1.cell? ⟨w.heap.size,1,none⟩=some (.int .i64 0):=by simp [World.cell?,bo1]
 have f0:W1.frozen? ⟨w.heap.size,0,none⟩=false:=by simp [World.frozen?,bo1]
 have f1:W1.frozen? ⟨w.heap.size,1,none⟩=false:=by simp [World.frozen?,bo1]
 have i0:decide ((i:Int) < 0)=false:=by simp
 have i1:decide ((L:Int)<=(i:Int))=false:=by simp;omega
 have BO1:=gh bo1;have K1:=gh (K0.o.trans k1);clear hr hrd k1 bo1 HS;go_wp2_with (fail);refine (C W1).mono ?_;rintro e w' ⟨rfl,rfl⟩;go_wp2;have hq:((W1.setCell ⟨w.heap.size,0,none⟩ (.int .i64 p.1)).setCell ⟨w.heap.size,1,none⟩ (.int .i64 p.2)).heap[w.heap.size]? = some (.cells #[.int .i64 p.1,.int .i64 p.2] 27):=by
  have:=BO1.o
  simp [World.setCell,Array.getElem?_modify,this]
 refine bodyPost_ret (results_cell_row rfl _ _ w.heap.size 27 #[.int .i64 p.1,.int .i64 p.2] _ _ rfl hq Tryz.underlying27 rfl info56) rfl ?_;exact ⟨p,List.mem_of_getElem? HP.o,rfl,K1.o.own (fun i hi=>Nat.le_of_eq hi.symm) ((Td.setCell (R:=fun k=>k=w.heap.size) _ _ _ rfl).trans (Td.setCell (R:=fun k=>k=w.heap.size) _ _ _ rfl) (fun _ e=>e) (fun _ _ e=>e))⟩
end
section
set_option maxRecDepth 20000
structure Pk where
 n:Int
 s:Int
 d:Int
 w:Int
namespace Pk
end Pk
end
section
set_option maxRecDepth 20000
attribute [local go_sem] Oper.semAt_some
structure Hp where
 n:Int
 a:Int
 g:Int
 o:Int
 s:Int
 p:Int
 w:Int
namespace Hp
def outZ (z:Int):Int:=if z=0 then 1 else 2
def placeZ (z:Int):Int:=if z=1 then 3 else 2
end Hp
theorem of_q (W:World) (k a r:Int) (e1:Rf.ofZ k a=r):Calls Tryz.prog 41 #[.int .i64 k,.int .i64 a] W fun e W'=>e=.returned (.int .i64 r)/\W=W':=by
 subst e1;refine (Rf.of_c k a W).mono ?_;rintro e w' ⟨rfl,rfl⟩;exact ⟨rfl,rfl⟩
end
section
set_option maxRecDepth 20000
attribute [local go_sem] Oper.semAt_some
structure Rd where
 s:Int
 c:Option Hp
 w:Int
 d:Bool
namespace Rd
end Rd
theorem MemAt.other {W:World} {n₀ b k:Nat} {v:Value} {m:Mst} {cs:Array Value} {T:TypeId} (h:PMem W n₀ b v m) (hk:W.heap[k]? = some (.cells cs T)) (h1:T≠118) (h2:T≠2):¬ Foot b v k:=by
 rintro (rfl | e)
 ·have:=h.box.symm.trans hk
  simp at this;exact h1 this.2.symm
 ·rcases h.row.2 with ⟨h0,_⟩ | ⟨g,cap,cur,h0,_,hg,_⟩
  ·rw [h0] at e;simp [Value.ownBlock] at e
  ·rw [h0] at e;obtain rfl:g=k:=by simpa [Value.ownBlock] using e
   have:=hg.symm.trans hk
   simp at this;exact h2 this.2.symm
end
section
open Go.Shelf
variable {P Q X:Nat->Prop}
def mineT (T:TypeId):Bool:=T == 35 || T == 126 || T == 103 || T == 102 || T == 65 || T == 59 || T == 145 || T == 2
theorem IxIs.beside {W W':World} {n₀ x mb tb:Nat} {ix:Ixp} {mv:Value} {tv lv:Sl} {pl:List Pt} {R:Nat->Prop} (h:IxIs P W n₀ x ix mb mv tb tv lv pl) (hR:∀ k,R k->P k∨∃ c T,W.heap[k]? = some (.cells c T)/\mineT T=false) (t:Td R W W')
  (hq:∀ k,Q k->(∃ c T,W'.heap[k]? = some (.cells c T)/\(T=2∨T=65))/\mv.ownBlock≠some k/\∀ p,p ∈ pl->p.tp.v.ownBlock≠some k/\p.fa≠some k):IxIs Q W' n₀ x ix mb mv tb tv lv pl:=by
 have key:∀ {z:Nat} {c:Array Value} {T:TypeId},W.heap[z]? = some (.cells c T)->mineT T=true->¬ P z->¬ R z:=fun hz e1 e2 e=>by
  rcases hR _ e with e | ⟨c',T',e,e3⟩
  ·exact e2 e
  ·rw [e] at hz;simp at hz;rw [hz.2,e1] at e3;cases e3
 have key2:∀ {z:Nat} {c:Array Value} {T:TypeId},W.heap[z]? = some (.cells c T)->mineT T=true->T≠2->T≠65->¬ R z:=fun hz e1 e2 e3=>key hz e1 (h.nt hz e2 e3);refine ⟨h.le,t.heap h.box (key2 h.box (by decide) (by decide) (by decide)),h.mem.turned t (fun k hk=>?_),h.mok,h.tva,h.tvn,?_,h.pn,fun i q p e1 e2=>?_,h.log.turned t (fun g e=>?_),h.dt,h.da,h.bz,hq⟩
 ·obtain ⟨c,hc | hc⟩:=h.mem.types k hk
  ·exact key2 hc (by decide) (by decide) (by decide)
  ·refine key hc (by decide) (fun e=>?_);rcases hk with hk | hk
   ·have:=h.mem.box
    rw [<- hk,hc] at this;simp at this
   ·exact (h.np k e).2.1 hk
 ·obtain ⟨c,h1,h2⟩:=h.row;exact ⟨c,t.heap h1 (key2 h1 (by decide) (by decide) (by decide)),h2⟩
 ·have th:=h.th i q p e1 e2;refine ⟨th.le,t.heap th.box (key2 th.box (by decide) (by decide) (by decide)),?_⟩;rcases th.fr with hn | ⟨f,pp,h1,h2,F⟩
  ·exact .inl hn
  ·refine .inr ⟨f,pp,h1,h2,F.le,t.heap F.box (key F.box (by decide) (fun e'=>((h.np _ e').2.2 p (List.mem_of_getElem? e2)).2 h1)),F.row.turnedO t (fun g e=>?_),F.lst.turned t (fun g e=>?_),F.good,F.i64⟩
   ·obtain ⟨c,hc⟩:=F.row.typed g e;exact key hc (by decide) (fun e'=>((h.np g e').2.2 p (List.mem_of_getElem? e2)).1 e)
   ·obtain ⟨c,hc⟩:=F.lst.typed g e;exact key2 hc (by decide) (by decide) (by decide)
 ·obtain ⟨c,hc⟩:=h.log.typed g e;exact key2 hc (by decide) (by decide) (by decide)
theorem PMem.typed {W:World} {n₀ b:Nat} {v:Value} {m:Mst} (h:PMem W n₀ b v m):∀ k,v.ownBlock=some k->∃ c,W.heap[k]? = some (.cells c 2):=h.row.typed
theorem IxIs.lts {W:World} {n₀ x mb tb:Nat} {ix:Ixp} {mv:Value} {tv lv:Sl} {pl:List Pt} (h:IxIs P W n₀ x ix mb mv tb tv lv pl) {k:Nat} (hk:W.heap.size<=k):mv.ownBlock≠some k/\∀ p,p ∈ pl->p.tp.v.ownBlock≠some k/\p.fa≠some k:=by
 refine ⟨fun e=>?_,fun p hp=>?_⟩
 ·have:=(h.mem.lt k (.inr e)).2
  omega
 ·obtain ⟨i,hi,hi'⟩:=List.getElem_of_mem hp;have h1:pl[i]? = some p:=by rw [List.getElem?_eq_getElem hi,hi']
  have h2:i < ix.ts.length:=by rw [<- h.pn];exact hi
  have ty:=(h.th i _ p (List.getElem?_eq_getElem h2) h1).fr.types;refine ⟨fun e=>?_,fun e=>?_⟩
  ·obtain ⟨c,hc⟩:=ty.2 k e
   have:=(Array.getElem?_eq_some_iff.1 hc).1
   omega
  ·obtain ⟨c,hc⟩:=ty.1 k e
   have:=(Array.getElem?_eq_some_iff.1 hc).1
   omega
structure YdIs (X:Nat->Prop) (W:World) (n₀ y b x mb tb:Nat) (v mv:Value) (tv lv:Sl) (pz:List Pt) (m:Mst) (ix:Ixp):Prop where
 le:n₀<=y
 box:W.heap[y]? = some (.cells #[.pointer (some ⟨b,0,none⟩),.pointer (some ⟨x,0,none⟩)] 39)
 pm:PMem W n₀ b v m
 ixs:IxIs (fun k=>v.ownBlock=some k∨X k) W n₀ x ix mb mv tb tv lv pz
 xv:∀ k,X k->v.ownBlock≠some k
theorem IxIs.xt {W:World} {n₀ x mb tb:Nat} {ix:Ixp} {mv:Value} {tv lv:Sl} {pl:List Pt} (h:IxIs P W n₀ x ix mb mv tb tv lv pl) {k:Nat} (hk:P k) {c:Array Value} {T:TypeId} (hc:W.heap[k]? = some (.cells c T)):T=2∨T=65:=by
 obtain ⟨⟨c',T',hc',hT⟩,_⟩:=h.np k hk;rw [hc] at hc';simp at hc';rw [hc'.2];exact hT
theorem IxIs.xl {W:World} {n₀ x mb tb:Nat} {ix:Ixp} {mv:Value} {tv lv:Sl} {pl:List Pt} (h:IxIs P W n₀ x ix mb mv tb tv lv pl) {k:Nat} (hk:P k):k < W.heap.size:=by
 obtain ⟨⟨c',T',hc',hT⟩,_⟩:=h.np k hk;exact (Array.getElem?_eq_some_iff.1 hc').1
theorem YdIs.kept {W W':World} {n₀ y b x mb tb:Nat} {v mv:Value} {tv lv:Sl} {pz:List Pt} {m:Mst} {ix:Ixp} (h:YdIs X W n₀ y b x mb tb v mv tv lv pz m ix) (k:Kept W W'):YdIs X W' n₀ y b x mb tb v mv tv lv pz m ix:=
 ⟨h.le,k.heap h.box id,h.pm.kept k,h.ixs.kept k,h.xv⟩
theorem YdIs.doc {W W':World} {n₀ y b x mb tb:Nat} {v mv mv':Value} {tv lv:Sl} {pz:List Pt} {m m':Mst} {ix:Ixp} (h:YdIs X W n₀ y b x mb tb v mv tv lv pz m ix) (t:Td (Foot mb mv) W W') (hm:DMem W' n₀ mb mv' m') (hok:m'.ok) (hft:∀ k,Foot mb mv' k->Foot mb mv k∨W.heap.size<=k) :
  YdIs X W' n₀ y b x mb tb v mv' tv lv pz m { ix with m:=m' }:=by
 have key:∀ {z:Nat} {c:Array Value} {T:TypeId},W.heap[z]? = some (.cells c T)->T≠126->T≠2->¬ Foot mb mv z:=fun hz e1 e2=>foot_apart h.ixs.mem hz e1 e2;refine ⟨h.le,t.heap h.box (key h.box (by decide) (by decide)),h.pm.turned t (fun k hk=>?_),h.ixs.memory t hm hok hft,h.xv⟩;rcases hk with rfl | hk
 ·exact key h.pm.box (by decide) (by decide)
 ·obtain ⟨_,h2,_⟩:=h.ixs.np k (.inl hk);rintro (e | e)
  ·have:=h.ixs.mem.box
   rw [<- e] at this
   have:=h.ixs.xt (.inl hk) this
   revert this
   decide
  ·exact h2 e
theorem YdIs.prog {W W':World} {n₀ y b x mb tb:Nat} {v v' mv:Value} {tv lv:Sl} {pz:List Pt} {m m':Mst} {ix:Ixp} {R:Nat->Prop} (h:YdIs X W n₀ y b x mb tb v mv tv lv pz m ix) (t:Td R W W') (hR:∀ k,R k->Foot b v k∨∃ c T,W.heap[k]? = some (.cells c T)/\mineT T=false/\T≠39) (hm:PMem W' n₀ b v' m') (hft:∀ k,Foot b v' k->Foot b v k∨W.heap.size<=k) :
  YdIs X W' n₀ y b x mb tb v' mv tv lv pz m' ix:=by
 refine ⟨h.le,t.heap h.box (fun e=>?_),hm,h.ixs.beside (R:=R) (fun k hk=>?_) t (fun k hk=>?_),fun k hk e=>?_⟩
 ·rcases hR y e with e | ⟨c,T,e,_,e2⟩
  ·exact h.pm.other h.box (by decide) (by decide) e
  ·have:=h.box
   rw [e] at this;simp at this;exact e2 this.2
 ·rcases hR k hk with (rfl | hk) | ⟨c,T,e,e1,_⟩
  ·exact .inr ⟨_,_,h.pm.box,by decide⟩
  ·exact .inl (.inl hk)
  ·exact .inr ⟨c,T,e,e1⟩
 ·rcases hk with hk | hk
  ·obtain ⟨c,hc⟩:=hm.typed k hk;refine ⟨⟨c,2,hc,.inl rfl⟩,?_⟩;rcases hft k (.inr hk) with (e | e) | e
   ·rw [e] at hk;exact absurd hk (hm.not_row (by decide))
   ·exact (h.ixs.np k (.inl e)).2
   ·exact h.ixs.lts e
  ·obtain ⟨⟨c,T,hc,hT⟩,h2⟩:=h.ixs.np k (.inr hk);refine ⟨⟨c,T,t.heap hc (fun e=>?_),hT⟩,h2⟩;rcases hR k e with (e | e) | ⟨c',T',e,e1,_⟩
   ·have:=h.pm.box
    rw [<- e] at this
    have:=h.ixs.xt (.inr hk) this
    revert this
    decide
   ·exact h.xv k hk e
   ·have:=h.ixs.xt (.inr hk) e
    rcases this with rfl | rfl
    ·exact absurd e1 (by decide)
    ·exact absurd e1 (by decide)
 ·rcases hft k (.inr e) with (e' | e') | e'
  ·have:=h.pm.box
   rw [<- e'] at this
   have:=h.ixs.xt (.inr hk) this
   revert this
   decide
  ·exact h.xv k hk e'
  ·have:=h.ixs.xl (.inr hk)
   omega
theorem YdIs.sees {W:World} {n₀ y b x mb tb:Nat} {v mv:Value} {tv lv:Sl} {pz:List Pt} {m:Mst} {ix:Ixp} (h:YdIs X W n₀ y b x mb tb v mv tv lv pz m ix) (h0:0 < ix.m.xs.length):∃ g cc,Sees W y b x mb g cc ix.m.xs/\ix.m.xs.length<=cc/\cc<=maxLen/\¬ Foot b v y/\¬ Foot b v x/\¬ Foot b v mb/\¬ Foot b v g:=by
 obtain ⟨a,cc,hv,hr,hc,hm⟩:=h.ixs.mem.form;obtain ⟨z,hz⟩:∃ z,ix.m.xs[0]? = some z:=⟨_,List.getElem?_eq_getElem h0⟩;have hrow:=h.ixs.mem.row;rcases hrow.2 with ⟨h1,h2⟩ | ⟨g,cap,cur,h1,hg,hh,hcc,hmm,_⟩
 ·omega
 ·refine ⟨g,cap,⟨h.box,h.ixs.cells.1.1,?_,fun j z e=>?_⟩,hcc,hmm,h.pm.other h.box (by decide) (by decide),h.pm.other h.ixs.box (by decide) (by decide),h.pm.other h.ixs.mem.box (by decide) (by decide),?_⟩
  ·have:=(DMem.opened h.ixs.mem).1.1
   rw [h1] at this;exact this
  ·rw [hv] at h1;cases h1;rcases hr with e0 | ⟨bl,off,e1,hcs⟩
   ·rw [e0] at e;cases e
   ·cases e1
    have:=hcs j z e
    rwa [Nat.zero_add] at this
  ·rintro (e | e)
   ·have:=h.pm.box
    rw [<- e,hh] at this;simp at this
   ·have:=(h.ixs.np g (.inl e)).2.1
    rw [h1] at this;exact this rfl
end
namespace Sd
inductive Ro where
 | fix (z:Int) | key (z:Int) | shut | chg | sum | slot | root | cnt | out
structure Gh where
 ro:Int->Option Ro
 rb:Int->Int
 kn:Int->Int
 hm:Int->Option Int
 ow:Int->Nat
 lt:Int->Bool
 pl:Int->Bool
section
variable (g:Gh)
def Rec (a n:Int):Prop:=1<=a/\∀ j,0<=j->j < n->g.rb (a+j)=a/\g.ro (a+j)≠none
structure IsEmpty (a:Int):Prop where
 kn:g.kn a=1
 rc:Rec g a 1
 c0:g.ro a=some (.fix 0)
structure IsLeaf (a k v:Int):Prop where
 kn:g.kn a=2
 rc:Rec g a 2
 c0:g.ro a=some (.fix k)
 c1:g.ro (a+1)=some (.fix v)
structure IsInner (a d n:Int):Prop where
 kn:g.kn a=3
 rc:Rec g a (2 * d+4)
 pos:1<=d
 c0:g.ro a=some (.fix d)
 c1:g.ro (a+1)=some (.fix n)
 c2:g.ro (a+2)=some .shut
 c3:g.ro (a+3)=some .chg
 c4:g.ro (a+4)=some .sum
 ck:∀ i,1<=i->i < d->∃ z,g.ro (a+4+i)=some (.key z)
 cs:∀ i,0<=i->i < d->g.ro (a+4+d+i)=some .slot
structure IsReb (a t gd p:Int):Prop where
 kn:g.kn a=4
 rc:Rec g a 5
 c0:g.ro a=some (.fix t)
 c1:g.ro (a+1)=some (.fix gd)
 c2:g.ro (a+2)=some (.fix p)
 c3:g.ro (a+3)=some .root
 c4:g.ro (a+4)=some .cnt
structure IsDc (a gd p o x:Int):Prop where
 kn:g.kn a=5
 rc:Rec g a 5
 c0:g.ro a=some (.fix gd)
 c1:g.ro (a+1)=some (.fix p)
 c2:g.ro (a+2)=some (.fix o)
 c3:g.ro (a+3)=some (.fix x)
 c4:g.ro (a+4)=some .out
def gk (a i:Int):Int:=match g.ro (a+4+i) with | some (.key z)=>z | _=>0
def gl (a lo i:Int):Int:=if i=0 then lo else gk g a i
def gu (a d hi i:Int):Int:=if i+1 < d then gk g a (i+1) - 1 else hi
inductive Iv:Int->Int->Int->Prop
 | top:IsInner g 1 1 0->Iv 1 (-9223372036854775808) 9223372036854775807
 | sub {a lo hi d n i b:Int}:Iv a lo hi->IsInner g a d n->0<=i->i < d->b≠1->g.hm b=some (a+4+d+i)->Iv b (gl g a lo i) (gu g a d hi i)
def SIv (c lo hi:Int):Prop:=∃ a d n l h i,Iv g a l h/\IsInner g a d n/\0<=i/\i < d/\c=a+4+d+i/\lo=gl g a l i/\hi=gu g a d h i
def Slot (c a d n i:Int):Prop:=IsInner g a d n/\0<=i/\i < d/\c=a+4+d+i
end
variable {g:Gh}
theorem Iv.slot {c b lo hi:Int} (h:SIv g c lo hi) (hb:b≠1) (e:g.hm b=some c):Iv g b lo hi:=by
 obtain ⟨a,d,n,l,u,i,h1,h2,h3,h4,rfl,rfl,rfl⟩:=h;exact Iv.sub h1 h2 h3 h4 hb e
theorem Slot.siv {c a d n i l u:Int} (h:Slot g c a d n i) (hi:Iv g a l u):SIv g c (gl g a l i) (gu g a d u i):=
 ⟨a,d,n,l,u,i,hi,h.1,h.2.1,h.2.2.1,h.2.2.2,rfl,rfl⟩
theorem IsInner.deg {a d n d' n':Int} (h:IsInner g a d n) (h':IsInner g a d' n'):d=d'/\n=n':=by
 have e0:=h.c0.symm.trans h'.c0;have e1:=h.c1.symm.trans h'.c1;cases e0;cases e1;exact ⟨rfl,rfl⟩
theorem IsDc.fn {D gd p o x gd' p' o' x':Int} (h:IsDc g D gd p o x) (h':IsDc g D gd' p' o' x'):gd=gd'/\p=p'/\o=o'/\x=x':=by
 have e0:=h.c0.symm.trans h'.c0;have e1:=h.c1.symm.trans h'.c1;have e2:=h.c2.symm.trans h'.c2;have e3:=h.c3.symm.trans h'.c3;cases e0;cases e1;cases e2;cases e3;exact ⟨rfl,rfl,rfl,rfl⟩
theorem IsReb.fn {r t gd p t' gd' p':Int} (h:IsReb g r t gd p) (h':IsReb g r t' gd' p'):t=t'/\gd=gd'/\p=p':=by
 have e0:=h.c0.symm.trans h'.c0;have e1:=h.c1.symm.trans h'.c1;have e2:=h.c2.symm.trans h'.c2;cases e0;cases e1;cases e2;exact ⟨rfl,rfl,rfl⟩
theorem IsInner.rb {a d n j:Int} (h:IsInner g a d n) (h0:0<=j) (h1:j < 2 * d+4):g.rb (a+j)=a:=(h.rc.2 j h0 h1).1
theorem Slot.rb {c a d n i:Int} (h:Slot g c a d n i):g.rb c=a:=by
 obtain ⟨h1,h2,h3,rfl⟩:=h
 have:=h1.rb (j:=4+d+i) (by have:=h1.pos;omega) (by omega)
 rwa [show a+(4+d+i)=a+4+d+i by omega] at this
theorem Slot.fn {c a d n i a' d' n' i':Int} (h:Slot g c a d n i) (h':Slot g c a' d' n' i'):a=a'/\d=d'/\n=n'/\i=i':=by
 obtain rfl:a=a':=h.rb.symm.trans h'.rb;obtain ⟨rfl,rfl⟩:=h.1.deg h'.1;have e1:=h.2.2.2;have e2:=h'.2.2.2;exact ⟨rfl,rfl,rfl,by omega⟩
theorem Slot.ro {c a d n i:Int} (h:Slot g c a d n i):g.ro c=some .slot:=by
 obtain ⟨h1,h2,h3,rfl⟩:=h;exact h1.cs i h2 h3
theorem Iv.fn {a lo hi lo' hi':Int} (h:Iv g a lo hi) (h':Iv g a lo' hi'):lo=lo'/\hi=hi':=by
 induction h generalizing lo' hi' with
 | top h1=>
  cases h' with
  | top _=>exact ⟨rfl,rfl⟩
  | sub _ _ _ _ hb _=>exact absurd rfl hb
 | @sub a l u d n i b h1 h2 h3 h4 hb e ih=>
  cases h' with
  | top _=>exact absurd rfl hb
  | @sub a' l' u' d' n' i' _ h1' h2' h3' h4' _ e'=>
   have ec:a+4+d+i=a' + 4+d' + i':=Option.some.inj (e.symm.trans e');obtain ⟨rfl,rfl,rfl,rfl⟩:=Slot.fn (g:=g) (c:=a+4+d+i) ⟨h2,h3,h4,rfl⟩ ⟨h2',h3',h4',ec⟩;obtain ⟨rfl,rfl⟩:=ih h1';exact ⟨rfl,rfl⟩
theorem SIv.fn {c lo hi lo' hi':Int} (h:SIv g c lo hi) (h':SIv g c lo' hi'):lo=lo'/\hi=hi':=by
 obtain ⟨a,d,n,l,u,i,h1,h2,h3,h4,e,rfl,rfl⟩:=h;obtain ⟨a',d',n',l',u',i',h1',h2',h3',h4',e',rfl,rfl⟩:=h';obtain ⟨rfl,rfl,rfl,rfl⟩:=Slot.fn (g:=g) (c:=c) ⟨h2,h3,h4,e⟩ ⟨h2',h3',h4',e'⟩;obtain ⟨rfl,rfl⟩:=h1.fn h1';exact ⟨rfl,rfl⟩
section
variable (m:Mst) (g:Gh)
def Compl (a:Int):Prop:=∀ d n i,IsInner g a d n->0<=i->i < d->m.look (a+4+d+i)≠0
def OkI (c w:Int):Prop:=kd w=3/\∃ d n,IsInner g (ad w) d n/\2<=d/\ad w≠1/\g.hm (ad w)=some c/\Compl m g (ad w)
def OkW (c w:Int):Prop:=
 (kd w=1/\IsEmpty g (ad w)/\g.hm (ad w)=some c)∨
 (kd w=2/\∃ k v,IsLeaf g (ad w) k v/\∀ lo hi,SIv g c lo hi->lo<=k/\k<=hi)∨
 OkI m g c w∨
 (kd w=4/\∃ t gd,IsReb g (ad w) t gd c/\g.hm (ad w)=some c/\OkI m g c t)
def Fz (c w:Int):Prop:=∃ a d n i,Slot g c a d n i/\m.look (a+2)≠0/\w≠0/\kd w≠5/\
 (m.look c=w∨(kd (m.look c)=5/\g.pl (ad (m.look c))=true/\g.lt (ad (m.look c))=true/\∃ gd x,IsDc g (ad (m.look c)) gd c w x))
abbrev Ps:=List (Int × Int)
def FS (F:Int->Ps->Prop) (c:Int) (ps:Ps):Prop:=∃ w,Fz m g c w/\
 ((kd w=1/\ps=[])∨(kd w=2/\∃ k v,IsLeaf g (ad w) k v/\ps=[(k,v)])∨
 (kd w=3/\F (ad w) ps/\m.look (ad w+4)=ps.length+1)∨
 (kd w=4/\∃ t gd p,IsReb g (ad w) t gd p/\F (ad t) ps/\m.look (ad t+4)=ps.length+1))
def FTf:Nat->Int->Ps->Prop
 | 0=>fun _ _=>False
 | f+1=>fun a ps=>∃ (d n:Int) (q:Nat->Ps),IsInner g a d n/\m.look (a+2)≠0/\(∀ i:Nat,(i:Int) < d->FS m g (FTf f) (a+4+d+i) (q i))/\ps=(List.range d.toNat).flatMap q
def FT (a:Int) (ps:Ps):Prop:=∃ f,FTf m g f a ps
def At (gd p:Int):Prop:=∃ a d n i lo hi,Slot g p a d n i/\gd=a+2/\Iv g a lo hi
def DcOk (D:Int):Prop:=∃ gd p o x,IsDc g D gd p o x/\(g.pl D=true->OkW m g p o)/\OkW m g p x/\At g gd p/\(g.lt D=true->m.look gd≠0)
def RbOk (r:Int):Prop:=∃ t gd p,IsReb g r t gd p/\OkI m g p t/\At g gd p
def RtOk (r w:Int):Prop:=∃ t gd p ps,IsReb g r t gd p/\FT m g (ad t) ps/\
 ((ps.length < 2/\OkW m g p w/\kd w<=2)∨
 (2<=ps.length/\kd w=3/\ad w≠1/\g.hm (ad w)=some p/\∃ d,IsInner g (ad w) d ps.length/\2<=d/\d=Pt.degZ ps.length/\∀ i,1<=i->i < d->gk g (ad w) i=((partL ps i).headD (0,0)).1))
def COk (c:Int):Prop:=match g.ro c with
 | none=>True
 | some (.fix z)=>m.look c=z
 | some (.key z)=>m.look c=0∨m.look c=z
 | some .shut=>m.look c=0∨(m.look c=1/\g.rb c≠1/\∃ d n,IsInner g (g.rb c) d n/\Compl m g (g.rb c))
 | some .chg=>True
 | some .cnt=>True
 | some .sum=>m.look c=0∨∃ ps,FT m g (g.rb c) ps/\m.look c=ps.length+1
 | some .slot=>m.look c=0∨OkW m g c (m.look c)∨(kd (m.look c)=5/\g.pl (ad (m.look c))=true/\∃ gd o x,IsDc g (ad (m.look c)) gd c o x)
 | some .root=>RbOk m g (g.rb c)/\(m.look c=0∨RtOk m g (g.rb c) (m.look c))
 | some .out=>DcOk m g (g.rb c)/\(m.look c=0∨((m.look c=1∨m.look c=2)/\g.pl (g.rb c)=true))/\(g.lt (g.rb c)=true->m.look c≠1)
structure Inv:Prop where
 ok:m.ok
 sz:m.size<=16384/\(m.xs.length:Int)<=m.size
 used:∀ c,g.ro c≠none↔m.used c=true
 cell:∀ c,COk m g c
 top:IsInner g 1 1 0/\m.look 6≠0
 keys:∀ a lo hi d n,Iv g a lo hi->IsInner g a d n->∀ i,0<=i->i+1 < d->gl g a lo i < gk g a (i+1)/\gk g a (i+1)<=hi
 kin:∀ a d n i,IsInner g a d n->1<=i->i < d->m.look (a+4+d+i)≠0->m.look (a+4+i)=gk g a i
 home:∀ b c,g.hm b=some c->∃ a d n i,Slot g c a d n i/\((∃ lo hi,Iv g a lo hi)∨ad (m.look c)=b)
 hm1:g.hm 1=none
 hml:∀ b c,g.hm b=some c->g.kn b≠2
 hmu:∀ b c,g.hm b=some c->g.ro b≠none
 late:∀ D,g.lt D=true->g.pl D=true
 plw:∀ D,g.pl D=true->∃ gd p o x,IsDc g D gd p o x
end
end Sd
end Go.Proofs.YtoaicedkepcalaaGreat
