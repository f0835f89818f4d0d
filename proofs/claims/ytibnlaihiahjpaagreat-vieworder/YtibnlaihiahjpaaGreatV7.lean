/-
  What the proof of YtibnlaihiahjpaaGreatViewOrderProof goes by, part 7 of 11: contracts and plain facts; each part begins with its own sentence. No conditions beyond each theorem's own.
-/
import Derived.Test.YtibnlaihiahjpaaGreatV6
import Derived.Laws.MakeOwn
import Derived.RegionTactic
import Derived.Deep.OwnRows
namespace Go.Proofs.YtibnlaihiahjpaaGreat
open Go.RowKit
section
open Go.Shelf
attribute [local go_sem] Oper.semAt_some
def Tp.takes (q:Tp) (m:Mst):Bool:=q.busy && !q.took && decide (0 < q.laid) && (m.look (wrap64 (q.laid+4)) == 1)
def Ixp.takes1 (ix:Ixp) (i:Nat):Ixp:=
 match ix.ts[i]? with
 | some q=>if q.takes ix.m=true then { ix with ts:=ix.ts.set i { q with took:=true },logn:=ix.logn+1 } else ix
 | none=>ix
def Ixp.takesL:Nat->Nat->Ixp->Ixp
 | 0,_,ix=>ix
 | c+1,i,ix=>takesL c (i+1) (ix.takes1 i)
theorem Ixp.takes1_no {ix:Ixp} {i:Nat} {q:Tp} (h:ix.ts[i]? = some q) (e:q.takes ix.m=false):ix.takes1 i=ix:=by
 unfold takes1;rw [h];dsimp only;rw [if_neg (by rw [e];decide)]
theorem Ixp.takes1_yes {ix:Ixp} {i:Nat} {q:Tp} (h:ix.ts[i]? = some q) (e:q.takes ix.m=true):ix.takes1 i={ ix with ts:=ix.ts.set i { q with took:=true },logn:=ix.logn+1 }:=by
 unfold takes1;rw [h];dsimp only;rw [if_pos e]
theorem set_same {α:Type} {l:List α} {i:Nat} {a:α} (h:l[i]? = some a):l.set i a=l:=by
 apply List.ext_getElem?;intro k;rw [List.getElem?_set]
 split
 ·next e=>
  subst e
  have:=(List.getElem?_eq_some_iff.1 h).1
  rw [if_pos this,h]
 ·rfl
set_option maxRecDepth 100000 in
set_option maxHeartbeats 4000000 in
theorem t0L (W:World) (n₀ x mb tb:Nat) (ix:Ixp) (mv:Value) (tv lv:Sl) (pz:List Pt) (h:IxIs W n₀ x ix mb mv tb tv lv pz) (hn:n₀<=W.heap.size) (hlog:ix.logn+ix.ts.length<=800000) (ixE:Ixp) (he:Ixp.takesL ix.ts.length 0 ix=ixE) :
  Calls Tryz.prog 131 #[.pointer (some ⟨x,0,none⟩)] W fun e W'=>e=.returned (.tuple #[])/\(∃ lv',IxIs W' n₀ x ixE mb mv tb tv lv' pz/\∀ k,lv'.v.ownBlock=some k->lv.v.ownBlock=some k∨W.heap.size<=k)/\Td (fun k=>k=x∨(∃ p,p ∈ pz/\k=p.t)∨lv.v.ownBlock=some k) W W':=by
 obtain ⟨n,hnn⟩:∃ n,ix.ts.length=n:=⟨_,rfl⟩;rw [hnn] at he hlog;have n8:n<=800000:=by omega
 have H:=gh h;have HN:=gh hn;have HLOG:=gh hlog;have HE:=gh he;have HNN:=gh hnn;have tvn:=h.tvn;rw [hnn] at tvn;obtain ⟨tvn1,tvn2⟩:=tvn;clear h hn hlog he hnn;go_enter Tryz.func131,Tryz.ntmps131;go_wp2_with (fail)
 go_loopw [2,3] (fun vi _ wr=>∃ (i:Nat) (ixi:Ixp) (lvi:Sl) (psi:List Pt),vi=.int .i64 (i:Int)/\i<=n/\IxIs wr n₀ x ixi mb mv tb tv lvi psi/\Td (fun k=>k=x∨(∃ p,p ∈ pz/\k=p.t)∨lv.v.ownBlock=some k) W wr/\ixi.ts.length=n/\(ixi.logn<=ix.logn+i/\psi=pz/\∀ k,lvi.v.ownBlock=some k->lv.v.ownBlock=some k∨W.heap.size<=k)/\Ixp.takesL (n - i) i ixi=ixE) (fun vi _ _=>n - (intOf vi).toNat)
 case atStart=>exact ⟨0,ix,lv,pz,rfl,by omega,H.o,Td.refl _ _,HNN.o,⟨by omega,rfl,fun _ e=>.inl e⟩,by simpa using HE.o⟩
 case round=>
  obtain ⟨i,ixi,lvi,psi,rfl,i1,hI,hT,hl,⟨hg,hps⟩,hk⟩:=hrel;have I:=gh hI;have T:=gh hT;have HL:=gh hl;have HG:=gh (And.intro hg hps);have HK:=gh hk;obtain ⟨⟨c3,c4,c5,_,c7⟩,cf⟩:=hI.cells;clear hI hT hl hg hps hk
  by_cases hi:i < n
  ·obtain ⟨q,hq⟩:∃ q,ixi.ts[i]? = some q:=⟨_,List.getElem?_eq_getElem (by rw [HL.o];exact hi)⟩;obtain ⟨p,hp⟩:∃ p,psi[i]? = some p:=⟨_,List.getElem?_eq_getElem (by rw [I.o.pn,HL.o];exact hi)⟩;have cj:=I.o.slot hp;have j1:(i:Int) < (tv.n:Int):=by omega
   have j2:i < tv.c:=by omega
   have HQ:=gh hq;have HP:=gh hp;obtain ⟨V9,hV9⟩:∃ V9,wr.drew=V9:=⟨_,rfl⟩;have k9:Kept wr V9:=by rw [<- hV9];exact Kept.drew _
   have i9:=I.o.kept k9;have th:=i9.th i q p hq hp;obtain ⟨⟨_,t1,_,_,_,_,_,t7,t8⟩,tf⟩:=th.cells;obtain ⟨⟨e3,_,_,_,_⟩,_⟩:=i9.cells;have f7:=tf 7;obtain ⟨L,hLL⟩:∃ L,q.laid=L:=⟨_,rfl⟩;obtain ⟨a,ha⟩:∃ a,wrap64 (L+4)=a:=⟨_,rfl⟩;obtain ⟨z,hz⟩:∃ z,ixi.m.look a=z:=⟨_,rfl⟩;have CL:Hid (Calls Tryz.prog 153 #[.pointer (some ⟨p.t,0,none⟩)] V9 fun e w'=>e=.returned (.int .i64 L)/\V9=w'):=gh (by
    refine (tlaid_r V9 n₀ p.t q p.fa p.tp p.l th (i9.bz i q hq)).mono ?_;rintro e w' ⟨rfl,rfl⟩;exact ⟨by rw [hLL],rfl⟩)
   have CK:Hid (Calls Tryz.prog 73 #[.pointer (some ⟨mb,0,none⟩),.int .i64 a] V9 fun e w'=>e=.returned (.int .i64 z)/\V9=w'):=gh (by
    refine (look_d V9 n₀ mb mv ixi.m a i9.mem).mono ?_;rintro e w' ⟨rfl,rfl⟩;exact ⟨by rw [hz],rfl⟩)
   have HLL:=gh hLL;have HA:=gh ha;have HZ:=gh hz;have TH:=gh th;have T7:=gh t7;have T8:=gh t8;have I9:=gh i9;have K9:=gh k9;have HV9:=gh hV9;have x1:∀ u:Wd (fun U=>U=V9),u.w.cell? ⟨p.t,1,none⟩=some (.bool q.busy):=fun u=>by rw [u.ok];exact t1
   have x7:∀ u:Wd (fun U=>U=V9),u.w.cell? ⟨p.t,7,none⟩=some (.bool q.took):=fun u=>by rw [u.ok];exact t7
   have xm:∀ u:Wd (fun U=>U=V9),u.w.cell? ⟨x,3,none⟩=some (.pointer (some ⟨mb,0,none⟩)):=fun u=>by rw [u.ok];exact e3
   clear hq hp th tf hLL hz t1 t7 t8 i9 k9 hV9 e3;cases hb:q.busy with
   | false=>
    rw [hb] at x1;have NOE:Hid (q.takes ixi.m=false):=gh (by unfold Tp.takes;rw [hb];rfl);clear hb ha;go_wp2_with (fail);refine a0N [0,1,2,3,4,5,6,7,8,9,10,11,12,13,14,15,16,17,18,19,20,21,22,23,24,25,26] (fun U=>U=V9) (by kernel_rfl) (by kernel_rfl) HV9.o (fun _=>?_);rw [HV9.o]
    repeat (refine pq rfl rfl ?_;go_big_quiet_step (fail);refine wpQuiet_nil ?_)
    refine ps rfl rfl rfl (Wd.mem rfl) ?_
    go_big_quiet_skip
    refine wpQuiet_nil ?_
    repeat (refine pq rfl rfl ?_;go_big_quiet_step (fail);refine wpQuiet_nil ?_)
    refine ps rfl rfl rfl (Wd.mem rfl) ?_
    go_big_quiet_skip
    refine wpQuiet_nil ?_
    repeat (refine pq rfl rfl ?_;go_big_quiet_step (fail);refine wpQuiet_nil ?_)
    refine ps rfl rfl rfl (Wd.mem rfl) ?_
    go_big_quiet_skip
    refine wpQuiet_nil ?_
    repeat (refine pq rfl rfl ?_;go_big_quiet_step (fail);refine wpQuiet_nil ?_)
    refine a0J ?_;clear x1 x7 xm;go_wp2;refine ⟨⟨i+1,ixi,lvi,psi,by simp,by omega,I.o.kept K9.o,Kept.behind T.o K9.o,HL.o,⟨by have:=HG.o.1;omega,HG.o.2⟩,?_⟩,by simp [intOf];omega⟩;have hz:=HK.o;rw [show n - i=(n - (i+1))+1 by omega,Ixp.takesL,Ixp.takes1_no HQ.o NOE.o] at hz;exact hz
   | true=>
    rw [hb] at x1;cases ht:q.took with
    | true=>
     rw [ht] at x7;have NOE:Hid (q.takes ixi.m=false):=gh (by unfold Tp.takes;rw [hb,ht];rfl);clear hb ht ha;go_wp2_with (fail);refine a0N [0,1,2,3,4,5,6,7,8,9,10,11,12,13,14,15,16,17,18,19,20,21,22,23,24,25,26] (fun U=>U=V9) (by kernel_rfl) (by kernel_rfl) HV9.o (fun _=>?_);rw [HV9.o]
     repeat (refine pq rfl rfl ?_;go_big_quiet_step (fail);refine wpQuiet_nil ?_)
     refine ps rfl rfl rfl (Wd.mem rfl) ?_
     go_big_quiet_skip
     refine wpQuiet_nil ?_
     repeat (refine pq rfl rfl ?_;go_big_quiet_step (fail);refine wpQuiet_nil ?_)
     refine ps rfl rfl rfl (Wd.mem rfl) ?_
     go_big_quiet_skip
     refine wpQuiet_nil ?_
     repeat (refine pq rfl rfl ?_;go_big_quiet_step (fail);refine wpQuiet_nil ?_)
     refine ps rfl rfl rfl (Wd.mem rfl) ?_
     go_big_quiet_skip
     refine wpQuiet_nil ?_
     repeat (refine pq rfl rfl ?_;go_big_quiet_step (fail);refine wpQuiet_nil ?_)
     refine a0J ?_;clear x1 x7 xm;go_wp2;refine ⟨⟨i+1,ixi,lvi,psi,by simp,by omega,I.o.kept K9.o,Kept.behind T.o K9.o,HL.o,⟨by have:=HG.o.1;omega,HG.o.2⟩,?_⟩,by simp [intOf];omega⟩;have hz:=HK.o;rw [show n - i=(n - (i+1))+1 by omega,Ixp.takesL,Ixp.takes1_no HQ.o NOE.o] at hz;exact hz
    | false=>
     rw [ht] at x7
     by_cases l0:0 < L
     ·have g0:decide (0 < L)=true:=by simp [l0]
      by_cases z1:z=1
      ·have YES:Hid (q.takes ixi.m=true):=gh (by unfold Tp.takes;rw [hb,ht,HLL.o,HA.o,HZ.o];simp [l0,z1]);have g1:(z == 1)=true:=by simp [z1]
       have HBT:=gh (And.intro hb ht);clear hb ht z1 l0;go_wp2_with (fail);refine a0N [0,1,2,3,4,5,6,7,8,9,10,11,12,13,14,15,16,17,18,19,20,21,22,23,24,25,26] (fun U=>U=V9) (by kernel_rfl) (by kernel_rfl) HV9.o (fun _=>?_);rw [HV9.o]
       repeat (refine pq rfl rfl ?_;go_big_quiet_step (fail);refine wpQuiet_nil ?_)
       refine pl rfl rfl ?_;gi_wp2_with (fail);refine ⟨trivial,?_⟩;refine (callsIn_wide.2 CL.o).mono ?_;rintro e U ⟨rfl,rfl⟩;gi_wp2_with (fail);refine ⟨Wd.mem rfl,?_⟩
       repeat (refine pq rfl rfl ?_;go_big_quiet_step (fail);refine wpQuiet_nil ?_)
       refine pl rfl rfl ?_;gi_wp2_with (fail);refine ⟨trivial,?_⟩;refine (callsIn_wide.2 CL.o).mono ?_;rintro e U ⟨rfl,rfl⟩;gi_wp2_with (fail);refine ⟨Wd.mem rfl,?_⟩
       repeat (refine pq rfl rfl ?_;go_big_quiet_step (fail);refine wpQuiet_nil ?_)
       refine pl rfl rfl ?_;gi_wp2_with (fail);refine ⟨trivial,?_⟩;refine (callsIn_wide.2 CK.o).mono ?_;rintro e U ⟨rfl,rfl⟩;gi_wp2_with (fail);refine ⟨Wd.mem rfl,?_⟩
       repeat (refine pq rfl rfl ?_;go_big_quiet_step (fail);refine wpQuiet_nil ?_)
       refine a0J ?_;clear x1 x7 xm;have t7:=T7.o;have t8:=T8.o;rw [HBT.o.2] at t7;obtain ⟨B1,hB1⟩:∃ B1,V9.setCell ⟨p.t,7,none⟩ (.bool true)=B1:=⟨_,rfl⟩;have tB1:Td (fun k=>k=p.t) V9 B1:=by rw [<- hB1];exact Td.setCell (R:=fun k=>k=p.t) _ _ _ rfl
       have bB1:B1.heap[p.t]? = some (.cells (({ q with took:=true }:Tp).cs p.fa) 116):=by
        rw [<- hB1]
        have:=TH.o.box
        simp [World.setCell,Array.getElem?_modify,this,Tp.cs]
       have i1':=I9.o.number HQ.o HP.o tB1 bB1 rfl rfl;rw [set_same HP.o] at i1';have HB1:=gh hB1;have I1:=gh i1';have TB1:=gh tB1;obtain ⟨V7,hV7⟩:∃ V7,B1.drew=V7:=⟨_,rfl⟩;have k7:Kept B1 V7:=by rw [<- hV7];exact Kept.drew _
       have ix7:=i1'.kept k7;have lt:∀ {y:Nat} {c:Array Value} {T:TypeId},V7.heap[y]? = some (.cells c T)->T≠168->¬ lvi.v.ownBlock=some y:=fun hy e1 e2=>by
        obtain ⟨c',hc⟩:=ix7.log.typed _ e2;rw [hy] at hc;simp at hc;exact e1 hc.2
       have th7:=ix7.th i _ p (by rw [List.getElem?_set];rw [if_pos rfl,if_pos (by rw [HL.o];exact hi)]) HP.o;obtain ⟨⟨_,_,d5,_,d7⟩,df⟩:=ix7.cells;have d8:=th7.cells.1.2.2.2.2.2.2.2.2;have nlx:¬ lvi.v.ownBlock=some x:=lt ix7.box (by decide);have nlt:¬ lvi.v.ownBlock=some p.t:=lt th7.box (by decide);have z2:∀ u:Wd (fun U=>Td (fun k=>lvi.v.ownBlock=some k) V7 U),u.w.cell? ⟨x,5,none⟩=some (.slice lvi.a lvi.n lvi.c):=fun u=>u.ok.cell d5 nlx;have z3:∀ u:Wd (fun U=>Td (fun k=>lvi.v.ownBlock=some k) V7 U),u.w.cell? ⟨x,7,none⟩=some (.int .i64 ixi.picks):=fun u=>u.ok.cell d7 nlx;have z4:∀ u:Wd (fun U=>Td (fun k=>lvi.v.ownBlock=some k) V7 U),u.w.cell? ⟨p.t,8,none⟩=some (.int .i64 q.no):=fun u=>u.ok.cell d8 nlt;have IX7:=gh ix7;have HV7:=gh hV7;have K7:=gh k7;have NLX:=gh nlx;have SZ7:Hid (n₀<=V7.heap.size):=gh (Nat.le_trans HN.o (Nat.le_trans T.o.size (Nat.le_trans K9.o.size (Nat.le_trans tB1.size k7.size))));clear hB1 tB1 bB1 i1' hV7 k7 ix7 lt th7 d5 d7 df d8 nlx nlt;go_wp2_with (fail);rw [HB1.o];refine b0P [0,1,2,3,4,5,6,7,8,9,10,11,12,13,14,15,16,17,18] 19 (fun U=>Td (fun k=>lvi.v.ownBlock=some k) V7 U) (by kernel_rfl) (by kernel_rfl) (by rw [HV7.o];exact Td.refl _ _) (fun _=>?_);rw [HV7.o]
       repeat (refine lq rfl rfl ?_;go_big_quiet_step (fail);refine wpQuiet_nil ?_)
       refine ll rfl rfl ?_;gi_wp2;refine ⟨Wd.mem (Td.alloc _ _ _),?_⟩;refine ll rfl rfl ?_;gi_wp2_with (gi_at_builtin;refine Stop.out ?_);refine ⟨?_⟩;refine b0N rfl _ _ rfl n₀ lvi.v ixi.logn rfl (IX7.o.log.turned (Td.alloc (fun _=>False) V7 _) (fun _ _ e=>e)) V7.heap.size _ rfl (a0C _ _) rfl (by simp [Value.oneCell']) (by have:=HLOG.o;have:=HG.o.1;omega) (by have:=SZ7.o;simp;omega) ?_;rintro v9 A1 hlog9 ⟨la9,lc9,rfl⟩ hgrow hat;have TA:Hid (Td (fun k=>lvi.v.ownBlock=some k) V7 A1):=gh (Kept.then (Td.alloc (fun _=>False) V7 _) (Td.of_grownBy (R:=fun k=>lvi.v.ownBlock=some k) hgrow (fun _ h=>h)));have bxA:=TA.o.heap IX7.o.box NLX.o;have cA:A1.cell? ⟨x,5,none⟩=some (.slice lvi.a lvi.n lvi.c):=by simp [World.cell?,bxA,Ixp.cs]
       have gA:A1.frozen? ⟨x,5,none⟩=false:=by simp [World.frozen?,bxA]
       obtain ⟨A2,hA2⟩:∃ A2,A1.setCell ⟨x,5,none⟩ (.slice la9 (ixi.logn+1) lc9)=A2:=⟨_,rfl⟩;have tA2:Td (fun k=>k=x) A1 A2:=by rw [<- hA2];exact Td.setCell (R:=fun k=>k=x) _ _ _ rfl
       have IXE:Hid (IxIs A2 n₀ x { ixi with ts:=ixi.ts.set i { q with took:=true },logn:=ixi.logn+1 } mb mv tb tv ⟨la9,ixi.logn+1,lc9⟩ psi):=gh (by
        refine IX7.o.boxed (ix':={ ixi with ts:=ixi.ts.set i { q with took:=true },logn:=ixi.logn+1 }) (TA.o.trans tA2 (fun _ e=>.inr e) (fun _ _ e=>.inl e)) ?_ rfl rfl (hlog9.turned tA2 (fun g e e'=>?_))
        ·rw [<- hA2];simp [World.setCell,Array.getElem?_modify,bxA,Ixp.cs]
        ·obtain ⟨c,hc⟩:=hlog9.typed g e;rw [e',bxA] at hc;simp at hc)
       have TE:Hid (Td (fun k=>k=x∨(∃ p,p ∈ pz/\k=p.t)∨lv.v.ownBlock=some k) W A2):=gh (((T.o.trans (K9.o.then TB1.o) (fun _ e=>e) (fun k _ e=>.inr (.inl ⟨p,HG.o.2.1 ▸ List.mem_of_getElem? HP.o,e⟩))).trans (K7.o.then (TA.o.trans tA2 (R'':=fun k=>lvi.v.ownBlock=some k∨k=x) (fun _ e=>.inl e) (fun _ _ e=>.inr e))) (fun _ e=>e) (fun k hk e=>by
        rcases e with e | e
        ·rcases HG.o.2.2 k e with e | e
         ·exact .inr (.inr e)
         ·omega
        ·exact .inl e)))
       have LV9:Hid (∀ k,(⟨la9,ixi.logn+1,lc9⟩:Sl).v.ownBlock=some k->lv.v.ownBlock=some k∨W.heap.size<=k):=gh (fun k e=>by
        have e':(Value.slice la9 (ixi.logn+1) lc9).ownBlock=some k:=e;rcases hat with hat | hat
        ·exact HG.o.2.2 k (hat ▸ e')
        ·rw [hat] at e';cases e';exact .inr (by have:=T.o.size;have:=K9.o.size;have:=TB1.o.size;have:=K7.o.size;simp;omega))
       have HA2:=gh hA2;clear hlog9 hgrow hat hA2 tA2 bxA;gi_wp2;refine ⟨Wd.mem TA.o,?_⟩;simp only [Act.put,List.setIfInBounds_toArray,List.set_cons_succ,List.set_cons_zero]
       repeat (refine lq rfl rfl ?_;go_big_quiet_step (fail);refine wpQuiet_nil ?_)
       refine lz rfl ?_;gi_wp2;refine c0J ?_;rw [HA2.o];clear z2 z3 z4 cA gA;go_wp2;refine ⟨⟨i+1,_,_,psi,by simp,by omega,IXE.o,TE.o,by simp [HL.o],⟨by have:=HG.o.1;simp;omega,HG.o.2.1,LV9.o⟩,?_⟩,by simp [intOf];omega⟩;have hz:=HK.o;rw [show n - i=(n - (i+1))+1 by omega,Ixp.takesL,Ixp.takes1_yes HQ.o YES.o] at hz;exact hz
      ·have NOE:Hid (q.takes ixi.m=false):=gh (by unfold Tp.takes;rw [hb,ht,HLL.o,HA.o,HZ.o];simp [z1]);have g1:(z == 1)=false:=by simp [z1]
       clear hb ht z1 l0;go_wp2_with (fail);refine a0N [0,1,2,3,4,5,6,7,8,9,10,11,12,13,14,15,16,17,18,19,20,21,22,23,24,25,26] (fun U=>U=V9) (by kernel_rfl) (by kernel_rfl) HV9.o (fun _=>?_);rw [HV9.o]
       repeat (refine pq rfl rfl ?_;go_big_quiet_step (fail);refine wpQuiet_nil ?_)
       refine pl rfl rfl ?_;gi_wp2_with (fail);refine ⟨trivial,?_⟩;refine (callsIn_wide.2 CL.o).mono ?_;rintro e U ⟨rfl,rfl⟩;gi_wp2_with (fail);refine ⟨Wd.mem rfl,?_⟩
       repeat (refine pq rfl rfl ?_;go_big_quiet_step (fail);refine wpQuiet_nil ?_)
       refine pl rfl rfl ?_;gi_wp2_with (fail);refine ⟨trivial,?_⟩;refine (callsIn_wide.2 CL.o).mono ?_;rintro e U ⟨rfl,rfl⟩;gi_wp2_with (fail);refine ⟨Wd.mem rfl,?_⟩
       repeat (refine pq rfl rfl ?_;go_big_quiet_step (fail);refine wpQuiet_nil ?_)
       refine pl rfl rfl ?_;gi_wp2_with (fail);refine ⟨trivial,?_⟩;refine (callsIn_wide.2 CK.o).mono ?_;rintro e U ⟨rfl,rfl⟩;gi_wp2_with (fail);refine ⟨Wd.mem rfl,?_⟩
       repeat (refine pq rfl rfl ?_;go_big_quiet_step (fail);refine wpQuiet_nil ?_)
       refine a0J ?_;clear x1 x7 xm;go_wp2;refine ⟨⟨i+1,ixi,lvi,psi,by simp,by omega,I.o.kept K9.o,Kept.behind T.o K9.o,HL.o,⟨by have:=HG.o.1;omega,HG.o.2⟩,?_⟩,by simp [intOf];omega⟩;have hz:=HK.o;rw [show n - i=(n - (i+1))+1 by omega,Ixp.takesL,Ixp.takes1_no HQ.o NOE.o] at hz;exact hz
     ·have NOE:Hid (q.takes ixi.m=false):=gh (by unfold Tp.takes;rw [hb,ht,HLL.o];simp;omega);have g0:decide (0 < L)=false:=by simp;omega
      clear hb ht ha l0;go_wp2_with (fail);refine a0N [0,1,2,3,4,5,6,7,8,9,10,11,12,13,14,15,16,17,18,19,20,21,22,23,24,25,26] (fun U=>U=V9) (by kernel_rfl) (by kernel_rfl) HV9.o (fun _=>?_);rw [HV9.o]
      repeat (refine pq rfl rfl ?_;go_big_quiet_step (fail);refine wpQuiet_nil ?_)
      refine pl rfl rfl ?_;gi_wp2_with (fail);refine ⟨trivial,?_⟩;refine (callsIn_wide.2 CL.o).mono ?_;rintro e U ⟨rfl,rfl⟩;gi_wp2_with (fail);refine ⟨Wd.mem rfl,?_⟩
      repeat (refine pq rfl rfl ?_;go_big_quiet_step (fail);refine wpQuiet_nil ?_)
      refine ps rfl rfl rfl (Wd.mem rfl) ?_
      go_big_quiet_skip
      refine wpQuiet_nil ?_
      repeat (refine pq rfl rfl ?_;go_big_quiet_step (fail);refine wpQuiet_nil ?_)
      refine ps rfl rfl rfl (Wd.mem rfl) ?_
      go_big_quiet_skip
      refine wpQuiet_nil ?_
      repeat (refine pq rfl rfl ?_;go_big_quiet_step (fail);refine wpQuiet_nil ?_)
      refine a0J ?_;clear x1 x7 xm;go_wp2;refine ⟨⟨i+1,ixi,lvi,psi,by simp,by omega,I.o.kept K9.o,Kept.behind T.o K9.o,HL.o,⟨by have:=HG.o.1;omega,HG.o.2⟩,?_⟩,by simp [intOf];omega⟩;have hz:=HK.o;rw [show n - i=(n - (i+1))+1 by omega,Ixp.takesL,Ixp.takes1_no HQ.o NOE.o] at hz;exact hz
  ·have hz:=HK.o;rw [show n - i=0 by omega] at hz;have hz':ixi=ixE:=hz;subst hz';have hps:=HG.o.2.1;have hlv:=HG.o.2.2;subst hps;have j1:¬ ((i:Int) < (tv.n:Int)):=by omega
   clear HK HG;go_wp2
   go_end0
   exact ⟨rfl,⟨_,I.o,hlv⟩,T.o⟩
end
section
section
variable {P:Program} {ops:Array Oper} {Q:Exit->Act->World->Prop} {md:Region.Mode} {C:World->Prop} {n:Nat}
def i0T (P:Program) (ops:Array Oper) (Q:Exit->Act->World->Prop) (C:World->Prop) (n i k:Nat) (is js:List Nat):List Nat->Act->World->Prop
 | [],a,w=>wpOpIn Fence.wide n P ops Q i (fun a' w'=>C w'/\b0M P ops Q C n is a' w') a w/\wpOpIn Fence.wide n P ops Q k (fun a' w'=>C w'/\b0M P ops Q C n js a' w') a w
 | p :: ps,a,w=>match ops[p]? with
  | none=>False
  | some o=>∃ v,YieldsIf P ops C o v a/\i0T P ops Q C n i k is js ps (a.put o.dst v) w
def v0N (md:Region.Mode) (ops:Array Oper) (i k:Nat) (is js:List Nat):List Nat->Array Bool->Bool
 | [],listed=>Region.ready md ops listed == [i,k] && is.length == js.length && j0F md ops is (listed.setIfInBounds i true) && j0F md ops js (listed.setIfInBounds k true)
 | p :: ps,listed=>(match ops[p]? with | none=>false | some o=>b0X o.op && (Region.ready md ops listed).contains p && Region.free md ops listed p) && v0N md ops i k is js ps (listed.setIfInBounds p true)
theorem r0S {i k:Nat} {is js:List Nat} (hs:Region.noSelect ops=true) (hQ:∀ c a d v w,Q (.panic c) (Act.put a d v) w->Q (.panic c) a w):∀ (ps:List Nat) (listed:Array Bool) (a:Act) (w:World),C w->v0N md ops i k is js ps listed=true->i0T P ops Q C n i k is js ps a w->anyC P md ops Q C n (ps.length+(is.length+1)) listed a w
 | [],listed,a,w,_,hB,h=>by
  simp only [v0N,Bool.and_eq_true,beq_iff_eq] at hB;obtain ⟨⟨⟨hr,hl⟩,hB1⟩,hB2⟩:=hB;simp only [List.length_nil,Nat.zero_add];refine ⟨fun h0=>(by rw [hr] at h0;cases h0),fun j hj=>?_⟩;rw [hr] at hj;have hj':j=i∨j=k:=by simpa using hj
  rcases hj' with rfl | rfl
  ·exact wpOpIn_mono (fun a' w' h'=>⟨h'.1,g0C hs hQ is _ _ _ h'.1 hB1 h'.2⟩) h.1
  ·rw [hl];exact wpOpIn_mono (fun a' w' h'=>⟨h'.1,g0C hs hQ js _ _ _ h'.1 hB2 h'.2⟩) h.2
 | p :: ps,listed,a,w,hC,hB,h=>by
  simp only [v0N,Bool.and_eq_true] at hB;obtain ⟨hB1,hB2⟩:=hB;unfold i0T at h;cases ho:ops[p]? with
  | none=>simp [ho] at hB1
  | some o=>
   simp only [ho,Bool.and_eq_true] at hB1 h;obtain ⟨⟨hp,hr⟩,hf⟩:=hB1;obtain ⟨v,hy,hk⟩:=h;have hr':p ∈ Region.ready md ops listed:=by simpa using hr
   rw [List.length_cons,Nat.add_right_comm];exact i0R ho (Region.noSelect_spec hs) (fun c a w=>hQ c a _ v w) _ listed a w (Region.free_spec ho hf) hr' hy hC (r0S hs hQ ps _ _ _ hC hB2 hk)
end
section
variable {P:Program} {l:List Oper} {Q:Exit->Act->World->Prop} {C:World->Prop} {n:Nat} {i k p:Nat} {is js ps:List Nat} {o o':Oper} {a:Act} {w:World}
theorem fq (ho:nth l p=some o) (hp:b0X o.op=true) (h:wpQuiet P l.toArray C (fun a'=>i0T P l.toArray Q C n i k is js ps a' w) [o] a):i0T P l.toArray Q C n i k is js (p :: ps) a w:=by
 unfold i0T;simp only [(g0Q l p).trans ho];unfold wpQuiet at h
 by_cases hw:Region.wanted o (yielded l.toArray a.tmps)=true
 ·rw [if_pos hw] at h;obtain ⟨v,hv,hk⟩:=h;refine ⟨v,.inl ⟨hw,fun w1 hC=>?_⟩,hk⟩;have h1:=hv w1 hC;unfold Oper.quietAt at h1;cases hr:(execOp a.eval o).run P w1 with
  | ok x w'=>
   rw [hr] at h1;obtain ⟨u,rfl⟩:=e0Y hp hr;simp only [Oper.quietUpon] at h1;rw [h1.1,h1.2]
  | halt x w'=>rw [hr] at h1;exact h1.elim
 ·rw [if_neg hw] at h;exact ⟨undef,.inr ⟨by simpa using hw,rfl⟩,h⟩
theorem fl (ho:nth l i=some o) (ho':nth l k=some o') (h:wpListIn Fence.wide n P l.toArray (Exit.then (fun a' w'=>C w'/\b0M P l.toArray Q C n is a' w') Q) [o] a w) (h':wpListIn Fence.wide n P l.toArray (Exit.then (fun a' w'=>C w'/\b0M P l.toArray Q C n js a' w') Q) [o'] a w):i0T P l.toArray Q C n i k is js [] a w:=
 ⟨e0N ho h,e0N ho' h'⟩
end
theorem q0D {P:Program} {ops:Array Oper} {Q:Exit->Act->World->Prop} {id:Nat} {a:Act} {w:World} (ps:List Nat) (i k:Nat) (is js:List Nat) (S:World->Prop) (hm:P.follows .mixedOrders=true)
  (hB:(Region.noSelect ops && ps.length+(is.length+1) == ops.size && v0N .any ops i k is js ps (Array.replicate ops.size false))=true)
  (hS:S w.drew) (h:Nonempty (Wd S)->i0T P ops (calm Q) (fun w'=>∃ x:Wd S,w'=x.w) 10 i k is js ps a w.drew):(Code.region id ops true).wp P Q a w:=by
 simp only [Bool.and_eq_true,beq_iff_eq] at hB
 have:=r0S (md:=.any) hB.1.1 (fun _ _ _ _ _ h=>h) ps _ a _ (Wd.mem hS) hB.2 (h ⟨⟨_,hS⟩⟩)
 rw [hB.1.2] at this;exact (wpIn_wide (n:=10)).1 (Go.wpIn_mono (wpIn_region_any hm (c0I _ _ _ _ this)) (fun _ _ _ h=>g0M h))
end
section
open Go.Shelf
attribute [local go_sem] Oper.semAt_some
theorem Ixp.takes1_keeps (ix:Ixp) (i:Nat):(ix.takes1 i).ts.length=ix.ts.length/\(ix.takes1 i).logn<=ix.logn+1/\(ix.takes1 i).m=ix.m:=by
 unfold takes1
 split
 ·split
  ·exact ⟨by simp,by simp,rfl⟩
  ·exact ⟨rfl,by omega,rfl⟩
 ·exact ⟨rfl,by omega,rfl⟩
theorem Ixp.takesL_keeps:∀ (c i:Nat) (ix:Ixp),(Ixp.takesL c i ix).ts.length=ix.ts.length/\(Ixp.takesL c i ix).logn<=ix.logn+c/\(Ixp.takesL c i ix).m=ix.m
 | 0,_,ix=>⟨rfl,by simp [Ixp.takesL],rfl⟩
 | c+1,i,ix=>by
  obtain ⟨a1,a2,a3⟩:=Ixp.takes1_keeps ix i;obtain ⟨b1,b2,b3⟩:=Ixp.takesL_keeps c (i+1) (ix.takes1 i);refine ⟨by rw [Ixp.takesL,b1,a1],by rw [Ixp.takesL];omega,by rw [Ixp.takesL,b3,a3]⟩
theorem Tp.step_fr {q:Tp} {p:Fp} {m:Mst} {r:(Rs × List (Int × Int)) × Bool} {q':Tp} {m':Mst} (h:q.step p m=(r,(q',m'))):∃ p',q'.fr=some p':=by
 unfold Tp.step at h
 split at h
 ·have:=(Prod.mk.inj (Prod.mk.inj h).2).1
  exact ⟨_,by rw [<- this]⟩
 ·have:=(Prod.mk.inj (Prod.mk.inj h).2).1
  exact ⟨_,by rw [<- this]⟩
theorem Tp.step_none {q:Tp} {p:Fp} {m:Mst} {r:Rs} {L:List (Int × Int)} {z:Tp × Mst} (h:q.step p m=(((r,L),false),z)):r=Rs.none/\L=[]:=by
 unfold Tp.step at h
 split at h
 ·have:=(Prod.mk.inj (Prod.mk.inj h).1).2
  cases this
 ·have:=(Prod.mk.inj (Prod.mk.inj (Prod.mk.inj h).1).1)
  exact ⟨this.1.symm,this.2.symm⟩
def Ixp.pick1 (ix:Ixp) (j:Nat) (q1:Tp) (m1:Mst):Ixp:={ ix with m:=m1,ts:=ix.ts.set j q1,picks:=wrap64 (ix.picks+1) }
set_option maxRecDepth 100000 in
set_option maxHeartbeats 4000000 in
theorem pick_r (W:World) (n₀ x mb tb:Nat) (ix:Ixp) (mv:Value) (tv lv:Sl) (pz:List Pt) (h:IxIs W n₀ x ix mb mv tb tv lv pz) (j:Nat) (q:Tp) (pt:Pt) (p:Fp) (hq:ix.ts[j]? = some q) (hp:pz[j]? = some pt) (hb:q.busy=true) (hfr:q.fr=some p) (hlen:p.tape.length<=15990) (hn:n₀<=W.heap.size) (hlog:ix.logn+ix.ts.length<=800000)
  (r:Rs) (L:List (Int × Int)) (b:Bool) (q1:Tp) (m1:Mst) (hs:q.step p ix.m=(((r,L),b),(q1,m1))) (hm1:m1.ok) (ix2:Ixp) (he:Ixp.takesL ix.ts.length 0 (ix.pick1 j q1 m1)=ix2) :
  Calls Tryz.prog 84 #[.pointer (some ⟨x,0,none⟩),.int .i64 (j:Int)] W fun e W'=>(∃ l',e=.returned (.tuple #[.agg (r.cs l'),.bool b])/\PRow W' n₀ 43 l' L)/\(∃ mv' lv' pz',IxIs W' n₀ x { ix2 with logn:=ix2.logn+(if b=true then 1 else 0) } mb mv' tb tv lv' pz')/\Td (Mine W n₀) W W':=by
 obtain ⟨mo,hmo⟩:∃ m,W.heap.size=m:=⟨_,rfl⟩;obtain ⟨Z,hZ⟩:∃ Z:Obj,Z=.cells #[.int .i64 0,.bool false,.int .i64 0,.int .i64 0,.int .i64 0,.slice none 0 0] 76:=⟨_,rfl⟩;obtain ⟨A,hA⟩:∃ A,(W.alloc (.cells #[.int .i64 0,.bool false,.int .i64 0,.int .i64 0,.int .i64 0,.slice none 0 0] 76)).setCell ⟨x,7,none⟩ (.int .i64 (wrap64 (ix.picks+1)))=A:=⟨_,rfl⟩;have tA:Td (fun k=>k=x) W A:=by
  rw [<- hA];exact Kept.then (Td.alloc _ _ _) (Td.setCell (R:=fun k=>k=x) _ _ _ rfl)
 have xb:=h.box;have kM:Kept W (W.alloc (.cells #[.int .i64 0,.bool false,.int .i64 0,.int .i64 0,.int .i64 0,.slice none 0 0] 76)):=Td.alloc _ _ _;have bA:A.heap[x]? = some (.cells (({ ix with picks:=wrap64 (ix.picks+1) }:Ixp).cs mb tv lv) 31):=by
  rw [<- hA]
  have:=kM.heap xb id
  simp [World.setCell,Array.getElem?_modify,this,Ixp.cs]
 have rA:A.heap[mo]? = some (.cells #[.int .i64 0,.bool false,.int .i64 0,.int .i64 0,.int .i64 0,.slice none 0 0] 76):=by
  have h1:=a0C W (.cells #[.int .i64 0,.bool false,.int .i64 0,.int .i64 0,.int .i64 0,.slice none 0 0] 76);rw [hmo] at h1;have h2:mo≠x:=by have:=(Array.getElem?_eq_some_iff.1 xb).1;omega
  rw [<- hA];exact (Td.setCell (R:=fun k=>k=x) _ _ _ rfl).heap h1 h2
 have iA:IxIs A n₀ x { ix with picks:=wrap64 (ix.picks+1) } mb mv tb tv lv pz:=h.boxed (ix':={ ix with picks:=wrap64 (ix.picks+1) }) (tA.mono fun _ _ e=>.inl e) bA rfl rfl (h.log.turned tA (fun g e e'=>by
  obtain ⟨c,hc⟩:=h.log.typed g e;rw [e',xb] at hc;simp at hc))
 obtain ⟨V,hV⟩:∃ V,A.drew=V:=⟨_,rfl⟩;have kV:Kept A V:=by rw [<- hV];exact Kept.drew _
 have iV:=iA.kept kV;have th:=iV.th j q pt hq hp;obtain ⟨f,hf⟩:∃ f,pt.fa=some f:=by
  rcases th.fr with ⟨_,h2,_⟩ | ⟨f,_,h1,_,_⟩
  ·rw [hfr] at h2;cases h2
  ·exact ⟨f,h1⟩
 have thf:ThIs V n₀ pt.t q (some f) pt.tp pt.l:=by rw [<- hf];exact th
 have xl:x < W.heap.size:=(Array.getElem?_eq_some_iff.1 xb).1;have CT:∀ X,Kept V X->Calls Tryz.prog 130 #[.pointer (some ⟨pt.t,0,none⟩),.pointer (some ⟨mb,0,none⟩)] X fun e W'=>∃ tp' l',e=.returned (.tuple #[.agg (r.cs l'),.bool b])/\PRow W' n₀ 43 l' L/\Stept X n₀ pt.t f mb pt.tp mv q1 m1 tp' W':=fun X kX=>by
  have iX:=iV.kept kX;have thX:=iX.th j q pt hq hp;rw [hf] at thX;exact tstep_r X n₀ pt.t f q p pt.tp pt.l mb mv ix.m thX hb hfr iX.mem iX.mok (iX.da j pt hp) (Nat.le_trans hn (Nat.le_trans tA.size (Nat.le_trans kV.size kX.size))) hlen r L b q1 m1 hs
 obtain ⟨⟨c3,c4,_,_,c7⟩,cf⟩:=h.cells;obtain ⟨⟨e3,e4,_,_,_⟩,_⟩:=iV.cells;have ej:=iV.slot hp;have cj:=h.slot hp;have cb:=(h.th j q pt hq hp).cells.1.2.1;rw [hb] at cb;have k1:∀ o,Kept W (W.alloc o):=fun o=>Td.alloc _ _ _;have w4:∀ o,(W.alloc o).cell? ⟨x,4,none⟩=some (.slice (some ⟨tb,0,none⟩) tv.n tv.c):=fun o=>(k1 o).cell c4 id;have w7:∀ o,(W.alloc o).cell? ⟨x,7,none⟩=some (.int .i64 ix.picks):=fun o=>(k1 o).cell c7 id;have wj:∀ o,(W.alloc o).cell? ⟨tb,j,none⟩=some (.pointer (some ⟨pt.t,0,none⟩)):=fun o=>(k1 o).cell cj id;have wb:∀ o,(W.alloc o).cell? ⟨pt.t,1,none⟩=some (.bool true):=fun o=>(k1 o).cell cb id;have wf:∀ o,(W.alloc o).frozen? ⟨x,7,none⟩=false:=fun o=>by rw [(k1 o).frozen (by simp only;omega) id];exact cf 7
 have nox:¬ Own pt mb mv x:=e0B th iV.mem iV.box (by decide) (by decide) (by decide) (by decide);have notb:¬ Own pt mb mv tb:=by
  obtain ⟨c,h1,_⟩:=iV.row;exact e0B th iV.mem h1 (by decide) (by decide) (by decide) (by decide)
 have rV:=kV.heap rA id;have nomo:¬ Own pt mb mv mo:=e0B th iV.mem rV (by decide) (by decide) (by decide) (by decide);have x3:∀ u:Wd (fun U=>Td (Own pt mb mv) V U),u.w.cell? ⟨x,3,none⟩=some (.pointer (some ⟨mb,0,none⟩)):=fun u=>u.ok.cell e3 nox;have x4:∀ u:Wd (fun U=>Td (Own pt mb mv) V U),u.w.cell? ⟨x,4,none⟩=some (.slice (some ⟨tb,0,none⟩) tv.n tv.c):=fun u=>u.ok.cell e4 nox;have xj:∀ u:Wd (fun U=>Td (Own pt mb mv) V U),u.w.cell? ⟨tb,j,none⟩=some (.pointer (some ⟨pt.t,0,none⟩)):=fun u=>u.ok.cell ej notb;have jl:j < ix.ts.length:=(List.getElem?_eq_some_iff.1 hq).1;have j1:(j:Int) < (tv.n:Int):=by have:=h.tvn.1;omega
 have j2:j < tv.c:=by have:=h.tvn;omega
 have j0:decide ((j:Int) < 0)=false:=by simp
 have j3:decide ((tv.n:Int)<=(j:Int))=false:=by simp;omega
 have HOWN:Hid (∀ k,Own pt mb mv k->n₀<=k):=gh (by
  rintro k (e | e | e | e)
  ·rw [e];exact th.le
  ·rcases th.fr with ⟨h1,_⟩ | ⟨f',p',h1,h2,F⟩
   ·rw [h1] at e;cases e
   ·rw [h1] at e;cases e;exact F.le
  ·rcases th.fr with ⟨_,_,h3⟩ | ⟨f',p',h1,h2,F⟩
   ·rw [h3] at e;simp [Sl.nil,Sl.v,Value.ownBlock] at e
   ·exact (F.row.lt k e).1
  ·exact (iV.mem.lt k e).1)
 have HCT:=gh CT;have HA:=gh hA;have HV:=gh hV;have TA:=gh tA;have KV:=gh kV;have IV:=gh iV;have HQ:=gh hq;have HP:=gh hp;have HF:=gh hf;have RV:=gh rV;have NOMO:=gh nomo;have HN:=gh hn;have HLOG:=gh hlog;have HS:=gh hs;have HM1:=gh hm1;have HE:=gh he;have HMI:Hid (Mines W n₀ x mb mv lv pz/\pt ∈ pz):=gh ⟨h.mines,List.mem_of_getElem? hp⟩;have XL:Hid (x < W.heap.size/\n₀<=x/\W.heap.size=mo):=gh ⟨xl,h.le,hmo⟩;have JL:=gh jl;clear h hq hp hb hfr hlen hn hlog hs hm1 he hmo hZ hA tA xb bA rA kM iA hV kV iV th hf thf xl CT c3 c4 c7 cf e3 e4 ej cj cb k1 nox notb rV nomo jl;go_enter Tryz.func84,Tryz.ntmps84;go_wp2_with (fail);rw [HA.o,XL.o.2.2];obtain ⟨r0,r1,r2,r3,r4⟩:=r;refine q0D [0,1,2,3,4,5,6,7,8,9,10] 11 15 [12,13,14,15,16,17] [11,12,13,14,16,17] (fun U=>Td (Own pt mb mv) V U) (by kernel_rfl) (by kernel_rfl) (by rw [HV.o];exact Td.refl _ _) (fun _=>?_);rw [HV.o]
 repeat (refine fq rfl rfl ?_;go_big_quiet_step (fail);refine wpQuiet_nil ?_)
 refine fl rfl rfl ?_ ?_
 ·gi_wp2_with (fail);refine ⟨trivial,?_⟩;have KV0:Kept V V:=Td.refl _ _;refine (callsIn_wide.2 (HCT.o V KV0)).mono ?_;rintro e U ⟨tp',l0,rfl,PR,ST⟩;obtain ⟨la,ln,lc,hl'⟩:∃ la ln lc,l0=.slice la ln lc:=by
   obtain ⟨a,cap,e,_⟩:=PR.reads;exact ⟨_,_,_,e⟩
  subst hl';have HPR:=gh PR;have TU:Hid (Td (Own pt mb mv) V U):=gh (ST.turned.mono fun k _ e=>by
   rcases e with e | e | e | e
   ·exact .inl e
   ·exact .inr (.inl (by rw [e];exact HF.o))
   ·exact .inr (.inr (.inl e))
   ·exact .inr (.inr (.inr e)))
  have IX:=IV.o.kept KV0;obtain ⟨⟨l2,TH⟩,⟨mv',D',AP,FT⟩,_,NEW⟩:=ST;obtain ⟨P',hP'⟩:∃ P':Pt,P'=⟨pt.t,some f,tp',l2⟩:=⟨_,rfl⟩;have IU:Hid (IxIs U n₀ x (ix.pick1 j q1 m1) mb mv' tb tv lv (pz.set j P')):=gh (by
   subst hP';exact IX.thread HQ.o HP.o (p':=⟨pt.t,some f,tp',l2⟩) TH rfl D' HM1.o TU.o (fun f' e=>.inl (by rw [HF.o];exact e)) NEW FT AP (fun _=>Tp.step_fr HS.o))
  have HPT:Hid (P'.t=pt.t):=gh (by rw [hP']);have OU:=gh (TU.o.heap (KV0.heap RV.o id) NOMO.o);clear PR TH D' AP FT NEW hP' IX;dsimp only [Rs.cs];gi_wp2_with (fail);refine ⟨Wd.mem TU.o,?_⟩
  repeat (refine pq rfl rfl ?_;go_big_quiet_step (fail);refine wpQuiet_nil ?_)
  refine pl rfl rfl ?_;gi_wp2;obtain ⟨mr,hmr⟩:∃ m,U.heap.size=m:=⟨_,rfl⟩;obtain ⟨U1,hU1⟩:∃ U1,U.alloc (.cells #[.int .i64 0,.bool false,.int .i64 0,.int .i64 0,.int .i64 0,.slice none 0 0] 76)=U1:=⟨_,rfl⟩;have kU1:Kept U U1:=by rw [<- hU1];exact Td.alloc _ _ _
  have rU1:U1.heap[mr]? = some (.cells #[.int .i64 0,.bool false,.int .i64 0,.int .i64 0,.int .i64 0,.slice none 0 0] 76):=by rw [<- hU1,<- hmr];exact a0C _ _
  have KT:Hid (Td (Own pt mb mv) V U1):=gh (TU.o.trans kU1 (fun _ e=>e) (fun _ _ e=>e.elim));have HM:Hid (V.heap.size<=mr):=gh (by have:=TU.o.size;omega);have HPR1:=gh (HPR.o.turned kU1 (fun _ _ e=>e));have IU1:=gh (IU.o.kept kU1);have OU1:=gh (kU1.heap OU.o id);rw [hU1,hmr];refine ⟨Wd.mem KT.o,?_⟩;clear IU OU HPR hmr hU1 kU1 TU KV0;obtain ⟨d0,d1,d2,d3,d4,d5,df⟩:=b0E rU1;have f0:=df 0;have f1:=df 1;have f2:=df 2;have f3:=df 3;have f4:=df 4;have f5:=df 5;obtain ⟨U6,hU6⟩:∃ U6,((((((U1.setCell ⟨mr,0,none⟩ (.int .i64 r0)).setCell ⟨mr,1,none⟩ (.bool r1)).setCell ⟨mr,2,none⟩ (.int .i64 r2)).setCell ⟨mr,3,none⟩ (.int .i64 r3)).setCell ⟨mr,4,none⟩ (.int .i64 r4)).setCell ⟨mr,5,none⟩ (.slice la ln lc))=U6:=⟨_,rfl⟩;have t6:Td (fun k=>k=mr) U1 U6:=by rw [<- hU6];exact (put6 rU1 _ _ _ _ _ _).2
  have r6:U6.heap[mr]? = some (.cells #[.int .i64 r0,.bool r1,.int .i64 r2,.int .i64 r3,.int .i64 r4,.slice la ln lc] 76):=by rw [<- hU6];exact (put6 rU1 _ _ _ _ _ _).1
  have RU1:=gh rU1;have T6:=gh t6;have R6:=gh r6;have HU6:=gh hU6;clear rU1 df t6 r6 hU6;refine pl rfl rfl ?_;gi_wp2;rw [HU6.o];refine ⟨Wd.mem (KT.o.trans T6.o (fun _ e=>e) (fun k hk e=>by have:=HM.o;omega)),?_⟩
  try dsimp only [Act.put]
  repeat (refine pq rfl rfl ?_;go_big_quiet_step (fail);refine wpQuiet_nil ?_)
  refine a0J ?_;clear x3 x4 xj d0 d1 d2 d3 d4 d5 f0 f1 f2 f3 f4 f5;have i6:=IU1.o.answer RU1.o T6.o;have pl6:(ix.pick1 j q1 m1).ts.length=ix.ts.length:=by simp [Ixp.pick1]
  have nmr:mo≠mr:=fun e=>by
   have h1:=(Array.getElem?_eq_some_iff.1 RV.o).1
   have:=HM.o
   omega
  have o6:=T6.o.heap OU1.o nmr;have PR6:PRow U6 n₀ 43 (.slice la ln lc) L:=HPR1.o.turned T6.o (fun g e e'=>by
   obtain ⟨c,hc⟩:=HPR1.o.typed g e;rw [e',RU1.o] at hc;simp at hc)
  have T0:Hid (Td (Mine W n₀) W U6):=gh (((TA.o.trans KV.o (R'':=Mine W n₀) (fun k e=>by rw [e];exact HMI.o.1.box) (fun _ _ e=>e.elim)).trans KT.o (fun _ e=>e) (fun k _ e=>(HMI.o.1.th pt HMI.o.2).2 k e)).trans T6.o (fun _ e=>e) (fun k hk e=>absurd hk (by
   have h2:=HN.o;have h3:=TA.o.size;have h4:=KV.o.size
   have:=HM.o
   omega)))
  have CT7:=gh (t0L U6 n₀ x mb tb (ix.pick1 j q1 m1) mv' tv lv (pz.set j P') i6 (Nat.le_trans HN.o T0.o.size) (by rw [pl6];exact HLOG.o) ix2 (by rw [pl6];exact HE.o));have I6:=gh i6;have O6:=gh o6;have HPR6:=gh PR6;have NMR:=gh nmr;have PL6:=gh pl6;clear i6 pl6 nmr o6 PR6;go_wp2_with (fail);refine CT7.o.mono ?_;rintro e U7 ⟨rfl,⟨lv7,i7,hlv7⟩,T7⟩;have apart:∀ {y:Nat} {c:Array Value} {T:TypeId},U6.heap[y]? = some (.cells c T)->T≠31->T≠116->T≠168->¬ (y=x∨(∃ p,p ∈ pz.set j P'/\y=p.t)∨lv.v.ownBlock=some y):=fun {y c T} hy e1 e2 e3=>by
   rintro (e | ⟨p,hp,e⟩ | e)
   ·have:=I6.o.box
    rw [<- e,hy] at this;simp at this;exact e1 this.2
   ·obtain ⟨i,hi,hi'⟩:=List.getElem_of_mem hp;have h1:(pz.set j P')[i]? = some p:=by rw [List.getElem?_eq_getElem hi,hi']
    have h2:i < (ix.pick1 j q1 m1).ts.length:=by rw [<- I6.o.pn];exact hi
    have:=(I6.o.th i _ p (List.getElem?_eq_getElem h2) h1).box
    rw [<- e,hy] at this;simp at this;exact e2 this.2
   ·obtain ⟨c',hc⟩:=I6.o.log.typed y e;rw [hy] at hc;simp at hc;exact e3 hc.2
  have o7:=T7.heap O6.o (apart O6.o (by decide) (by decide) (by decide));have r7:=T7.heap R6.o (apart R6.o (by decide) (by decide) (by decide));have HPR7:=gh (HPR6.o.turned T7 (fun g e=>by
   obtain ⟨c,hc⟩:=HPR6.o.typed g e;exact apart hc (by decide) (by decide) (by decide)))
  have T07:Hid (Td (Mine W n₀) W U7):=gh (T0.o.trans T7 (fun _ e=>e) (fun k _ e=>by
   rcases e with e | ⟨p,hp,e⟩ | e
   ·rw [e];exact HMI.o.1.box
   ·rw [e];rcases List.mem_or_eq_of_mem_set hp with hp | rfl
    ·exact (HMI.o.1.th p hp).1
    ·rw [HPT.o];exact (HMI.o.1.th pt HMI.o.2).1
   ·exact HMI.o.1.log k e))
  have HLV7:=gh hlv7;have I7:=gh i7;have O7:=gh o7;have R7:=gh r7;obtain ⟨d0,d1,d2,d3,d4,d5,df⟩:=b0E o7;have f0:=df 0;have f1:=df 1;have f2:=df 2;have f3:=df 3;have f4:=df 4;have f5:=df 5;clear i7 hlv7 T7 apart o7 r7 df;cases b with
  | false=>
   obtain ⟨h1,h2⟩:=Tp.step_none HS.o;have H1:=gh h1;have H2:=gh h2;clear h1 h2;go_wp2;refine bodyPost_ret (rcb rfl _ _ mo 76 _ _ _ rfl (put6 O7.o _ _ _ _ _ _).1 Tryz.underlying76 rfl b0T) rfl ?_;obtain ⟨U8,hU8⟩:∃ U8,((((((U7.setCell ⟨mo,0,none⟩ (.int .i64 0)).setCell ⟨mo,1,none⟩ (.bool false)).setCell ⟨mo,2,none⟩ (.int .i64 0)).setCell ⟨mo,3,none⟩ (.int .i64 0)).setCell ⟨mo,4,none⟩ (.int .i64 0)).setCell ⟨mo,5,none⟩ (.slice none 0 0))=U8:=⟨_,rfl⟩;have t8:Td (fun k=>k=mo) U7 U8:=by rw [<- hU8];exact (put6 O7.o _ _ _ _ _ _).2
   rw [hU8];refine ⟨⟨.slice none 0 0,by rw [H1.o];rfl,by rw [H2.o];exact PRow.nil _ _ _⟩,⟨mv',lv7,_,I7.o.answer O7.o t8⟩,T07.o.trans t8 (fun _ e=>e) (fun k hk e=>absurd hk (by rw [e];have:=XL.o;omega))⟩
  | true=>
   have ln2:ix2.ts.length=ix.ts.length:=by rw [<- HE.o,(Ixp.takesL_keeps _ _ _).1];exact PL6.o
   have lg2:ix2.logn<=800000:=by
    have h1:=(Ixp.takesL_keeps ix.ts.length 0 (ix.pick1 j q1 m1)).2.1;rw [HE.o] at h1;have h2:(ix.pick1 j q1 m1).logn=ix.logn:=rfl
    have:=HLOG.o
    omega
   obtain ⟨q2,hq2⟩:∃ q2,ix2.ts[j]? = some q2:=⟨_,List.getElem?_eq_getElem (by rw [ln2];exact JL.o)⟩;have hp7:(pz.set j P')[j]? = some P':=by
    have h1:pz.length=ix.ts.length:=IV.o.pn
    have:=JL.o
    rw [List.getElem?_set,if_pos rfl,if_pos (by omega)]
   obtain ⟨V8,hV8⟩:∃ V8,U7.drew=V8:=⟨_,rfl⟩;have k8:Kept U7 V8:=by rw [<- hV8];exact Kept.drew _
   have ix8:=I7.o.kept k8;have th8:=ix8.th j q2 P' hq2 hp7;obtain ⟨⟨_,c4,c5,_,c7⟩,_⟩:=ix8.cells;have cj:=ix8.slot hp7;have c8:=th8.cells.1.2.2.2.2.2.2.2.2;have r8:=k8.heap R7.o id;have o8:=k8.heap O7.o id;obtain ⟨s0,s1,s2,s3,s4,s5,_⟩:=b0E r8;have lt:∀ {y:Nat} {c:Array Value} {T:TypeId},V8.heap[y]? = some (.cells c T)->T≠168->¬ lv7.v.ownBlock=some y:=fun hy e1 e2=>by
    obtain ⟨c',hc⟩:=ix8.log.typed _ e2;rw [hy] at hc;simp at hc;exact e1 hc.2
   have nlx:¬ lv7.v.ownBlock=some x:=lt ix8.box (by decide);have nlt:¬ lv7.v.ownBlock=some P'.t:=lt th8.box (by decide);have nlr:¬ lv7.v.ownBlock=some mr:=lt r8 (by decide);have nlo:¬ lv7.v.ownBlock=some mo:=lt o8 (by decide);have nlb:¬ lv7.v.ownBlock=some tb:=by
    obtain ⟨c,h1,_⟩:=ix8.row;exact lt h1 (by decide)
   have z0:∀ u:Wd (fun U=>Td (fun k=>lv7.v.ownBlock=some k) V8 U),u.w.cell? ⟨x,4,none⟩=some (.slice (some ⟨tb,0,none⟩) tv.n tv.c):=fun u=>u.ok.cell c4 nlx;have z1:∀ u:Wd (fun U=>Td (fun k=>lv7.v.ownBlock=some k) V8 U),u.w.cell? ⟨tb,j,none⟩=some (.pointer (some ⟨P'.t,0,none⟩)):=fun u=>u.ok.cell cj nlb;have z2:∀ u:Wd (fun U=>Td (fun k=>lv7.v.ownBlock=some k) V8 U),u.w.cell? ⟨x,5,none⟩=some (.slice lv7.a lv7.n lv7.c):=fun u=>u.ok.cell c5 nlx;have z3:∀ u:Wd (fun U=>Td (fun k=>lv7.v.ownBlock=some k) V8 U),u.w.cell? ⟨x,7,none⟩=some (.int .i64 ix2.picks):=fun u=>u.ok.cell c7 nlx;have z4:∀ u:Wd (fun U=>Td (fun k=>lv7.v.ownBlock=some k) V8 U),u.w.cell? ⟨P'.t,8,none⟩=some (.int .i64 q2.no):=fun u=>u.ok.cell c8 nlt;have y0:∀ u:Wd (fun U=>Td (fun k=>lv7.v.ownBlock=some k) V8 U),u.w.cell? ⟨mr,0,none⟩=some (.int .i64 r0):=fun u=>u.ok.cell s0 nlr;have y1:∀ u:Wd (fun U=>Td (fun k=>lv7.v.ownBlock=some k) V8 U),u.w.cell? ⟨mr,1,none⟩=some (.bool r1):=fun u=>u.ok.cell s1 nlr;have y2:∀ u:Wd (fun U=>Td (fun k=>lv7.v.ownBlock=some k) V8 U),u.w.cell? ⟨mr,2,none⟩=some (.int .i64 r2):=fun u=>u.ok.cell s2 nlr;have y3:∀ u:Wd (fun U=>Td (fun k=>lv7.v.ownBlock=some k) V8 U),u.w.cell? ⟨mr,3,none⟩=some (.int .i64 r3):=fun u=>u.ok.cell s3 nlr;have y4:∀ u:Wd (fun U=>Td (fun k=>lv7.v.ownBlock=some k) V8 U),u.w.cell? ⟨mr,4,none⟩=some (.int .i64 r4):=fun u=>u.ok.cell s4 nlr;have y5:∀ u:Wd (fun U=>Td (fun k=>lv7.v.ownBlock=some k) V8 U),u.w.cell? ⟨mr,5,none⟩=some (.slice la ln lc):=fun u=>u.ok.cell s5 nlr;have IX8:=gh ix8;have HV8:=gh hV8;have K8:=gh k8;have R8:=gh r8;have O8:=gh o8;have LG2:=gh lg2;have NL:=gh (And.intro nlx (And.intro nlr nlo));have HPR8:=gh (HPR7.o.turned k8 (fun _ _ e=>e));have SZ8:Hid (n₀<=V8.heap.size):=gh (Nat.le_trans HN.o (Nat.le_trans T07.o.size k8.size));clear ln2 lg2 hq2 hp7 hV8 k8 ix8 th8 c4 c5 c7 cj c8 r8 o8 s0 s1 s2 s3 s4 s5 lt nlx nlt nlr nlo nlb d0 d1 d2 d3 d4 d5 f0 f1 f2 f3 f4 f5;go_wp2_with (fail);refine b0P [0,1,2,3,4,5,6,7,8,9,10,11,12,13,14,15,16,17,18,19,20,21,22,23,24,25] 26 (fun U=>Td (fun k=>lv7.v.ownBlock=some k) V8 U) (by kernel_rfl) (by kernel_rfl) (by rw [HV8.o];exact Td.refl _ _) (fun _=>?_);rw [HV8.o]
   repeat (refine lq rfl rfl ?_;go_big_quiet_step (fail);refine wpQuiet_nil ?_)
   refine ll rfl rfl ?_;gi_wp2;refine ⟨Wd.mem (Td.alloc _ _ _),?_⟩;refine ll rfl rfl ?_;gi_wp2_with (gi_at_builtin;refine Stop.out ?_);refine ⟨?_⟩;refine b0N rfl _ _ rfl n₀ lv7.v ix2.logn rfl (IX8.o.log.turned (Td.alloc (fun _=>False) V8 _) (fun _ _ e=>e)) V8.heap.size _ rfl (a0C _ _) rfl (by simp [Value.oneCell']) (by have:=LG2.o;omega) (by have:=SZ8.o;simp;omega) ?_;rintro v9 A1 hlog9 ⟨la9,lc9,rfl⟩ hgrow hat;have TA9:Hid (Td (fun k=>lv7.v.ownBlock=some k) V8 A1):=gh (Kept.then (Td.alloc (fun _=>False) V8 _) (Td.of_grownBy (R:=fun k=>lv7.v.ownBlock=some k) hgrow (fun _ h=>h)));have bxA:=TA9.o.heap IX8.o.box NL.o.1;have cA:A1.cell? ⟨x,5,none⟩=some (.slice lv7.a lv7.n lv7.c):=by simp [World.cell?,bxA,Ixp.cs]
   have gA:A1.frozen? ⟨x,5,none⟩=false:=by simp [World.frozen?,bxA]
   obtain ⟨A2,hA2⟩:∃ A2,A1.setCell ⟨x,5,none⟩ (.slice la9 (ix2.logn+1) lc9)=A2:=⟨_,rfl⟩;have tA2:Td (fun k=>k=x) A1 A2:=by rw [<- hA2];exact Td.setCell (R:=fun k=>k=x) _ _ _ rfl
   have TX:Hid (Td (fun k=>k=x∨lv7.v.ownBlock=some k) V8 A2):=gh (TA9.o.trans tA2 (fun _ e=>.inr e) (fun _ _ e=>.inl e));have IXE:Hid (IxIs A2 n₀ x { ix2 with logn:=ix2.logn+1 } mb mv' tb tv ⟨la9,ix2.logn+1,lc9⟩ (pz.set j P')):=gh (by
    refine IX8.o.boxed (ix':={ ix2 with logn:=ix2.logn+1 }) TX.o ?_ rfl rfl (hlog9.turned tA2 (fun g e e'=>?_))
    ·rw [<- hA2];simp [World.setCell,Array.getElem?_modify,bxA,Ixp.cs]
    ·obtain ⟨c,hc⟩:=hlog9.typed g e;rw [e',bxA] at hc;simp at hc)
   have nx:∀ {y:Nat} {c:Array Value},V8.heap[y]? = some (.cells c 76)->y≠x:=fun hy e=>by
    have:=IX8.o.box
    rw [<- e,hy] at this;simp at this
   have o9:=TX.o.heap O8.o (fun e=>e.elim (nx O8.o) NL.o.2.2);have r9:=TX.o.heap R8.o (fun e=>e.elim (nx R8.o) NL.o.2.1);have PR9:Hid (PRow A2 n₀ 43 (.slice la ln lc) L):=gh (HPR8.o.turned TX.o (fun g e=>by
    obtain ⟨c,hc⟩:=HPR8.o.typed g e;rintro (e' | e')
    ·have:=IX8.o.box
     rw [<- e',hc] at this;simp at this
    ·obtain ⟨c',hc'⟩:=IX8.o.log.typed g e';rw [hc] at hc';simp at hc'))
   have TE:Hid (Td (Mine W n₀) W A2):=gh ((T07.o.trans K8.o (fun _ e=>e) (fun _ _ e=>e.elim)).trans TX.o (fun _ e=>e) (fun k hk e=>by
    rcases e with e | e
    ·rw [e];exact HMI.o.1.box
    ·rcases HLV7.o k e with e | e
     ·exact HMI.o.1.log k e
     ·exact absurd hk (by have:=T0.o.size;omega)))
   have O9:=gh o9;have R9:=gh r9;have HA2:=gh hA2;clear hlog9 hgrow hat hA2 tA2 bxA nx o9 r9;gi_wp2;refine ⟨Wd.mem TA9.o,?_⟩;simp only [Act.put,List.setIfInBounds_toArray,List.set_cons_succ,List.set_cons_zero]
   repeat (refine lq rfl rfl ?_;go_big_quiet_step (fail);refine wpQuiet_nil ?_)
   refine lz rfl ?_;gi_wp2;refine c0J ?_;rw [HA2.o];clear z0 z1 z2 z3 z4 y0 y1 y2 y3 y4 y5 cA gA;obtain ⟨d0,d1,d2,d3,d4,d5,df⟩:=b0E O9.o;obtain ⟨g0,g1,g2,g3,g4,g5,_⟩:=b0E R9.o;have f0:=df 0;have f1:=df 1;have f2:=df 2;have f3:=df 3;have f4:=df 4;have f5:=df 5;clear df;go_wp2;refine bodyPost_ret (rcb rfl _ _ mo 76 _ _ _ rfl (put6 O9.o _ _ _ _ _ _).1 Tryz.underlying76 rfl b0T) rfl ?_;obtain ⟨U8,hU8⟩:∃ U8,((((((A2.setCell ⟨mo,0,none⟩ (.int .i64 r0)).setCell ⟨mo,1,none⟩ (.bool r1)).setCell ⟨mo,2,none⟩ (.int .i64 r2)).setCell ⟨mo,3,none⟩ (.int .i64 r3)).setCell ⟨mo,4,none⟩ (.int .i64 r4)).setCell ⟨mo,5,none⟩ (.slice la ln lc))=U8:=⟨_,rfl⟩;have t8:Td (fun k=>k=mo) A2 U8:=by rw [<- hU8];exact (put6 O9.o _ _ _ _ _ _).2
   rw [hU8];refine ⟨⟨.slice la ln lc,rfl,PR9.o.turned t8 (fun g e e'=>by
    obtain ⟨c,hc⟩:=PR9.o.typed g e;rw [e',O9.o] at hc;simp at hc)⟩,⟨mv',⟨la9,ix2.logn+1,lc9⟩,_,IXE.o.answer O9.o t8⟩,TE.o.trans t8 (fun _ e=>e) (fun k hk e=>absurd hk (by rw [e];have:=XL.o;omega))⟩
 ·gi_wp2;obtain ⟨mr,hmr⟩:∃ m,V.heap.size=m:=⟨_,rfl⟩;obtain ⟨VX,hVX⟩:∃ VX,V.alloc (.cells #[.int .i64 0,.bool false,.int .i64 0,.int .i64 0,.int .i64 0,.slice none 0 0] 76)=VX:=⟨_,rfl⟩;have KVX:Kept V VX:=by rw [<- hVX];exact Td.alloc _ _ _
  have rX:VX.heap[mr]? = some (.cells #[.int .i64 0,.bool false,.int .i64 0,.int .i64 0,.int .i64 0,.slice none 0 0] 76):=by rw [<- hVX,<- hmr];exact a0C _ _
  have nox:¬ Own pt mb mv mr:=e0B ((IV.o.kept KVX).th j q pt HQ.o HP.o) (IV.o.kept KVX).mem rX (by decide) (by decide) (by decide) (by decide);rw [hVX,hmr];refine ⟨Wd.mem (KVX.mono fun _ _ e=>e.elim),?_⟩;refine pl rfl rfl ?_;gi_wp2_with (fail);refine ⟨trivial,?_⟩;refine (callsIn_wide.2 (HCT.o VX KVX)).mono ?_;rintro e U ⟨tp',l0,rfl,PR,ST⟩;obtain ⟨la,ln,lc,hl'⟩:∃ la ln lc,l0=.slice la ln lc:=by
   obtain ⟨a,cap,e,_⟩:=PR.reads;exact ⟨_,_,_,e⟩
  subst hl';have HPR:=gh PR;have TU:Hid (Td (Own pt mb mv) VX U):=gh (ST.turned.mono fun k _ e=>by
   rcases e with e | e | e | e
   ·exact .inl e
   ·exact .inr (.inl (by rw [e];exact HF.o))
   ·exact .inr (.inr (.inl e))
   ·exact .inr (.inr (.inr e)))
  have IX:=IV.o.kept KVX;obtain ⟨⟨l2,TH⟩,⟨mv',D',AP,FT⟩,_,NEW⟩:=ST;obtain ⟨P',hP'⟩:∃ P':Pt,P'=⟨pt.t,some f,tp',l2⟩:=⟨_,rfl⟩;have IU:Hid (IxIs U n₀ x (ix.pick1 j q1 m1) mb mv' tb tv lv (pz.set j P')):=gh (by
   subst hP';exact IX.thread HQ.o HP.o (p':=⟨pt.t,some f,tp',l2⟩) TH rfl D' HM1.o TU.o (fun f' e=>.inl (by rw [HF.o];exact e)) NEW FT AP (fun _=>Tp.step_fr HS.o))
  have HPT:Hid (P'.t=pt.t):=gh (by rw [hP']);have OU:=gh (TU.o.heap (KVX.heap RV.o id) NOMO.o);clear PR TH D' AP FT NEW hP' IX;dsimp only [Rs.cs];gi_wp2_with (fail);have KT:Hid (Td (Own pt mb mv) V U):=gh (KVX.then TU.o);refine ⟨Wd.mem KT.o,?_⟩;obtain ⟨U1,hU1⟩:∃ U1,U=U1:=⟨_,rfl⟩;have rU1:=TU.o.heap rX nox;have HM:Hid (V.heap.size<=mr):=gh (by omega);have IU1:=IU;have OU1:=OU;have HPR1:=HPR;rw [hU1] at rU1 IU1 OU1 HPR1 KT;rw [hU1];clear IU OU HPR hmr hU1 TU KVX hVX rX nox
  repeat (refine pq rfl rfl ?_;go_big_quiet_step (fail);refine wpQuiet_nil ?_)
  obtain ⟨d0,d1,d2,d3,d4,d5,df⟩:=b0E rU1;have f0:=df 0;have f1:=df 1;have f2:=df 2;have f3:=df 3;have f4:=df 4;have f5:=df 5;obtain ⟨U6,hU6⟩:∃ U6,((((((U1.setCell ⟨mr,0,none⟩ (.int .i64 r0)).setCell ⟨mr,1,none⟩ (.bool r1)).setCell ⟨mr,2,none⟩ (.int .i64 r2)).setCell ⟨mr,3,none⟩ (.int .i64 r3)).setCell ⟨mr,4,none⟩ (.int .i64 r4)).setCell ⟨mr,5,none⟩ (.slice la ln lc))=U6:=⟨_,rfl⟩;have t6:Td (fun k=>k=mr) U1 U6:=by rw [<- hU6];exact (put6 rU1 _ _ _ _ _ _).2
  have r6:U6.heap[mr]? = some (.cells #[.int .i64 r0,.bool r1,.int .i64 r2,.int .i64 r3,.int .i64 r4,.slice la ln lc] 76):=by rw [<- hU6];exact (put6 rU1 _ _ _ _ _ _).1
  have RU1:=gh rU1;have T6:=gh t6;have R6:=gh r6;have HU6:=gh hU6;clear rU1 df t6 r6 hU6;refine pl rfl rfl ?_;gi_wp2;rw [HU6.o];refine ⟨Wd.mem (KT.o.trans T6.o (fun _ e=>e) (fun k hk e=>by have:=HM.o;omega)),?_⟩
  try dsimp only [Act.put]
  repeat (refine pq rfl rfl ?_;go_big_quiet_step (fail);refine wpQuiet_nil ?_)
  refine a0J ?_;clear x3 x4 xj d0 d1 d2 d3 d4 d5 f0 f1 f2 f3 f4 f5;have i6:=IU1.o.answer RU1.o T6.o;have pl6:(ix.pick1 j q1 m1).ts.length=ix.ts.length:=by simp [Ixp.pick1]
  have nmr:mo≠mr:=fun e=>by
   have h1:=(Array.getElem?_eq_some_iff.1 RV.o).1
   have:=HM.o
   omega
  have o6:=T6.o.heap OU1.o nmr;have PR6:PRow U6 n₀ 43 (.slice la ln lc) L:=HPR1.o.turned T6.o (fun g e e'=>by
   obtain ⟨c,hc⟩:=HPR1.o.typed g e;rw [e',RU1.o] at hc;simp at hc)
  have T0:Hid (Td (Mine W n₀) W U6):=gh (((TA.o.trans KV.o (R'':=Mine W n₀) (fun k e=>by rw [e];exact HMI.o.1.box) (fun _ _ e=>e.elim)).trans KT.o (fun _ e=>e) (fun k _ e=>(HMI.o.1.th pt HMI.o.2).2 k e)).trans T6.o (fun _ e=>e) (fun k hk e=>absurd hk (by
   have h2:=HN.o;have h3:=TA.o.size;have h4:=KV.o.size
   have:=HM.o
   omega)))
  have CT7:=gh (t0L U6 n₀ x mb tb (ix.pick1 j q1 m1) mv' tv lv (pz.set j P') i6 (Nat.le_trans HN.o T0.o.size) (by rw [pl6];exact HLOG.o) ix2 (by rw [pl6];exact HE.o));have I6:=gh i6;have O6:=gh o6;have HPR6:=gh PR6;have NMR:=gh nmr;have PL6:=gh pl6;clear i6 pl6 nmr o6 PR6;go_wp2_with (fail);refine CT7.o.mono ?_;rintro e U7 ⟨rfl,⟨lv7,i7,hlv7⟩,T7⟩;have apart:∀ {y:Nat} {c:Array Value} {T:TypeId},U6.heap[y]? = some (.cells c T)->T≠31->T≠116->T≠168->¬ (y=x∨(∃ p,p ∈ pz.set j P'/\y=p.t)∨lv.v.ownBlock=some y):=fun {y c T} hy e1 e2 e3=>by
   rintro (e | ⟨p,hp,e⟩ | e)
   ·have:=I6.o.box
    rw [<- e,hy] at this;simp at this;exact e1 this.2
   ·obtain ⟨i,hi,hi'⟩:=List.getElem_of_mem hp;have h1:(pz.set j P')[i]? = some p:=by rw [List.getElem?_eq_getElem hi,hi']
    have h2:i < (ix.pick1 j q1 m1).ts.length:=by rw [<- I6.o.pn];exact hi
    have:=(I6.o.th i _ p (List.getElem?_eq_getElem h2) h1).box
    rw [<- e,hy] at this;simp at this;exact e2 this.2
   ·obtain ⟨c',hc⟩:=I6.o.log.typed y e;rw [hy] at hc;simp at hc;exact e3 hc.2
  have o7:=T7.heap O6.o (apart O6.o (by decide) (by decide) (by decide));have r7:=T7.heap R6.o (apart R6.o (by decide) (by decide) (by decide));have HPR7:=gh (HPR6.o.turned T7 (fun g e=>by
   obtain ⟨c,hc⟩:=HPR6.o.typed g e;exact apart hc (by decide) (by decide) (by decide)))
  have T07:Hid (Td (Mine W n₀) W U7):=gh (T0.o.trans T7 (fun _ e=>e) (fun k _ e=>by
   rcases e with e | ⟨p,hp,e⟩ | e
   ·rw [e];exact HMI.o.1.box
   ·rw [e];rcases List.mem_or_eq_of_mem_set hp with hp | rfl
    ·exact (HMI.o.1.th p hp).1
    ·rw [HPT.o];exact (HMI.o.1.th pt HMI.o.2).1
   ·exact HMI.o.1.log k e))
  have HLV7:=gh hlv7;have I7:=gh i7;have O7:=gh o7;have R7:=gh r7;obtain ⟨d0,d1,d2,d3,d4,d5,df⟩:=b0E o7;have f0:=df 0;have f1:=df 1;have f2:=df 2;have f3:=df 3;have f4:=df 4;have f5:=df 5;clear i7 hlv7 T7 apart o7 r7 df;cases b with
  | false=>
   obtain ⟨h1,h2⟩:=Tp.step_none HS.o;have H1:=gh h1;have H2:=gh h2;clear h1 h2;go_wp2;refine bodyPost_ret (rcb rfl _ _ mo 76 _ _ _ rfl (put6 O7.o _ _ _ _ _ _).1 Tryz.underlying76 rfl b0T) rfl ?_;obtain ⟨U8,hU8⟩:∃ U8,((((((U7.setCell ⟨mo,0,none⟩ (.int .i64 0)).setCell ⟨mo,1,none⟩ (.bool false)).setCell ⟨mo,2,none⟩ (.int .i64 0)).setCell ⟨mo,3,none⟩ (.int .i64 0)).setCell ⟨mo,4,none⟩ (.int .i64 0)).setCell ⟨mo,5,none⟩ (.slice none 0 0))=U8:=⟨_,rfl⟩;have t8:Td (fun k=>k=mo) U7 U8:=by rw [<- hU8];exact (put6 O7.o _ _ _ _ _ _).2
   rw [hU8];refine ⟨⟨.slice none 0 0,by rw [H1.o];rfl,by rw [H2.o];exact PRow.nil _ _ _⟩,⟨mv',lv7,_,I7.o.answer O7.o t8⟩,T07.o.trans t8 (fun _ e=>e) (fun k hk e=>absurd hk (by rw [e];have:=XL.o;omega))⟩
  | true=>
   have ln2:ix2.ts.length=ix.ts.length:=by rw [<- HE.o,(Ixp.takesL_keeps _ _ _).1];exact PL6.o
   have lg2:ix2.logn<=800000:=by
    have h1:=(Ixp.takesL_keeps ix.ts.length 0 (ix.pick1 j q1 m1)).2.1;rw [HE.o] at h1;have h2:(ix.pick1 j q1 m1).logn=ix.logn:=rfl
    have:=HLOG.o
    omega
   obtain ⟨q2,hq2⟩:∃ q2,ix2.ts[j]? = some q2:=⟨_,List.getElem?_eq_getElem (by rw [ln2];exact JL.o)⟩;have hp7:(pz.set j P')[j]? = some P':=by
    have h1:pz.length=ix.ts.length:=IV.o.pn
    have:=JL.o
    rw [List.getElem?_set,if_pos rfl,if_pos (by omega)]
   obtain ⟨V8,hV8⟩:∃ V8,U7.drew=V8:=⟨_,rfl⟩;have k8:Kept U7 V8:=by rw [<- hV8];exact Kept.drew _
   have ix8:=I7.o.kept k8;have th8:=ix8.th j q2 P' hq2 hp7;obtain ⟨⟨_,c4,c5,_,c7⟩,_⟩:=ix8.cells;have cj:=ix8.slot hp7;have c8:=th8.cells.1.2.2.2.2.2.2.2.2;have r8:=k8.heap R7.o id;have o8:=k8.heap O7.o id;obtain ⟨s0,s1,s2,s3,s4,s5,_⟩:=b0E r8;have lt:∀ {y:Nat} {c:Array Value} {T:TypeId},V8.heap[y]? = some (.cells c T)->T≠168->¬ lv7.v.ownBlock=some y:=fun hy e1 e2=>by
    obtain ⟨c',hc⟩:=ix8.log.typed _ e2;rw [hy] at hc;simp at hc;exact e1 hc.2
   have nlx:¬ lv7.v.ownBlock=some x:=lt ix8.box (by decide);have nlt:¬ lv7.v.ownBlock=some P'.t:=lt th8.box (by decide);have nlr:¬ lv7.v.ownBlock=some mr:=lt r8 (by decide);have nlo:¬ lv7.v.ownBlock=some mo:=lt o8 (by decide);have nlb:¬ lv7.v.ownBlock=some tb:=by
    obtain ⟨c,h1,_⟩:=ix8.row;exact lt h1 (by decide)
   have z0:∀ u:Wd (fun U=>Td (fun k=>lv7.v.ownBlock=some k) V8 U),u.w.cell? ⟨x,4,none⟩=some (.slice (some ⟨tb,0,none⟩) tv.n tv.c):=fun u=>u.ok.cell c4 nlx;have z1:∀ u:Wd (fun U=>Td (fun k=>lv7.v.ownBlock=some k) V8 U),u.w.cell? ⟨tb,j,none⟩=some (.pointer (some ⟨P'.t,0,none⟩)):=fun u=>u.ok.cell cj nlb;have z2:∀ u:Wd (fun U=>Td (fun k=>lv7.v.ownBlock=some k) V8 U),u.w.cell? ⟨x,5,none⟩=some (.slice lv7.a lv7.n lv7.c):=fun u=>u.ok.cell c5 nlx;have z3:∀ u:Wd (fun U=>Td (fun k=>lv7.v.ownBlock=some k) V8 U),u.w.cell? ⟨x,7,none⟩=some (.int .i64 ix2.picks):=fun u=>u.ok.cell c7 nlx;have z4:∀ u:Wd (fun U=>Td (fun k=>lv7.v.ownBlock=some k) V8 U),u.w.cell? ⟨P'.t,8,none⟩=some (.int .i64 q2.no):=fun u=>u.ok.cell c8 nlt;have y0:∀ u:Wd (fun U=>Td (fun k=>lv7.v.ownBlock=some k) V8 U),u.w.cell? ⟨mr,0,none⟩=some (.int .i64 r0):=fun u=>u.ok.cell s0 nlr;have y1:∀ u:Wd (fun U=>Td (fun k=>lv7.v.ownBlock=some k) V8 U),u.w.cell? ⟨mr,1,none⟩=some (.bool r1):=fun u=>u.ok.cell s1 nlr;have y2:∀ u:Wd (fun U=>Td (fun k=>lv7.v.ownBlock=some k) V8 U),u.w.cell? ⟨mr,2,none⟩=some (.int .i64 r2):=fun u=>u.ok.cell s2 nlr;have y3:∀ u:Wd (fun U=>Td (fun k=>lv7.v.ownBlock=some k) V8 U),u.w.cell? ⟨mr,3,none⟩=some (.int .i64 r3):=fun u=>u.ok.cell s3 nlr;have y4:∀ u:Wd (fun U=>Td (fun k=>lv7.v.ownBlock=some k) V8 U),u.w.cell? ⟨mr,4,none⟩=some (.int .i64 r4):=fun u=>u.ok.cell s4 nlr;have y5:∀ u:Wd (fun U=>Td (fun k=>lv7.v.ownBlock=some k) V8 U),u.w.cell? ⟨mr,5,none⟩=some (.slice la ln lc):=fun u=>u.ok.cell s5 nlr;have IX8:=gh ix8;have HV8:=gh hV8;have K8:=gh k8;have R8:=gh r8;have O8:=gh o8;have LG2:=gh lg2;have NL:=gh (And.intro nlx (And.intro nlr nlo));have HPR8:=gh (HPR7.o.turned k8 (fun _ _ e=>e));have SZ8:Hid (n₀<=V8.heap.size):=gh (Nat.le_trans HN.o (Nat.le_trans T07.o.size k8.size));clear ln2 lg2 hq2 hp7 hV8 k8 ix8 th8 c4 c5 c7 cj c8 r8 o8 s0 s1 s2 s3 s4 s5 lt nlx nlt nlr nlo nlb d0 d1 d2 d3 d4 d5 f0 f1 f2 f3 f4 f5;go_wp2_with (fail);refine b0P [0,1,2,3,4,5,6,7,8,9,10,11,12,13,14,15,16,17,18,19,20,21,22,23,24,25] 26 (fun U=>Td (fun k=>lv7.v.ownBlock=some k) V8 U) (by kernel_rfl) (by kernel_rfl) (by rw [HV8.o];exact Td.refl _ _) (fun _=>?_);rw [HV8.o]
   repeat (refine lq rfl rfl ?_;go_big_quiet_step (fail);refine wpQuiet_nil ?_)
   refine ll rfl rfl ?_;gi_wp2;refine ⟨Wd.mem (Td.alloc _ _ _),?_⟩;refine ll rfl rfl ?_;gi_wp2_with (gi_at_builtin;refine Stop.out ?_);refine ⟨?_⟩;refine b0N rfl _ _ rfl n₀ lv7.v ix2.logn rfl (IX8.o.log.turned (Td.alloc (fun _=>False) V8 _) (fun _ _ e=>e)) V8.heap.size _ rfl (a0C _ _) rfl (by simp [Value.oneCell']) (by have:=LG2.o;omega) (by have:=SZ8.o;simp;omega) ?_;rintro v9 A1 hlog9 ⟨la9,lc9,rfl⟩ hgrow hat;have TA9:Hid (Td (fun k=>lv7.v.ownBlock=some k) V8 A1):=gh (Kept.then (Td.alloc (fun _=>False) V8 _) (Td.of_grownBy (R:=fun k=>lv7.v.ownBlock=some k) hgrow (fun _ h=>h)));have bxA:=TA9.o.heap IX8.o.box NL.o.1;have cA:A1.cell? ⟨x,5,none⟩=some (.slice lv7.a lv7.n lv7.c):=by simp [World.cell?,bxA,Ixp.cs]
   have gA:A1.frozen? ⟨x,5,none⟩=false:=by simp [World.frozen?,bxA]
   obtain ⟨A2,hA2⟩:∃ A2,A1.setCell ⟨x,5,none⟩ (.slice la9 (ix2.logn+1) lc9)=A2:=⟨_,rfl⟩;have tA2:Td (fun k=>k=x) A1 A2:=by rw [<- hA2];exact Td.setCell (R:=fun k=>k=x) _ _ _ rfl
   have TX:Hid (Td (fun k=>k=x∨lv7.v.ownBlock=some k) V8 A2):=gh (TA9.o.trans tA2 (fun _ e=>.inr e) (fun _ _ e=>.inl e));have IXE:Hid (IxIs A2 n₀ x { ix2 with logn:=ix2.logn+1 } mb mv' tb tv ⟨la9,ix2.logn+1,lc9⟩ (pz.set j P')):=gh (by
    refine IX8.o.boxed (ix':={ ix2 with logn:=ix2.logn+1 }) TX.o ?_ rfl rfl (hlog9.turned tA2 (fun g e e'=>?_))
    ·rw [<- hA2];simp [World.setCell,Array.getElem?_modify,bxA,Ixp.cs]
    ·obtain ⟨c,hc⟩:=hlog9.typed g e;rw [e',bxA] at hc;simp at hc)
   have nx:∀ {y:Nat} {c:Array Value},V8.heap[y]? = some (.cells c 76)->y≠x:=fun hy e=>by
    have:=IX8.o.box
    rw [<- e,hy] at this;simp at this
   have o9:=TX.o.heap O8.o (fun e=>e.elim (nx O8.o) NL.o.2.2);have r9:=TX.o.heap R8.o (fun e=>e.elim (nx R8.o) NL.o.2.1);have PR9:Hid (PRow A2 n₀ 43 (.slice la ln lc) L):=gh (HPR8.o.turned TX.o (fun g e=>by
    obtain ⟨c,hc⟩:=HPR8.o.typed g e;rintro (e' | e')
    ·have:=IX8.o.box
     rw [<- e',hc] at this;simp at this
    ·obtain ⟨c',hc'⟩:=IX8.o.log.typed g e';rw [hc] at hc';simp at hc'))
   have TE:Hid (Td (Mine W n₀) W A2):=gh ((T07.o.trans K8.o (fun _ e=>e) (fun _ _ e=>e.elim)).trans TX.o (fun _ e=>e) (fun k hk e=>by
    rcases e with e | e
    ·rw [e];exact HMI.o.1.box
    ·rcases HLV7.o k e with e | e
     ·exact HMI.o.1.log k e
     ·exact absurd hk (by have:=T0.o.size;omega)))
   have O9:=gh o9;have R9:=gh r9;have HA2:=gh hA2;clear hlog9 hgrow hat hA2 tA2 bxA nx o9 r9;gi_wp2;refine ⟨Wd.mem TA9.o,?_⟩;simp only [Act.put,List.setIfInBounds_toArray,List.set_cons_succ,List.set_cons_zero]
   repeat (refine lq rfl rfl ?_;go_big_quiet_step (fail);refine wpQuiet_nil ?_)
   refine lz rfl ?_;gi_wp2;refine c0J ?_;rw [HA2.o];clear z0 z1 z2 z3 z4 y0 y1 y2 y3 y4 y5 cA gA;obtain ⟨d0,d1,d2,d3,d4,d5,df⟩:=b0E O9.o;obtain ⟨g0,g1,g2,g3,g4,g5,_⟩:=b0E R9.o;have f0:=df 0;have f1:=df 1;have f2:=df 2;have f3:=df 3;have f4:=df 4;have f5:=df 5;clear df;go_wp2;refine bodyPost_ret (rcb rfl _ _ mo 76 _ _ _ rfl (put6 O9.o _ _ _ _ _ _).1 Tryz.underlying76 rfl b0T) rfl ?_;obtain ⟨U8,hU8⟩:∃ U8,((((((A2.setCell ⟨mo,0,none⟩ (.int .i64 r0)).setCell ⟨mo,1,none⟩ (.bool r1)).setCell ⟨mo,2,none⟩ (.int .i64 r2)).setCell ⟨mo,3,none⟩ (.int .i64 r3)).setCell ⟨mo,4,none⟩ (.int .i64 r4)).setCell ⟨mo,5,none⟩ (.slice la ln lc))=U8:=⟨_,rfl⟩;have t8:Td (fun k=>k=mo) A2 U8:=by rw [<- hU8];exact (put6 O9.o _ _ _ _ _ _).2
   rw [hU8];refine ⟨⟨.slice la ln lc,rfl,PR9.o.turned t8 (fun g e e'=>by
    obtain ⟨c,hc⟩:=PR9.o.typed g e;rw [e',O9.o] at hc;simp at hc)⟩,⟨mv',⟨la9,ix2.logn+1,lc9⟩,_,IXE.o.answer O9.o t8⟩,TE.o.trans t8 (fun _ e=>e) (fun k hk e=>absurd hk (by rw [e];have:=XL.o;omega))⟩
end
section
open Go.Shelf
attribute [local go_sem] Oper.semAt_some
theorem info52:(Tryz.prog.info? 70).map (·.size)=some 3:=by kernel_rfl
def opK (z:Int):Int:=if 10 < 1+z % 14 then 1+(1+z % 14) % 3 else 1+z % 14
def h0O (z:Int):Int:=z.tdiv 14 % 41 - 10
def h0N (z:Int):Int:=(z.tdiv 14).tdiv 41 % 50
theorem o0M (z:Int):(1<=opK z/\opK z<=10)/\(-10<=h0O z/\h0O z<=30)/\0<=h0N z/\h0N z<=49:=by
 unfold opK h0O h0N;refine ⟨?_,⟨by omega,by omega⟩,by omega,by omega⟩
 split <;> omega
set_option maxRecDepth 100000 in
set_option maxHeartbeats 2000000 in
theorem op_r (W:World) (z:Int) (hz:I64 z) :
  Calls Tryz.prog 60 #[.int .i64 z] W fun e W'=>e=.returned (.agg #[.int .i64 (opK z),.int .i64 (h0O z),.int .i64 (h0N z)])/\Kept W W':=by
 obtain ⟨z1,z2⟩:=hz;obtain ⟨m,hm⟩:∃ m,z % 14=m:=⟨_,rfl⟩;have m0:0<=m/\m < 14:=by omega
 obtain ⟨d,hd⟩:∃ d,z.tdiv 14=d:=⟨_,rfl⟩;obtain ⟨key,hkey⟩:∃ k,d % 41=k:=⟨_,rfl⟩;have key0:0<=key/\key < 41:=by omega
 obtain ⟨v,hv⟩:∃ v,d.tdiv 41 % 50=v:=⟨_,rfl⟩;have C1:∀ X,Calls Tryz.prog 39 #[.int .i64 z,.int .i64 14] X fun e X'=>e=.returned (.int .i64 m)/\X=X':=fun X=>hm ▸ n0Q X z 14 (by decide) (by decide);have C3:∀ X,Calls Tryz.prog 39 #[.int .i64 d,.int .i64 41] X fun e X'=>e=.returned (.int .i64 key)/\X=X':=fun X=>hkey ▸ n0Q X d 41 (by decide) (by decide);have C4:∀ X,Calls Tryz.prog 39 #[.int .i64 (d.tdiv 41),.int .i64 50] X fun e X'=>e=.returned (.int .i64 v)/\X=X':=fun X=>hv ▸ n0Q X (d.tdiv 41) 50 (by decide) (by decide);obtain ⟨m3,hm3⟩:∃ m3,(1+m) % 3=m3:=⟨_,rfl⟩;have m30:0<=m3/\m3 < 3:=by omega
 have C2:∀ X,Calls Tryz.prog 39 #[.int .i64 (1+m),.int .i64 3] X fun e X'=>e=.returned (.int .i64 m3)/\X=X':=fun X=>hm3 ▸ n0Q X (1+m) 3 (by decide) (by decide);have n1:z.tmod 14+14 * d=z:=by rw [<- hd];first | exact Int.tmod_add_tdiv z 14 | exact Int.tmod_add_mul_tdiv z 14
 have n2:d.tmod 41+41 * d.tdiv 41=d:=by first | exact Int.tmod_add_tdiv d 41 | exact Int.tmod_add_mul_tdiv d 41
 have n3:=Int.lt_tmod_of_pos z (show (0:Int) < 14 by decide);have n4:=Int.tmod_lt_of_pos z (show (0:Int) < 14 by decide);have n5:=Int.lt_tmod_of_pos d (show (0:Int) < 41 by decide);have n6:=Int.tmod_lt_of_pos d (show (0:Int) < 41 by decide);generalize z.tmod 14=p1 at n1 n3 n4;generalize d.tmod 41=p2 at n2 n5 n6;have d0:-9223372036854775808<=d/\d<=9223372036854775807:=by omega
 have e0:-9223372036854775808<=d.tdiv 41/\d.tdiv 41<=9223372036854775807:=by
  generalize d.tdiv 41=p3 at n2;omega
 clear n1 n2 n3 n4 n5 n6;have HC2:=gh C2;have HC3:=gh C3;have HC4:=gh C4;have HK:Hid (opK z=(if 10 < 1+m then 1+m3 else 1+m)):=gh (by unfold opK;rw [hm,hm3]);have HKEY:Hid (h0O z=key - 10/\h0N z=v):=gh (by unfold h0O h0N;rw [hd,hkey,hv];exact ⟨rfl,rfl⟩);clear hm hm3 hkey hv C2 C3 C4;go_enter Tryz.func60,Tryz.ntmps60;go_wp2_with (fail);refine (C1 _).mono ?_;rintro e U ⟨rfl,rfl⟩;clear C1
 by_cases h10:10 < 1+m
 ·have hk:=HK.o;rw [if_pos h10] at hk;have HKK:=gh hk;clear hk HK;go_wp2_with (fail);refine (HC2.o _).mono ?_;rintro e U ⟨rfl,rfl⟩;go_wp2_with (fail)
  try rw [hd]
  refine (HC3.o _).mono ?_;rintro e U ⟨rfl,rfl⟩;go_wp2_with (fail);refine (HC4.o _).mono ?_;rintro e U ⟨rfl,rfl⟩;go_wp2;refine bodyPost_ret (results_cell_row rfl _ _ W.heap.size 70 #[.int .i64 (1+m3),.int .i64 (key - 10),.int .i64 v] _ _ rfl (a0C _ _) Tryz.underlying70 rfl info52) rfl ?_;exact ⟨by rw [HKK.o,HKEY.o.1,HKEY.o.2],Td.alloc _ _ _⟩
 ·have hk:=HK.o;rw [if_neg h10] at hk;have HKK:=gh hk;clear hk HK;go_wp2_with (fail)
  try rw [hd]
  refine (HC3.o _).mono ?_;rintro e U ⟨rfl,rfl⟩;go_wp2_with (fail);refine (HC4.o _).mono ?_;rintro e U ⟨rfl,rfl⟩;go_wp2;refine bodyPost_ret (results_cell_row rfl _ _ W.heap.size 70 #[.int .i64 (1+m),.int .i64 (key - 10),.int .i64 v] _ _ rfl (a0C _ _) Tryz.underlying70 rfl info52) rfl ?_;exact ⟨by rw [HKK.o,HKEY.o.1,HKEY.o.2],Td.alloc _ _ _⟩
end
section
structure FitA (q:Ak):Prop where
 x:I64 q.x
 y:I64 q.y
 w:∀ z ∈ q.w,I64 z
structure Fit (s:Rn):Prop where
 tp:∀ z ∈ s.tape,I64 z
 nx:FitA s.nx
theorem b0Z {z:Int} (h0:-1000000000<=z) (h1:z<=1000000000):I64 z:=⟨by omega,by omega⟩
theorem v0H (z:Int):I64 (wrap64 z):=by
 unfold wrap64;constructor <;> omega
theorem c0O (k t:Int):I64 (Rf.ofZ k t):=by
 unfold Rf.ofZ
 split
 ·rename_i h;simp only [Rf.may,decide_eq_true_eq] at h;exact b0Z (by omega) (by omega)
 ·exact b0O
theorem v0I (n d i:Int):I64 (a0B n d i):=by
 unfold a0B
 split
 ·rename_i h;simp only [Bool.and_eq_true,b0B] at h;exact ⟨by omega,by omega⟩
 ·exact b0O
namespace Fit
variable {s:Rn}
theorem ask (h:Fit s) {q:Ak} (hq:FitA q):Fit (s.ask q).2:=by
 refine ⟨by rw [Rn.ask_tape];exact h.tp,?_⟩;unfold Rn.ask
 split
 ·exact h.nx
 ·split
  ·exact h.nx
  ·exact hq
theorem read (h:Fit s) (a:Int):Fit (s.read a).2:=h.ask ⟨b0O,b0O,fun _ h=>by cases h⟩
theorem r64 (h:Fit s) (a:Int):I64 (s.read a).1:=Rn.ask_i64 _ h.tp
theorem write (h:Fit s) (a:Int) {x:Int} (hx:I64 x):Fit (s.write a x):=h.ask ⟨hx,b0O,fun _ h=>by cases h⟩
theorem cas (h:Fit s) (a:Int) {o x:Int} (ho:I64 o) (hx:I64 x):Fit (s.cas a o x).2:=h.ask ⟨ho,hx,fun _ h=>by cases h⟩
theorem add (h:Fit s) (a:Int) {d:Int} (hd:I64 d):Fit (s.add a d).2:=h.ask ⟨hd,b0O,fun _ h=>by cases h⟩
theorem make (h:Fit s) {w:List Int} (hw:∀ z ∈ w,I64 z):Fit (s.make w).2:=h.ask ⟨b0O,b0O,hw⟩
theorem rc (h:Fit s) (x:Int):Fit { s with rc:=x }:=⟨h.tp,h.nx⟩
theorem ld (h:Fit s) (x:Int):Fit { s with ld:=x }:=⟨h.tp,h.nx⟩
theorem peek (h:Fit s) (a:Int):Fit (s.peek a).2/\I64 (s.peek a).1:=by
 unfold Rn.peek;dsimp only
 split
 ·split
  ·exact ⟨((h.read _).read _).read _,((h.read _).read _).r64 _⟩
  ·exact ⟨((h.read _).read _).read _,((h.read _).read _).r64 _⟩
 ·exact ⟨h.read _,h.r64 _⟩
theorem ite2 {α:Type} {c:Prop} [Decidable c] {x y:α × Rn} (hx:Fit x.2) (hy:Fit y.2):Fit (if c then x else y).2:=by split <;> assumption
theorem ite1 {α:Type} {c:Prop} [Decidable c] {x y:Int × α} (hx:I64 x.1) (hy:I64 y.1):I64 (if c then x else y).1:=by split <;> assumption
theorem ite0 {c:Prop} [Decidable c] {x y:Int} (hx:I64 x) (hy:I64 y):I64 (if c then x else y):=by split <;> assumption
theorem i12 {c:Prop} [Decidable c]:I64 (if c then 1 else 2):=ite0 (b0Z (by decide) (by decide)) (b0Z (by decide) (by decide))
theorem help (h:Fit s) (a:Int):Fit (s.help a):=by
 unfold Rn.help;dsimp only;have h3:=(((((h.read a).read (s.read a).1).cas (a+4) (o:=0) (x:=if ((s.read a).2.read (s.read a).1).1=0 then 1 else 2) b0O i12).read (a+4)).read (a+1));exact Fit.cas (ite2 (h3.read _) (h3.read _)) _ (c0O _ _) (ite1 (h3.r64 _) (h3.r64 _))
theorem slotL (n:Nat):∀ (s:Rn) (a z:Int),s.left<=n->Fit s->I64 z->Fit (s.slotL a z).2/\I64 (s.slotL a z).1:=by
 induction n with
 | zero=>
  intro s a z hn h hz
  by_cases hc:s.off=false/\kd z=5
  ·exact absurd (Rn.help_lt (ad z) hc.1) (by omega)
  ·rw [Rn.slotL_stop hc];exact ⟨h,hz⟩
 | succ n ih=>
  intro s a z hn h hz
  by_cases hc:s.off=false/\kd z=5
  ·rw [Rn.slotL,dif_pos hc];have h1:=Rn.help_lt (ad z) hc.1;have h2:=Rn.read_le (s.help (ad z)) a;exact ih _ _ _ (by omega) ((h.help _).read _) ((h.help _).r64 _)
  ·rw [Rn.slotL_stop hc];exact ⟨h,hz⟩
theorem slot (h:Fit s) (a:Int):Fit (s.slot a).2/\I64 (s.slot a).1:=slotL (s.read a).2.left (s.read a).2 a (s.read a).1 (Nat.le_refl _) (h.read a) (h.r64 a)
theorem dcss (h:Fit s) {g p o x:Int} (hg:I64 g) (hp:I64 p) (ho:I64 o) (hx:I64 x):Fit (s.dcss g p o x).2/\(s.dcss g p o x).2.left<=s.left:=by
 unfold Rn.dcss;dsimp only;have hm:Fit (s.make [g,p,o,x,0]).2:=h.make (by simp only [List.mem_cons,List.not_mem_nil,or_false];rintro z (rfl | rfl | rfl | rfl | rfl) <;> first | assumption | exact b0O);have lm:(s.make [g,p,o,x,0]).2.left<=s.left:=Rn.ask_le s _;generalize s.make [g,p,o,x,0]=m at *
 by_cases c1:0 < m.1
 ·rw [if_pos c1];have hr:Fit { m.2 with rc:=m.1 }:=hm.rc m.1;have lr:({ m.2 with rc:=m.1 }:Rn).left<=s.left:=lm;generalize ({ m.2 with rc:=m.1 }:Rn)=t at *;have hc:=hr.cas p (o:=o) (x:=Rf.ofZ 5 m.1) ho (c0O 5 m.1);have lc:(t.cas p o (Rf.ofZ 5 m.1)).2.left<=t.left:=Rn.ask_le t _;generalize t.cas p o (Rf.ofZ 5 m.1)=c at *
  by_cases c2:c.1=true
  ·rw [if_pos c2];have hq:=hc.read g;have lq:=Rn.read_le c.2 g;generalize c.2.read g=q at *;have hd:=hq.cas (wrap64 (m.1+4)) (o:=0) (x:=if q.1=0 then 1 else 2) b0O i12;have ld:(q.2.cas (wrap64 (m.1+4)) 0 (if q.1=0 then 1 else 2)).2.left<=q.2.left:=Rn.ask_le q.2 _;generalize q.2.cas (wrap64 (m.1+4)) 0 (if q.1=0 then 1 else 2)=d at *;have he:=hd.read (wrap64 (m.1+4));have le:=Rn.read_le d.2 (wrap64 (m.1+4));generalize d.2.read (wrap64 (m.1+4))=e at *
   by_cases c3:e.1=1
   ·rw [if_pos c3];exact ⟨he.cas _ (c0O _ _) hx,by have:(e.2.cas p (Rf.ofZ 5 m.1) x).2.left<=e.2.left:=Rn.ask_le e.2 _;dsimp only;omega⟩
   ·rw [if_neg c3];exact ⟨he.cas _ (c0O _ _) ho,by have:(e.2.cas p (Rf.ofZ 5 m.1) o).2.left<=e.2.left:=Rn.ask_le e.2 _;dsimp only;omega⟩
  ·rw [if_neg c2];exact ⟨hc,by dsimp only;omega⟩
 ·rw [if_neg c1];exact ⟨hm,lm⟩
theorem downF (n k:Int):∀ (i:Nat) (s:Rn),Fit s->Fit (Rn.downF n k i s).2
 | 0,s,h=>h
 | i+1,s,h=>by
  rw [Rn.downF]
  split
  ·split
   ·exact h.read _
   ·exact downF n k i _ (h.read _)
  ·exact h
theorem upF (n k m:Int):∀ (c:Nat) (i:Int) (s:Rn),Fit s->Fit (Rn.upF n k m c i s).2
 | 0,_,s,h=>h
 | c+1,i,s,h=>by
  rw [Rn.upF]
  split
  ·split
   ·exact h.read _
   ·exact upF n k m c _ _ (h.read _)
  ·exact h
theorem route (h:Fit s) (n k:Int):Fit (s.route n k).2:=by
 unfold Rn.route;dsimp only
 repeat' split
 all_goals first
  | exact h.read _
  | exact (h.read _).read _
  | exact ((h.read _).read _).read _
  | exact downF _ _ _ _ ((((h.read _).read _).read _).read _)
  | exact upF _ _ _ _ _ _ ((((h.read _).read _).read _).read _)
  | exact upF _ _ _ _ _ _ (((h.read _).read _).read _)
theorem child (h:Fit s) (n k:Int):Fit (s.child n k).2:=h.route n k
theorem seekL (n:Nat):∀ (s:Rn) (a k:Int),s.left<=n->Fit s->Fit (s.seekL a k).2:=by
 induction n with
 | zero=>
  intro s a k hn h;cases ho:s.off with
  | true=>rw [Rn.seekL_off ho];exact h
  | false=>exact absurd (Rn.child_lt a k ho) (by omega)
 | succ n ih=>
  intro s a k hn h;cases ho:s.off with
  | true=>rw [Rn.seekL_off ho];exact h
  | false=>
   have hp:=((h.child a k).peek (s.child a k).1).1;have hl:=Rn.child_lt a k ho;have hl2:=(Rn.peek_on (s:=(s.child a k).2) (a:=(s.child a k).1) rfl).left;rw [Rn.seekL,dif_pos ho]
   split
   ·dsimp only
    split
    ·exact (hp.read _).read _
    ·exact hp.read _
   ·split
    ·exact ih _ _ _ (by omega) hp
    ·split
     ·exact ih _ _ _ (by have:=Rn.read_le ((s.child a k).2.peek (s.child a k).1).2 (ad ((s.child a k).2.peek (s.child a k).1).1);omega) (hp.read _)
     ·exact hp
theorem seek (h:Fit s) (k:Int):Fit (s.seek k).2:=seekL _ _ _ _ (Nat.le_refl _) h
theorem markK {g:Rn->Int->Int × Rn} (hg:∀ s a,Fit s->Fit (g s a).2/\(g s a).2.left<=s.left) (n d:Int):∀ (c:Nat) (i m:Int) (t:Rn),Fit t->Fit (Rn.markK g n d c i m t).2/\(Rn.markK g n d c i m t).2.left<=t.left
 | 0,_,_,t,h=>⟨h,Nat.le_refl _⟩
 | c+1,i,m,t,h=>by
  rw [Rn.markK];have hs:=(h.slot (a0B n d i)).1;have ls:=Rn.slot_le t (a0B n d i)
  split
  ·exact ⟨h,Nat.le_refl _⟩
  ·generalize t.slot (a0B n d i)=x at *
   split
   ·have:=markK hg n d c (i+1) (wrap64 (m+1)) _ hs
    exact ⟨this.1,Nat.le_trans this.2 ls⟩
   ·split
    ·have hq:=hg x.2 (ad x.1) hs
     have:=markK hg n d c (i+1) (wrap64 (m+(g x.2 (ad x.1)).1)) _ hq.1
     exact ⟨this.1,Nat.le_trans this.2 (Nat.le_trans hq.2 ls)⟩
    ·split
     ·dsimp only;have hr:=hs.read (ad x.1);have lr:=Rn.read_le x.2 (ad x.1);generalize x.2.read (ad x.1)=q at *;have hq:=hg q.2 (ad q.1) hr
      have:=markK hg n d c (i+1) (wrap64 (m+(g q.2 (ad q.1)).1)) _ hq.1
      exact ⟨this.1,Nat.le_trans this.2 (Nat.le_trans hq.2 (Nat.le_trans lr ls))⟩
     ·have:=markK hg n d c (i+1) m _ hs
      exact ⟨this.1,Nat.le_trans this.2 ls⟩
theorem markF:∀ (f:Nat) (s:Rn) (n:Int),Fit s->Fit (Rn.markF f s n).2/\(Rn.markF f s n).2.left<=s.left
 | 0,_,_,h=>⟨h,Nat.le_refl _⟩
 | f+1,s,n,h=>by
  obtain ⟨x,s1,e1⟩:∃ x s1,s.read (wrap64 (n+4))=(x,s1):=⟨_,_,rfl⟩;have h1:=h.read (wrap64 (n+4));have l1:=Rn.read_le s (wrap64 (n+4));rw [e1] at h1 l1
  by_cases c:x=0
  ·subst c;obtain ⟨s2,e2⟩:∃ s2,s1.write (wrap64 (n+2)) 1=s2:=⟨_,rfl⟩;have h2:=h1.write (wrap64 (n+2)) (x:=1) (b0Z (by decide) (by decide));have l2:=Rn.write_le s1 (wrap64 (n+2)) 1;rw [e2] at h2 l2;obtain ⟨d,s3,e3⟩:∃ d s3,s2.read n=(d,s3):=⟨_,_,rfl⟩;have h3:=h2.read n;have l3:=Rn.read_le s2 n;rw [e3] at h3 l3;have h4:=markK (fun s a h=>markF f s a h) n d d.toNat 0 0 s3 h3;obtain ⟨m,s4,e4⟩:∃ m s4,Rn.markK (Rn.markF f) n d d.toNat 0 0 s3=(m,s4):=⟨_,_,rfl⟩;rw [e4] at h4;rw [Rn.markF_go e1 e2 e3 e4 rfl];have l5:=Rn.write_le s4 (wrap64 (n+4)) (wrap64 (m+1));exact ⟨h4.1.write _ (v0H _),by have:=h4.2;dsimp only at *;omega⟩
  ·rw [Rn.markF_shut e1 c];exact ⟨h1,l1⟩
def PF (ps:List (Int × Int)):Prop:=∀ p ∈ ps,I64 p.1/\I64 p.2
theorem PF.add {ps:List (Int × Int)} (h:PF ps) {k v:Int} (hk:I64 k) (hv:I64 v):PF (ps++[(k,v)]):=fun p hp=>by
 rcases List.mem_append.1 hp with hp | hp
 ·exact h p hp
 ·obtain rfl:=List.mem_singleton.1 hp;exact ⟨hk,hv⟩
theorem gatherK {g:Rn->Int->Int->Int->List (Int × Int)->List (Int × Int) × Rn} (hg:∀ s a f t ys,Fit s->PF ys->Fit (g s a f t ys).2/\PF (g s a f t ys).1/\(g s a f t ys).1.length+(g s a f t ys).2.left<=ys.length+s.left) (n d f tu:Int) :
  ∀ (c:Nat) (i rk:Int) (ys:List (Int × Int)) (t:Rn),Fit t->PF ys->Fit (Rn.gatherK g n d f tu c i rk ys t).2/\PF (Rn.gatherK g n d f tu c i rk ys t).1/\(Rn.gatherK g n d f tu c i rk ys t).1.length+(Rn.gatherK g n d f tu c i rk ys t).2.left<=ys.length+t.left
 | 0,_,_,ys,t,h,hy=>⟨h,hy,Nat.le_refl _⟩
 | c+1,i,rk,ys,t,h,hy=>by
  rw [Rn.gatherK]
  split
  ·exact ⟨h,hy,Nat.le_refl _⟩
  ·rename_i hoff;have hoff':t.off=false:=by
    cases ho:t.off with
    | false=>rfl
    | true=>exact absurd (.inr ho) hoff
   dsimp only;have hs:=(h.peek (a0B n d i)).1;have hl:(t.peek (a0B n d i)).2.left < t.left:=Rn.peek_lt _ hoff'
   split
   ·split
    ·have hr:=gatherK hg n d f tu c (i+1) (wrap64 (rk+1)) (ys++[(((t.peek (a0B n d i)).2.read (ad (t.peek (a0B n d i)).1)).1,(((t.peek (a0B n d i)).2.read (ad (t.peek (a0B n d i)).1)).2.read (ad (t.peek (a0B n d i)).1+1)).1)]) _ ((hs.read (ad (t.peek (a0B n d i)).1)).read (ad (t.peek (a0B n d i)).1+1)) (PF.add hy (hs.r64 (ad (t.peek (a0B n d i)).1)) ((hs.read (ad (t.peek (a0B n d i)).1)).r64 (ad (t.peek (a0B n d i)).1+1)));refine ⟨hr.1,hr.2.1,Nat.le_trans hr.2.2 ?_⟩;have l1:=Rn.read_le (t.peek (a0B n d i)).2 (ad (t.peek (a0B n d i)).1);have l2:=Rn.read_le ((t.peek (a0B n d i)).2.read (ad (t.peek (a0B n d i)).1)).2 (ad (t.peek (a0B n d i)).1+1);simp only [List.length_append,List.length_cons,List.length_nil];omega
    ·have hr:=gatherK hg n d f tu c (i+1) (wrap64 (rk+1)) ys _ hs hy;exact ⟨hr.1,hr.2.1,by have:=hr.2.2;omega⟩
   ·split
    ·have l1:=Rn.read_le (t.peek (a0B n d i)).2 (ad (t.peek (a0B n d i)).1+4)
     split
     ·have hq:=hg _ (ad (t.peek (a0B n d i)).1) (wrap64 (f - rk)) (wrap64 (tu - rk)) ys (hs.read (ad (t.peek (a0B n d i)).1+4)) hy;have hr:=gatherK hg n d f tu c (i+1) (wrap64 (rk+wrap64 (((t.peek (a0B n d i)).2.read (ad (t.peek (a0B n d i)).1+4)).1 - 1))) _ _ hq.1 hq.2.1;exact ⟨hr.1,hr.2.1,by have:=hr.2.2;have:=hq.2.2;omega⟩
     ·have hr:=gatherK hg n d f tu c (i+1) (wrap64 (rk+wrap64 (((t.peek (a0B n d i)).2.read (ad (t.peek (a0B n d i)).1+4)).1 - 1))) ys _ (hs.read (ad (t.peek (a0B n d i)).1+4)) hy;exact ⟨hr.1,hr.2.1,by have:=hr.2.2;omega⟩
    ·split
     ·have l0:=Rn.read_le (t.peek (a0B n d i)).2 (ad (t.peek (a0B n d i)).1);have hb:=hs.read (ad (t.peek (a0B n d i)).1);have l1:=Rn.read_le ((t.peek (a0B n d i)).2.read (ad (t.peek (a0B n d i)).1)).2 (ad ((t.peek (a0B n d i)).2.read (ad (t.peek (a0B n d i)).1)).1+4)
      split
      ·have hq:=hg _ (ad ((t.peek (a0B n d i)).2.read (ad (t.peek (a0B n d i)).1)).1) (wrap64 (f - rk)) (wrap64 (tu - rk)) ys (hb.read (ad ((t.peek (a0B n d i)).2.read (ad (t.peek (a0B n d i)).1)).1+4)) hy;have hr:=gatherK hg n d f tu c (i+1) (wrap64 (rk+wrap64 ((((t.peek (a0B n d i)).2.read (ad (t.peek (a0B n d i)).1)).2.read (ad ((t.peek (a0B n d i)).2.read (ad (t.peek (a0B n d i)).1)).1+4)).1 - 1))) _ _ hq.1 hq.2.1;exact ⟨hr.1,hr.2.1,by have:=hr.2.2;have:=hq.2.2;omega⟩
      ·have hr:=gatherK hg n d f tu c (i+1) (wrap64 (rk+wrap64 ((((t.peek (a0B n d i)).2.read (ad (t.peek (a0B n d i)).1)).2.read (ad ((t.peek (a0B n d i)).2.read (ad (t.peek (a0B n d i)).1)).1+4)).1 - 1))) ys _ (hb.read (ad ((t.peek (a0B n d i)).2.read (ad (t.peek (a0B n d i)).1)).1+4)) hy;exact ⟨hr.1,hr.2.1,by have:=hr.2.2;omega⟩
     ·have hr:=gatherK hg n d f tu c (i+1) rk ys _ hs hy;exact ⟨hr.1,hr.2.1,by have:=hr.2.2;omega⟩
theorem gatherF:∀ (F:Nat) (s:Rn) (n f tu:Int) (ys:List (Int × Int)),Fit s->PF ys->Fit (Rn.gatherF F s n f tu ys).2/\PF (Rn.gatherF F s n f tu ys).1/\(Rn.gatherF F s n f tu ys).1.length+(Rn.gatherF F s n f tu ys).2.left<=ys.length+s.left
 | 0,s,_,_,_,ys,h,hy=>⟨h,hy,Nat.le_refl _⟩
 | F+1,s,n,f,tu,ys,h,hy=>by
  show Fit (Rn.gatherK (Rn.gatherF F) n (s.read n).1 f tu (s.read n).1.toNat 0 0 ys (s.read n).2).2/\_;have hr:=gatherK (fun s a f t ys h hy=>gatherF F s a f t ys h hy) n (s.read n).1 f tu (s.read n).1.toNat 0 0 ys (s.read n).2 (h.read _) hy
  have:=Rn.read_le s n
  exact ⟨hr.1,hr.2.1,Nat.le_trans hr.2.2 (by omega)⟩
theorem recM (h:Fit s) (k:Int) {ws:List Int} (hw:∀ z ∈ ws,I64 z):Fit (s.recM k ws).2/\I64 (s.recM k ws).1.1:=⟨h.make hw,c0O _ _⟩
theorem PF.part {ps:List (Int × Int)} (h:PF ps) (i:Int):PF (a0Z ps i):=fun p hp=>h p (List.mem_of_mem_drop (List.mem_of_mem_take hp))
theorem PF.head {ps:List (Int × Int)} (h:PF ps):I64 (ps.headD (0,0)).1/\I64 (ps.headD (0,0)).2:=by
 cases ps with
 | nil=>exact ⟨b0O,b0O⟩
 | cons p ps=>exact h p (List.mem_cons_self ..)
theorem lowL {ps:List (Int × Int)} (h:PF ps):∀ n,∀ z ∈ Go.Proofs.YtibnlaihiahjpaaGreat.lowL ps n,I64 z
 | 0,z,hz=>by cases hz
 | n+1,z,hz=>by
  rw [Go.Proofs.YtibnlaihiahjpaaGreat.lowL] at hz
  split at hz
  ·cases hz
  ·rcases List.mem_append.1 hz with hz | hz
   ·exact lowL h n z hz
   ·obtain rfl:=List.mem_singleton.1 hz;exact (PF.head (PF.part h _)).1
theorem growK {L:Rn->List (Int × Int)->(Int × Bool) × Rn} (hL:∀ s ps,Fit s->PF ps->ps.length<=1000000->Fit (L s ps).2/\I64 (L s ps).1.1) {ps:List (Int × Int)} (hp:PF ps) (hl:ps.length<=1000000) {s:Rn} (h:Fit s):∀ n,Fit (Rn.growK L ps s n).2/\∀ z ∈ (Rn.growK L ps s n).1.2,I64 z
 | 0=>⟨h,fun _ h=>by cases h⟩
 | i+1=>by
  have ih:=growK hL hp hl h i;rw [Rn.growK]
  split
  ·exact ih
  ·have hq:=hL _ _ ih.1 (PF.part hp (i:Int)) (Nat.le_trans (by unfold a0Z;simp only [List.length_take,List.length_drop];omega) hl);refine ⟨hq.1,fun z hz=>?_⟩;rcases List.mem_append.1 hz with hz | hz
   ·exact ih.2 z hz
   ·obtain rfl:=List.mem_singleton.1 hz;exact hq.2
theorem r0Q (L:Rn->List (Int × Int)->(Int × Bool) × Rn) (ps:List (Int × Int)) (s:Rn):∀ n,(Rn.growK L ps s n).1.2.length<=n
 | 0=>Nat.le_refl _
 | i+1=>by
  have ih:=r0Q L ps s i;rw [Rn.growK]
  split
  ·omega
  ·simp only [List.length_append,List.length_cons,List.length_nil];omega
theorem innerL_fit {n:Int} {q c:List Int} (hn:I64 n) (hq:∀ z ∈ q,I64 z) (hc:∀ z ∈ c,I64 z) (hl:c.length<=1000000):∀ z ∈ a0S n q c,I64 z:=by
 intro z hz;unfold a0S at hz;simp only [List.mem_append,List.mem_cons,List.not_mem_nil,or_false] at hz;rcases hz with (rfl | rfl | rfl | rfl | rfl) | hz | hz
 ·exact b0Z (by omega) (by omega)
 ·exact hn
 ·exact b0O
 ·exact b0O
 ·exact b0O
 ·exact hq z hz
 ·exact hc z hz
theorem growF:∀ (f:Nat) (s:Rn) (ps:List (Int × Int)),Fit s->PF ps->ps.length<=1000000->Fit (Rn.growF f s ps).2/\I64 (Rn.growF f s ps).1.1
 | 0,s,_,h,_,_=>⟨h,b0O⟩
 | f+1,s,ps,h,hp,hl=>by
  rw [Rn.growF_succ];have hk:=growK (L:=Rn.growF f) (fun s ps h hp hl=>growF f s ps h hp hl) hp hl h (Pt.degZ ps.length).toNat
  split
  ·exact h.recM 1 (fun z hz=>by obtain rfl:=List.mem_singleton.1 hz;exact b0O)
  ·split
   ·exact h.recM 2 (fun z hz=>by
     simp only [List.mem_cons,List.not_mem_nil,or_false] at hz;rcases hz with rfl | rfl
     ·exact (PF.head hp).1
     ·exact (PF.head hp).2)
   ·split
    ·exact hk.1.recM 3 (innerL_fit (b0Z (by omega) (by omega)) (lowL hp _) hk.2 (Nat.le_trans (r0Q _ _ _ _) (by have:=e0T ps.length;omega)))
    ·exact ⟨hk.1,b0O⟩
end Fit
structure FitL (s:Rn):Prop extends Fit s where
 len:s.left<=1000000
namespace FitL
variable {s:Rn} {N:Nat}
theorem on {s':Rn} (h:FitL s) (h':Fit s') (ho:Rn.On s s'):FitL s':=⟨h',Nat.le_trans ho.left h.len⟩
theorem part (h:FitL s) (n m root d i:Int):FitL (s.partR N n m root d i).2:=by
 unfold Rn.partR;dsimp only;have hg:=Fit.gatherF N s n (Pt.fromZ m i) (wrap64 (Pt.fromZ m i+Pt.sizeZ m i)) [] h.toFit (fun _ h=>by cases h);have hl:=h.len;generalize Rn.gatherF N s n (Pt.fromZ m i) (wrap64 (Pt.fromZ m i+Pt.sizeZ m i)) []=g at *;have h3:=hg.2.2;simp only [List.length_nil,Nat.zero_add] at h3
 by_cases c1:g.2.off=true
 ·rw [if_pos c1];exact ⟨hg.1,by dsimp only;omega⟩
 ·rw [if_neg c1];have hw:=Fit.growF (g.1.length+1) _ _ hg.1 hg.2.1 (by omega);have lw:=(Rn.growF_on (g.1.length+1) g.2 g.1).left;generalize Rn.growF (g.1.length+1) g.2 g.1=w at *
  by_cases c2:w.1.2=false
  ·rw [if_pos c2];exact ⟨hw.1,by dsimp only;omega⟩
  ·rw [if_neg c2]
   by_cases c3:0 < i/\0 < g.1.length
   ·rw [if_pos c3];have l1:(w.2.write (keyZ root i) (g.1.headD (0,0)).1).left<=w.2.left:=Rn.ask_le w.2 _;have l2:((w.2.write (keyZ root i) (g.1.headD (0,0)).1).cas (a0B root d i) 0 w.1.1).2.left<=_:=Rn.ask_le _ _;exact ⟨(hw.1.write _ (Fit.PF.head hg.2.1).1).cas _ b0O hw.2,by dsimp only;omega⟩
   ·rw [if_neg c3];have l2:(w.2.cas (a0B root d i) 0 w.1.1).2.left<=_:=Rn.ask_le _ _;exact ⟨hw.1.cas _ b0O hw.2,by dsimp only;omega⟩
theorem top (h:FitL s) (t:Int) {n:Int} (hn:I64 n):FitL (s.topR N t n).2/\I64 (s.topR N t n).1.1:=by
 have hl:=h.len;unfold Rn.topR
 split
 ·have:=h.toFit.recM 3 (Fit.innerL_fit hn (q:=List.replicate ((max (Pt.degZ n) 1).toNat - 1) 0) (c:=List.replicate (max (Pt.degZ n) 1).toNat 0) (fun z hz=>by rw [(List.mem_replicate.1 hz).2];exact b0O) (fun z hz=>by rw [(List.mem_replicate.1 hz).2];exact b0O) (by have:=e0T n;simp;omega))
  exact ⟨⟨this.1,Nat.le_trans (Rn.recM_on s _ _).left hl⟩,this.2⟩
 ·split
  ·have hg:=Fit.gatherF N s t 0 1 [] h.toFit (fun _ h=>by cases h);have h3:=hg.2.2;simp only [List.length_nil,Nat.zero_add] at h3
   split
   ·exact ⟨⟨hg.1,by dsimp only;omega⟩,b0O⟩
   ·have hw:=Fit.growF ((Rn.gatherF N s t 0 1 []).1.length+1) _ _ hg.1 hg.2.1 (by omega);have lw:=(Rn.growF_on ((Rn.gatherF N s t 0 1 []).1.length+1) (Rn.gatherF N s t 0 1 []).2 (Rn.gatherF N s t 0 1 []).1).left;exact ⟨⟨hw.1,by omega⟩,hw.2⟩
  ·split
   ·exact ⟨⟨h.toFit,hl⟩,b0O⟩
   ·have hw:=Fit.growF 1 s [] h.toFit (fun _ h=>by cases h) (by simp);exact ⟨⟨hw.1,Nat.le_trans (Rn.growF_on 1 s []).left hl⟩,hw.2⟩
theorem askd (h:FitL s) {q:Ak} (hq:FitA q):FitL (s.ask q).2:=⟨h.toFit.ask hq,Nat.le_trans (Rn.ask_le s q) h.len⟩
theorem read (h:FitL s) (a:Int):FitL (s.read a).2:=h.askd ⟨b0O,b0O,fun _ h=>by cases h⟩
theorem cas (h:FitL s) (a:Int) {o x:Int} (ho:I64 o) (hx:I64 x):FitL (s.cas a o x).2:=h.askd ⟨ho,hx,fun _ h=>by cases h⟩
theorem add (h:FitL s) (a:Int) {d:Int} (hd:I64 d):FitL (s.add a d).2:=h.askd ⟨hd,b0O,fun _ h=>by cases h⟩
theorem make (h:FitL s) {w:List Int} (hw:∀ z ∈ w,I64 z):FitL (s.make w).2:=h.askd ⟨b0O,b0O,hw⟩
theorem dcss (h:FitL s) {g p o x:Int} (hg:I64 g) (hp:I64 p) (ho:I64 o) (hx:I64 x):FitL (s.dcss g p o x).2:=⟨(h.toFit.dcss hg hp ho hx).1,Nat.le_trans (h.toFit.dcss hg hp ho hx).2 h.len⟩
theorem mark (h:FitL s) (f:Nat) (n:Int):FitL (Rn.markF f s n).2:=⟨(Fit.markF f s n h.toFit).1,Nat.le_trans (Fit.markF f s n h.toFit).2 h.len⟩
theorem partsA (b t n x d:Int):∀ (f:Nat) (s:Rn),FitL s->FitL (Rn.partsA N b t n x d f s).2
 | 0,s,h=>h
 | f+1,s,h=>by
  rw [Rn.partsA];have ha:=h.add (wrap64 (b+4)) (d:=1) (b0Z (by decide) (by decide));generalize s.add (wrap64 (b+4)) 1=a at *
  split
  ·exact h
  ·split
   ·exact ha
   ·split
    ·exact ha
    ·dsimp only;have hp:=ha.part (N:=N) t n x d a.1;generalize a.2.partR N t n x d a.1=p at *
     split
     ·exact partsA b t n x d f _ hp
     ·exact hp
theorem partsB (t n x d:Int):∀ (c:Nat) (j:Int) (s:Rn),FitL s->FitL (Rn.partsB N t n x d c j s).2
 | 0,_,s,h=>h
 | c+1,j,s,h=>by
  rw [Rn.partsB];have ha:=h.read (a0B x d j);generalize s.read (a0B x d j)=a at *
  split
  ·exact h
  ·split
   ·exact partsB t n x d c _ _ ha
   ·dsimp only;have hp:=ha.part (N:=N) t n x d j;generalize a.2.partR N t n x d j=p at *
    split
    ·exact partsB t n x d c _ _ hp
    ·exact hp
theorem parts (h:FitL s) (b t n x:Int):FitL (s.partsR N b t n x).2:=by
 unfold Rn.partsR;dsimp only;have ha:=partsA (N:=N) b t n x (Pt.degZ n) N s h;generalize Rn.partsA N b t n x (Pt.degZ n) N s=a at *
 split
 ·exact partsB t n x _ _ _ _ ha
 ·exact ha
theorem renewE (h:FitL s) (b a n:Int) {w:Int} (hw:I64 w):FitL (s.renewE N b a n w).2:=by
 unfold Rn.renewE;dsimp only;have hq:FitL (if 2<=n then s.partsR N b a n (ad w) else (true,s)).2:=by
  split
  ·exact h.parts ..
  ·exact h
 generalize (if 2<=n then s.partsR N b a n (ad w) else (true,s))=q at *
 split
 ·exact hq
 ·have h1:=hq.read (wrap64 (b+1));have i1:=hq.toFit.r64 (wrap64 (b+1));generalize q.2.read (wrap64 (b+1))=g at *;have h2:=h1.read (wrap64 (b+2));have i2:=h1.toFit.r64 (wrap64 (b+2));generalize g.2.read (wrap64 (b+2))=p at *;exact h2.dcss i1 i2 (c0O _ _) hw
theorem renew (h:FitL s) (b:Int):FitL (s.renewR N b).2:=by
 unfold Rn.renewR;dsimp only;have h1:=h.read b;generalize s.read b=a at *;have h2:=h1.mark N (ad a.1);have i2:=Rn.markF_i64 N a.2 (ad a.1);generalize Rn.markF N a.2 (ad a.1)=m at *;have h3:=h2.read (wrap64 (b+3));have i3:=h2.toFit.r64 (wrap64 (b+3));generalize m.2.read (wrap64 (b+3))=w at *
 split
 ·exact h3
 ·split
  ·have h4:=h3.top (N:=N) (ad a.1) i2;generalize w.2.topR N (ad a.1) m.1=t at *
   split
   ·exact h4.1
   ·have h5:=h4.1.cas (wrap64 (b+3)) (o:=0) (x:=t.1.1) b0O h4.2;generalize t.2.cas (wrap64 (b+3)) 0 t.1.1=c at *;have h6:=h5.read (wrap64 (b+3));have i6:=h5.toFit.r64 (wrap64 (b+3));generalize c.2.read (wrap64 (b+3))=y at *;exact h6.renewE _ _ _ i6
  ·exact h3.renewE _ _ _ i3
theorem start (h:FitL s) (nd:Int) {sl w:Int} (hs:I64 sl) (hw:I64 w):FitL (s.startR N nd sl w).2:=by
 unfold Rn.startR;dsimp only;have h1:=h.make (w:=[w,wrap64 (nd+2),sl,0,0]) (by
  simp only [List.mem_cons,List.not_mem_nil,or_false];rintro z (rfl | rfl | rfl | rfl | rfl)
  ·exact hw
  ·exact v0H _
  ·exact hs
  ·exact b0O
  ·exact b0O)
 generalize s.make [w,wrap64 (nd+2),sl,0,0]=a at *
 split
 ·have h2:=h1.dcss (g:=wrap64 (nd+2)) (v0H _) hs hw (c0O 4 a.1);generalize a.2.dcss (wrap64 (nd+2)) sl w (Rf.ofZ 4 a.1)=z at *
  split
  ·exact h2.renew _
  ·exact h2
 ·exact h1
def EF (es:List En):Prop:=∀ e ∈ es,I64 e.sl/\I64 e.wd
theorem tallyL:∀ (es:List En) (i:Nat) (f:Int) (s:Rn),FitL s->FitL (Rn.tallyL es i f s).2
 | [],_,_,_,h=>h
 | e :: l,i,f,s,h=>by
  rw [Rn.tallyL]
  split
  ·exact h
  ·exact tallyL l _ _ _ ((h.add _ (b0Z (by decide) (by decide))).read _)
theorem tally (h:FitL s) {es:List En} (he:EF es):FitL (s.tallyR N es):=by
 unfold Rn.tallyR;dsimp only;have h1:=tallyL es 0 (-1) s h;generalize Rn.tallyL es 0 (-1) s=p at *
 split
 ·have hg:I64 (es.getD p.1.toNat ⟨0,0,0⟩).sl/\I64 (es.getD p.1.toNat ⟨0,0,0⟩).wd:=by
   rw [List.getD_eq_getElem?_getD];cases hx:es[p.1.toNat]? with
   | none=>exact ⟨b0O,b0O⟩
   | some e=>exact he e (List.mem_of_getElem? hx)
  exact h1.start _ hg.1 hg.2
 ·exact h1
theorem recM (h:FitL s) (k:Int) {ws:List Int} (hw:∀ z ∈ ws,I64 z):FitL (s.recM k ws).2/\I64 (s.recM k ws).1.1:=⟨h.make hw,c0O _ _⟩
theorem fresh (h:FitL s) (kind:Int) {key value w q:Int} (leaf there:Bool) (hk:I64 key) (hv:I64 value) (hw:I64 w) (hq:I64 q):FitL (s.freshR kind key value w q leaf there).2/\I64 (s.freshR kind key value w q leaf there).1.1:=by
 unfold Rn.freshR;have h1:=h.recM 2 (ws:=[key,value]) (by
  simp only [List.mem_cons,List.not_mem_nil,or_false];rintro z (rfl | rfl)
  ·exact hk
  ·exact hv)
 split
 ·exact h.recM 1 (fun z hz=>by obtain rfl:=List.mem_singleton.1 hz;exact b0O)
 ·split
  ·exact h1
  ·generalize s.recM 2 [key,value]=m at *;refine h1.1.recM 3 (Fit.innerL_fit (b0Z (by decide) (by decide)) (fun z hz=>by
    obtain rfl:=List.mem_singleton.1 hz
    by_cases hle:q<=key
    ·rw [Int.max_eq_right hle];exact hk
    ·rw [Int.max_eq_left (by omega)];exact hq) (fun z hz=>?_) ?_)
   ·split at hz
    ·simp only [List.mem_cons,List.not_mem_nil,or_false] at hz;rcases hz with rfl | rfl
     ·exact h1.2
     ·exact hw
    ·simp only [List.mem_cons,List.not_mem_nil,or_false] at hz;rcases hz with rfl | rfl
     ·exact hw
     ·exact h1.2
   ·split <;> simp
theorem layB (h:FitL s) (kind:Int) {key value sl w q:Int} (n:Int) (res:Rs) (leaf found:Bool) {path:List En} (hk:I64 key) (hv:I64 value) (hs:I64 sl) (hw:I64 w) (hq:I64 q) (he:EF path):FitL (s.layB N kind key value n sl w q res leaf found path).2:=by
 unfold Rn.layB;dsimp only;have h1:=h.fresh kind leaf found hk hv hw hq;generalize s.freshR kind key value w q leaf found=x at *
 split
 ·exact h
 ·split
  ·exact h1.1
  ·have h2:FitL ({ x.2 with rc:=0 }:Rn):=⟨h1.1.toFit.rc 0,h1.1.len⟩;generalize ({ x.2 with rc:=0 }:Rn)=t at *;have h3:=h2.dcss (g:=wrap64 (n+2)) (v0H _) hs hw h1.2;generalize t.dcss (wrap64 (n+2)) sl w x.1.1=o at *;have h4:FitL (if 0 < o.2.rc then { o.2 with ld:=o.2.rc } else o.2:Rn):=by
    split
    ·exact ⟨h3.toFit.ld _,h3.len⟩
    ·exact h3
   generalize (if 0 < o.2.rc then { o.2 with ld:=o.2.rc } else o.2:Rn)=u at *
   split
   ·exact h4
   ·show FitL (if _ then _ else _:Rn)
    split
    ·exact h4.tally he
    ·exact h4
theorem lay (h:FitL s) (kind:Int) {key value sl w:Int} (n:Int) {path:List En} (hk:I64 key) (hv:I64 value) (hs:I64 sl) (hw:I64 w) (he:EF path):FitL (s.layR N kind key value n sl w path).2:=by
 unfold Rn.layR;dsimp only;have h1:=h.read (ad w);have i1:=h.toFit.r64 (ad w);generalize s.read (ad w)=q at *
 split
 ·split
  ·exact (h1.read _).layB _ _ _ _ _ hk hv hs hw i1 he
  ·exact h1.layB _ _ _ _ _ hk hv hs hw i1 he
 ·exact h.layB _ _ _ _ _ hk hv hs hw b0O he
theorem child (h:FitL s) (n k:Int):FitL (s.child n k).2:=⟨h.toFit.child n k,Nat.le_trans (Rn.child_on s n k).left (Nat.le_trans (Rn.read_le s n) h.len)⟩
theorem slot (h:FitL s) (a:Int):FitL (s.slot a).2/\I64 (s.slot a).1:=⟨⟨(h.toFit.slot a).1,Nat.le_trans (Rn.slot_le s a) h.len⟩,(h.toFit.slot a).2⟩
theorem attempt (kind:Int) {key value:Int} (hk:I64 key) (hv:I64 value):∀ (c:Nat) (n:Int) (es:List En) (s:Rn),FitL s->EF es->FitL (Rn.attemptL N kind key value c n es s).2
 | 0,_,_,_,h,_=>h
 | c+1,n,es,s,h,he=>by
  rw [Rn.attemptL]
  split
  ·exact h
  ·dsimp only;have h1:=h.child n key;have i1:I64 (s.child n key).1:=v0I _ _ _;generalize s.child n key=z at *;have h2:=h1.slot z.1;generalize z.2.slot z.1=w at *
   split
   ·split <;> exact h2.1.renew _
   ·split
    ·refine attempt kind hk hv c _ _ _ h2.1 (fun e hm=>?_);rcases List.mem_append.1 hm with hm | hm
     ·exact he e hm
     ·obtain rfl:=List.mem_singleton.1 hm;exact ⟨i1,h2.2⟩
    ·exact h2.1.lay _ _ hk hv i1 h2.2 he
theorem change (kind:Int) {key value:Int} (hk:I64 key) (hv:I64 value):∀ (c:Nat) (s:Rn),FitL s->FitL (Rn.changeL N kind key value c s).2
 | 0,_,h=>h
 | c+1,s,h=>by
  rw [Rn.changeL]
  split
  ·exact h
  ·dsimp only;have h1:=attempt (N:=N) kind hk hv (s.left+1) 1 [] s h (fun _ h=>by cases h);generalize Rn.attemptL N kind key value (s.left+1) 1 [] s=a at *
   split
   ·exact h1
   ·exact change kind hk hv c _ h1
end FitL
namespace Fit
theorem meets {s:Rn} (h:Fit s) (k:Wk) (a:Int):Fit (s.meetsW k a).2:=by
 unfold Rn.meetsW;dsimp only
 repeat' split
 all_goals first
  | exact h.read _
  | exact (h.read _).read _
theorem below {T:Rn->Wk->Int->(Bool × Wk) × Rn} (hT:∀ s k a,Fit s->Fit (T s k a).2) {s:Rn} (h:Fit s) (k:Wk) (w:Int):Fit (Rn.belowW T s k w).2:=by
 unfold Rn.belowW
 repeat' split
 all_goals first
  | exact h.meets _ _
  | exact hT _ _ _ h
  | exact hT _ _ _ (h.read _)
  | exact h
theorem thrL {T:Rn->Wk->Int->(Bool × Wk) × Rn} (hT:∀ s k a,Fit s->Fit (T s k a).2) (n d:Int):∀ (c:Nat) (i:Int) (k:Wk) (t:Rn),Fit t->Fit (Rn.thrL T n d c i k t).2
 | 0,_,_,_,h=>h
 | c+1,i,k,t,h=>by
  rw [Rn.thrL];dsimp only;have h1:=(h.peek (a0B n d i)).1;generalize t.peek (a0B n d i)=z at *;have h2:=below hT h1 { k with ss:=k.ss++[(a0B n d i,z.1)] } z.1;generalize Rn.belowW T z.2 { k with ss:=k.ss++[(a0B n d i,z.1)] } z.1=b at *
  repeat' split
  all_goals first
   | exact h
   | exact h1
   | exact h2
   | exact h2.read _
   | exact thrL hT n d c _ _ _ (h2.read _)
theorem thrF:∀ (f:Nat) (s:Rn) (k:Wk) (n:Int),Fit s->Fit (Rn.thrF f s k n).2
 | 0,_,_,_,h=>h
 | f+1,s,k,n,h=>by
  rw [Rn.thrF];exact thrL (fun s k a h=>thrF f s k a h) _ _ _ _ _ _ (h.route _ _)
theorem again:∀ (L:List (Int × Int)) (s:Rn),Fit s->Fit (Rn.againL L s).2
 | [],_,h=>h
 | p :: L,s,h=>by
  rw [Rn.againL]
  repeat' split
  all_goals first
   | exact h
   | exact again L _ (h.peek _).1
   | exact (h.peek _).1
theorem queryL (N:Nat) (kind key value:Int):∀ (c:Nat) (s:Rn),Fit s->Fit (Rn.queryL N kind key value c s).2
 | 0,_,h=>h
 | c+1,s,h=>by
  rw [Rn.queryL];dsimp only;have h1:=thrF N s (Wk.asked kind key value) 1 h;generalize Rn.thrF N s (Wk.asked kind key value) 1=t at *;have h2:=again t.1.2.ss t.2 h1;generalize Rn.againL t.1.2.ss t.2=a at *
  repeat' split
  all_goals first
   | exact h
   | exact h1
   | exact h2
   | exact queryL N kind key value c _ h2
theorem query {s:Rn} (h:Fit s) (N:Nat) (kind key value budget:Int):Fit (s.queryR N kind key value budget).2:=by
 unfold Rn.queryR;dsimp only;have h1:=h.seek key;generalize s.seek key=z at *
 repeat' split
 all_goals first
  | exact h1
  | exact queryL ..
  | exact queryL _ _ _ _ _ _ h
end Fit
theorem Rn.start_fit {tape:List Int} (h:∀ z ∈ tape,I64 z) (hl:tape.length<=900000):FitL (Rn.start tape):=⟨⟨h,b0O,b0O,fun _ h=>by cases h⟩,by rw [Rn.start_left];omega⟩
theorem Fp.play_fit {p:Fp} (hg:p.good) (h:∀ z ∈ p.tape,I64 z) (hl:p.tape.length<=900000):FitA p.play.2.nx:=by
 have hs:=Rn.start_fit h hl;unfold Fp.play
 split
 ·exact (FitL.change p.k hg.key hg.val _ _ hs).nx
 ·exact (Fit.query hs.toFit _ _ _ _ _).nx
theorem Mst.doA_ok {m:Mst} (h:m.ok) (hs:m.size<=65536) {q:Ak} (hq:FitA q):(m.doA q).2.ok/\(m.doA q).2.size=m.size:=by
 have ht:∀ a,(m.touch a).ok/\(m.touch a).size=m.size/\(m.touch a).xs=m.xs:=fun a=>by
  unfold Mst.touch
  split <;> exact ⟨h,rfl,rfl⟩
 have hw:∀ a x,I64 x->(m.write a x).ok/\(m.write a x).size=m.size:=fun a x hx=>by
  unfold Mst.write Mst.put
  split
  ·refine ⟨⟨fun z hz=>?_,?_⟩,(ht a).2.1⟩
   ·rcases List.mem_or_eq_of_mem_set hz with hz | rfl
    ·exact (ht a).1.1 z hz
    ·exact hx
   ·simpa using (ht a).1.2
  ·exact ⟨(ht a).1,(ht a).2.1⟩
 unfold Mst.doA
 split
 ·exact ⟨(ht _).1,(ht _).2.1⟩
 ·split
  ·exact hw _ _ hq.x
  ·split
   ·dsimp only;unfold Mst.cas
    split
    ·exact hw _ _ hq.y
    ·exact ⟨(ht _).1,(ht _).2.1⟩
   ·split
    ·exact hw _ _ (v0H _)
    ·split
     ·dsimp only;unfold Mst.make
      split
      ·rename_i hf;refine ⟨⟨fun z hz=>?_,?_⟩,rfl⟩
       ·rcases List.mem_append.1 hz with hz | hz
        ·exact h.1 z hz
        ·exact hq.w z hz
       ·simp only [Mst.fits,Bool.and_eq_true,decide_eq_true_eq] at hf;simp only [List.length_append];omega
      ·exact ⟨h,rfl⟩
     ·exact ⟨h,rfl⟩
end
section
open Go.Shelf
attribute [local go_sem] Oper.semAt_some
namespace Ixp
def pickZ (ix:Ixp) (j:Nat):Bool × Ixp:=
 match ix.ts[j]? with
 | none=>(false,ix)
 | some q=>
  match q.fr with
  | none=>(false,ix)
  | some p=>
   if q.busy=true then
    let r:=q.step p ix.m
    let i2:=takesL ix.ts.length 0 (ix.pick1 j r.2.1 r.2.2)
    (r.1.2,{ i2 with logn:=i2.logn+(if r.1.2=true then 1 else 0) })
   else (false,ix)
def doZ (j:Nat):Nat->Ixp->Ixp
 | 0,ix=>ix
 | n+1,ix=>if (ix.pickZ j).1=true then (ix.pickZ j).2 else doZ j n (ix.pickZ j).2
def invokeZ (ix:Ixp) (j:Nat) (k key val:Int):Ixp:=
 match ix.ts[j]? with
 | none=>ix
 | some q=>if q.busy=true then ix else ix.invoke j q k key val
structure Gd (ix:Ixp) (c:Nat):Prop where
 ts:ix.ts.length<=64
 tape:∀ (i:Nat) (q:Tp) (p:Fp),ix.ts[i]? = some q->q.fr=some p->p.tape.length<=c
 bud:∀ (i:Nat) (q:Tp),ix.ts[i]? = some q->1<=q.bud/\q.bud<=64
 log:ix.logn<=100 * c+10
theorem Gd.le {ix:Ixp} {c c':Nat} (h:Gd ix c) (hc:c<=c'):Gd ix c':=
 ⟨h.ts,fun i q p e1 e2=>Nat.le_trans (h.tape i q p e1 e2) hc,h.bud,by have:=h.log;omega⟩
theorem t0M (ix:Ixp) (k i:Nat) (q':Tp) (h:(ix.takes1 k).ts[i]? = some q'):∃ q,ix.ts[i]? = some q/\q'.fr=q.fr/\q'.busy=q.busy/\q'.bud=q.bud:=by
 unfold takes1 at h
 split at h
 ·rename_i q hq
  split at h
  ·rw [List.getElem?_set] at h
   by_cases hki:k=i
   ·subst hki;rw [if_pos rfl] at h
    split at h
    ·cases h;exact ⟨q,hq,rfl,rfl,rfl⟩
    ·cases h
   ·rw [if_neg hki] at h;exact ⟨q',h,rfl,rfl,rfl⟩
  ·exact ⟨q',h,rfl,rfl,rfl⟩
 ·exact ⟨q',h,rfl,rfl,rfl⟩
theorem takesL_ts:∀ (c k:Nat) (ix:Ixp) (i:Nat) (q':Tp),(takesL c k ix).ts[i]? = some q'->∃ q,ix.ts[i]? = some q/\q'.fr=q.fr/\q'.busy=q.busy/\q'.bud=q.bud
 | 0,_,_,_,q',h=>⟨q',h,rfl,rfl,rfl⟩
 | c+1,k,ix,i,q',h=>by
  obtain ⟨q1,h1,a1,a2,a3⟩:=takesL_ts c (k+1) _ i q' h;obtain ⟨q2,h2,b1,b2,b3⟩:=t0M ix k i q1 h1;exact ⟨q2,h2,a1.trans b1,a2.trans b2,a3.trans b3⟩
theorem j0Z (p:Fp):p.settle.tape=p.tape:=by
 unfold Fp.settle
 split <;> rfl
theorem t0O (p:Fp) (m:Mst):(p.step m).1.tape.length<=p.tape.length+1:=by
 unfold Fp.step
 split
 ·simp
 ·dsimp only;rw [j0Z];simp
theorem tstep_fr (q:Tp) (p:Fp) (m:Mst):(q.step p m).2.1.fr=some (p.step m).1/\(q.step p m).2.1.bud=q.bud/\(q.step p m).2.2=(p.step m).2/\((q.step p m).1.2=false->(q.step p m).2.1.busy=q.busy):=by
 unfold Tp.step
 split
 ·exact ⟨rfl,rfl,rfl,fun e=>by cases e⟩
 ·exact ⟨rfl,rfl,rfl,fun _=>rfl⟩
theorem pickZ_gd {ix:Ixp} {c:Nat} (h:Gd ix c) (j:Nat):Gd (ix.pickZ j).2 (c+1):=by
 unfold pickZ
 split
 ·exact h.le (by omega)
 ·rename_i q hq
  split
  ·exact h.le (by omega)
  ·rename_i p hp
   split
   ·dsimp only;obtain ⟨f1,f2,_,_⟩:=tstep_fr q p ix.m;obtain ⟨k1,k2,_⟩:=takesL_keeps ix.ts.length 0 (ix.pick1 j (q.step p ix.m).2.1 (q.step p ix.m).2.2);have l1:(ix.pick1 j (q.step p ix.m).2.1 (q.step p ix.m).2.2).ts.length=ix.ts.length:=by simp [pick1]
    have l2:(ix.pick1 j (q.step p ix.m).2.1 (q.step p ix.m).2.2).logn=ix.logn:=rfl;have jl:j < ix.ts.length:=(List.getElem?_eq_some_iff.1 hq).1;have get:∀ (i:Nat) (q':Tp),(ix.pick1 j (q.step p ix.m).2.1 (q.step p ix.m).2.2).ts[i]? = some q'->(∀ p',q'.fr=some p'->p'.tape.length<=c+1)/\1<=q'.bud/\q'.bud<=64:=by
     intro i q' e;simp only [pick1,List.getElem?_set] at e
     by_cases hji:j=i
     ·subst hji;rw [if_pos rfl,if_pos jl] at e;cases e;refine ⟨fun p' e'=>?_,by rw [f2];exact h.bud j q hq⟩;rw [f1] at e';cases e'
      have:=t0O p ix.m
      have:=h.tape j q p hq hp
      omega
     ·rw [if_neg hji] at e;exact ⟨fun p' e'=>Nat.le_trans (h.tape i q' p' e e') (by omega),h.bud i q' e⟩
    refine ⟨by show (takesL _ _ _).ts.length<=64;rw [k1,l1];exact h.ts,fun i q' p' e1 e2=>?_,fun i q' e1=>?_,?_⟩
    ·obtain ⟨q1,g1,g2,_,_⟩:=takesL_ts _ _ _ i q' e1;exact (get i q1 g1).1 p' (by rw [<- g2];exact e2)
    ·obtain ⟨q1,g1,_,_,g4⟩:=takesL_ts _ _ _ i q' e1;rw [g4];exact (get i q1 g1).2
    ·show (takesL _ _ _).logn+_<=_
     have:=h.log
     have:=h.ts
     split <;> omega
   ·exact h.le (by omega)
theorem doZ_gd:∀ (n j:Nat) {ix:Ixp} {c:Nat},Gd ix c->Gd (doZ j n ix) (c+n)
 | 0,_,_,_,h=>h
 | n+1,j,ix,c,h=>by
  rw [doZ];have h1:=pickZ_gd h j
  split
  ·exact h1.le (by omega)
  ·exact (doZ_gd n j h1).le (by omega)
theorem s0R {ix:Ixp} {c:Nat} (h:Gd ix c) (j:Nat) (k key val:Int):Gd (ix.invokeZ j k key val) (c+1):=by
 unfold invokeZ
 split
 ·exact h.le (by omega)
 ·rename_i q hq
  split
  ·exact h.le (by omega)
  ·have jl:j < ix.ts.length:=(List.getElem?_eq_some_iff.1 hq).1;refine ⟨by simp only [invoke,List.length_set];exact h.ts,fun i q' p' e1 e2=>?_,fun i q' e1=>?_,by simp only [invoke];have:=h.log;omega⟩
   ·simp only [invoke,List.getElem?_set] at e1
    by_cases hji:j=i
    ·subst hji;rw [if_pos rfl,if_pos jl] at e1;cases e1;simp only [Tp.begin] at e2;cases e2;rw [j0Z];simp [Fp.make]
    ·rw [if_neg hji] at e1;exact Nat.le_trans (h.tape i q' p' e1 e2) (by omega)
   ·simp only [invoke,List.getElem?_set] at e1
    by_cases hji:j=i
    ·subst hji;rw [if_pos rfl,if_pos jl] at e1;cases e1;exact h.bud j q hq
    ·rw [if_neg hji] at e1;exact h.bud i q' e1
theorem pickZ_busy {ix:Ixp} {j:Nat} {q:Tp} {p:Fp} (hq:ix.ts[j]? = some q) (hp:q.fr=some p) (hb:q.busy=true) (he:(ix.pickZ j).1=false):∃ q' p',(ix.pickZ j).2.ts[j]? = some q'/\q'.fr=some p'/\q'.busy=true:=by
 unfold pickZ at he ⊢;rw [hq] at he ⊢;dsimp only at he ⊢;rw [hp] at he ⊢;dsimp only at he ⊢;rw [if_pos hb] at he ⊢;dsimp only at he ⊢;obtain ⟨f1,_,_,f4⟩:=tstep_fr q p ix.m;have jl:j < ix.ts.length:=(List.getElem?_eq_some_iff.1 hq).1;obtain ⟨k1,_,_⟩:=takesL_keeps ix.ts.length 0 (ix.pick1 j (q.step p ix.m).2.1 (q.step p ix.m).2.2);have l1:(ix.pick1 j (q.step p ix.m).2.1 (q.step p ix.m).2.2).ts.length=ix.ts.length:=by simp [pick1]
 have hl:j < (takesL ix.ts.length 0 (ix.pick1 j (q.step p ix.m).2.1 (q.step p ix.m).2.2)).ts.length:=by rw [k1,l1];exact jl
 have hx:=takesL_ts _ _ _ j _ (List.getElem?_eq_getElem hl);obtain ⟨q1,g1,g2,g3,_⟩:=hx;simp only [pick1,List.getElem?_set] at g1;simp only [if_true] at g1;rw [if_pos jl] at g1;cases g1;exact ⟨_,(p.step ix.m).1,List.getElem?_eq_getElem hl,by rw [g2,f1],by rw [g3,f4 he,hb]⟩
end Ixp
theorem pickz_r (W:World) (n₀ x mb tb:Nat) (ix:Ixp) (mv:Value) (tv lv:Sl) (pz:List Pt) (h:IxIs W n₀ x ix mb mv tb tv lv pz) (hn:n₀<=W.heap.size) (j:Nat) (q:Tp) (p:Fp) (hq:ix.ts[j]? = some q) (hb:q.busy=true) (hfr:q.fr=some p) (c:Nat) (hg:ix.Gd c) (hc:c<=7000) (r:Bool) (ix':Ixp) (he:ix.pickZ j=(r,ix')) :
  Calls Tryz.prog 84 #[.pointer (some ⟨x,0,none⟩),.int .i64 (j:Int)] W fun e W'=>(∃ u la ln lc,e=.returned (.tuple #[.agg (Rs.cs u (.slice la ln lc)),.bool r]))/\(∃ mv' lv' pz',IxIs W' n₀ x ix' mb mv' tb tv lv' pz')/\Td (Mine W n₀) W W':=by
 have jl:j < ix.ts.length:=(List.getElem?_eq_some_iff.1 hq).1;have jp:j < pz.length:=by rw [h.pn];exact jl
 obtain ⟨pt,hpt⟩:∃ pt,pz[j]? = some pt:=⟨_,List.getElem?_eq_getElem jp⟩;have th:=h.th j q pt hq hpt;obtain ⟨gd,g64⟩:p.good/\∀ z ∈ p.tape,I64 z:=by
  rcases th.fr with ⟨_,h2,_⟩ | ⟨f,p',_,h2,F⟩
  ·rw [hfr] at h2;cases h2
  ·rw [hfr] at h2;cases h2;exact ⟨F.good,F.i64⟩
 have ht:=hg.tape j q p hq hfr;have hm1:(q.step p ix.m).2.2.ok:=by
  rw [(Ixp.tstep_fr q p ix.m).2.2.1];unfold Fp.step
  split
  ·exact h.mok
  ·exact (Mst.doA_ok h.mok h.mem.top (Fp.play_fit gd g64 (by omega))).1
 have hl:=hg.log;have hts:=hg.ts;unfold Ixp.pickZ at he;rw [hq] at he;dsimp only at he;rw [hfr] at he;dsimp only at he;rw [if_pos hb] at he;obtain ⟨rfl,rfl⟩:=Prod.mk.inj he;refine (pick_r W n₀ x mb tb ix mv tv lv pz h j q pt p hq hpt hb hfr (by omega) hn (by omega) _ _ _ _ _ rfl hm1 _ rfl).mono ?_;rintro e W' ⟨⟨l',rfl,pr⟩,h2,h3⟩;obtain ⟨la,lc,rfl,_⟩:=pr.reads;exact ⟨⟨_,la,_,lc,rfl⟩,h2,h3⟩
theorem Td.mine_trans {W W1 W2:World} {n₀:Nat} (t1:Td (Mine W n₀) W W1) (t2:Td (Mine W1 n₀) W1 W2):Td (Mine W n₀) W W2:=
 t1.trans t2 (fun _ e=>e) (fun k hk e=>by
  by_cases hm:Mine W n₀ k
  ·exact hm
  ·exact ⟨e.1,fun c T hc=>e.2 c T (by rw [t1.block k hk hm];exact hc)⟩)
theorem Td.mine_kept {W W1 W2:World} {n₀:Nat} (k:Kept W W1) (t2:Td (Mine W1 n₀) W1 W2):Td (Mine W n₀) W W2:=
 (k.mono (fun _ _ e=>e.elim)).mine_trans t2
set_option maxRecDepth 100000 in
set_option maxHeartbeats 4000000 in
theorem do_r (W:World) (n₀ x mb tb:Nat) (ix:Ixp) (mv:Value) (tv lv:Sl) (pz:List Pt) (h:IxIs W n₀ x ix mb mv tb tv lv pz) (hn:n₀<=W.heap.size) (j:Nat) (q:Tp) (p:Fp) (hq:ix.ts[j]? = some q) (hb:q.busy=true) (hfr:q.fr=some p) (c:Nat) (hg:ix.Gd c) (N:Nat) (hN:N<=100) (hc:c+N<=7000) :
  Calls Tryz.prog 58 #[.pointer (some ⟨x,0,none⟩),.agg #[.int .i64 2,.int .i64 (j:Int),.int .i64 (N:Int),.int .i64 0,.int .i64 0,.int .i64 0]] W fun e W'=>e=.returned (.int .i64 0)/\(∃ mv' lv' pz',IxIs W' n₀ x (Ixp.doZ j N ix) mb mv' tb tv lv' pz')/\Td (Mine W n₀) W W':=by
 obtain ⟨V,hV⟩:∃ V,W.alloc (.cells #[.int .i64 2,.int .i64 (j:Int),.int .i64 (N:Int),.int .i64 0,.int .i64 0,.int .i64 0] 120)=V:=⟨_,rfl⟩;have kV:Kept W V:=by rw [<- hV];exact Td.alloc _ _ _
 have bo:V.heap[W.heap.size]? = some (.cells #[.int .i64 2,.int .i64 (j:Int),.int .i64 (N:Int),.int .i64 0,.int .i64 0,.int .i64 0] 120):=by rw [<- hV];exact a0C _ _
 have HX:=gh (h.kept kV);have KV:=gh kV;have BO:=gh bo;have HG:=gh hg;have HQ:=gh hq;have HB:=gh hb;have HFR:=gh hfr;have HN:=gh (Nat.le_trans hn kV.size);have b0:V.cell? ⟨W.heap.size,0,none⟩=some (.int .i64 2):=by simp [World.cell?,bo]
 clear h hn hq hb hfr hg kV bo;go_enter Tryz.func58,Tryz.ntmps58;go_wp2_with (fail);clear b0
 go_loopw [5,6,7] (fun vi _ _ wr=>∃ (k:Nat) (ix':Ixp) (mv':Value) (lv':Sl) (pz':List Pt) (q':Tp) (p':Fp),vi=.int .i64 (k:Int)/\k<=N/\Hid (IxIs wr n₀ x ix' mb mv' tb tv lv' pz')/\Hid (Td (Mine V n₀) V wr)/\Hid (ix'.ts[j]? = some q'/\q'.busy=true/\q'.fr=some p')/\Hid (ix'.Gd (c+k))/\Hid (Ixp.doZ j N ix=Ixp.doZ j (N - k) ix')) (fun vi _ _ _=>N - (intOf vi).toNat)
 case atStart=>exact ⟨0,ix,mv,lv,pz,q,p,rfl,by omega,HX,gh (Td.refl _ _),gh ⟨HQ.o,HB.o,HFR.o⟩,HG,gh rfl⟩
 case round=>
  obtain ⟨k,ix',mv',lv',pz',q',p',rfl,hk,I,T,B,G,E⟩:=hrel;have bw:=T.o.mine BO.o (by decide);have b1:wr.cell? ⟨W.heap.size,1,none⟩=some (.int .i64 (j:Int)):=by simp [World.cell?,bw]
  have b2:wr.cell? ⟨W.heap.size,2,none⟩=some (.int .i64 (N:Int)):=by simp [World.cell?,bw]
  clear bw HX HG HQ HB HFR
  by_cases hkN:k < N
  ·have j1:(k:Int) < (N:Int):=by omega
   have j2:(k:Int) < 65536:=by omega
   obtain ⟨r,ix2,hr⟩:∃ r ix2,ix'.pickZ j=(r,ix2):=⟨_,_,rfl⟩;have HR:=gh hr;have NW:Hid (n₀<=wr.heap.size):=gh (Nat.le_trans HN.o T.o.size);clear hr;go_wp2_with (fail);refine (pickz_r wr n₀ x mb tb ix' mv' tv lv' pz' I.o NW.o j q' p' B.o.1 B.o.2.1 B.o.2.2 (c+k) G.o (by omega) r ix2 HR.o).mono ?_;rintro e U ⟨⟨u,la,ln,lc,rfl⟩,⟨mv2,lv2,pz2,i2⟩,t2⟩;have I2:=gh i2;have T2:=gh (T.o.mine_trans t2);have G2:Hid (ix2.Gd (c+(k+1))):=gh (by
    have:=Ixp.pickZ_gd G.o j
    rw [HR.o] at this;exact this.le (by omega))
   clear i2 t2 b1 b2;have hN1:N - k=(N - (k+1))+1:=by omega
   have HE:Hid (Ixp.doZ j N ix=if r=true then ix2 else Ixp.doZ j (N - (k+1)) ix2):=gh (by rw [E.o,hN1,Ixp.doZ,HR.o]);clear hN1;have PB:Hid (r=false->∃ q' p',ix2.ts[j]? = some q'/\q'.fr=some p'/\q'.busy=true):=gh (fun e=>by
    have:=Ixp.pickZ_busy B.o.1 B.o.2.2 B.o.2.1 (by rw [HR.o];exact e)
    rw [HR.o] at this;exact this)
   obtain ⟨u0,u1,u2,u3,u4⟩:=u;dsimp only [Rs.cs];clear E G B I T HR;cases r with
   | true=>
    rw [if_pos rfl] at HE;go_wp2;go_ret;exact ⟨rfl,⟨mv2,lv2,pz2,by rw [HE.o];exact I2.o.kept (Td.alloc _ _ _)⟩,Td.mine_kept KV.o (T2.o.trans (Td.alloc (fun _=>False) _ _) (fun _ e=>e) (fun _ _ e=>e.elim))⟩
   | false=>
    rw [if_neg (by decide)] at HE;obtain ⟨q2,p2,e1,e2,e3⟩:=PB.o rfl;have B2:Hid (ix2.ts[j]? = some q2/\q2.busy=true/\q2.fr=some p2):=gh ⟨e1,e3,e2⟩;clear e1 e2 e3 PB;go_wp2;exact ⟨⟨k+1,ix2,mv2,lv2,pz2,q2,p2,by simp,by omega,gh (I2.o.kept (Td.alloc _ _ _)),gh (T2.o.trans (Td.alloc (fun _=>False) _ _) (fun _ e=>e) (fun _ _ e=>e.elim)),B2,G2,HE⟩,by simp only [intOf];omega⟩
  ·have j1:¬ ((k:Int) < (N:Int)):=by omega
   obtain rfl:k=N:=by omega
   have HE:Hid (Ixp.doZ j k ix=ix'):=gh (by rw [E.o,Nat.sub_self,Ixp.doZ]);go_wp2;go_ret;exact ⟨rfl,⟨mv',lv',pz',by rw [HE.o];exact I.o⟩,Td.mine_kept KV.o T.o⟩
end
section
theorem v0X (w:World)  : Calls Tryz.prog 76 #[] w (e0H [0] w):=by
 go_enter Tryz.func76,Tryz.ntmps76;go_wp2;go_ret;exact ⟨_,rfl,f0S w 2 [0] _ (Nat.le_refl _) (by simp),Td.alloc _ _ _⟩
theorem leaf_r (w:World) (k:Int) (v:Int):Calls Tryz.prog 174 #[.int .i64 k,.int .i64 v] w (e0H [k,v] w):=by
 go_enter Tryz.func174,Tryz.ntmps174;go_wp2;go_ret;exact ⟨_,rfl,f0S w 2 [k,v] _ (Nat.le_refl _) (by simp),Td.alloc _ _ _⟩
end
section
open Go.Shelf
attribute [local go_sem] Oper.semAt_some
def NowD (w W:World) (b:Nat) (s:Mst):Prop:=(∃ v,DMem W w.heap.size b v s)/\Kept w W
theorem NowD.on {w W W':World} {b:Nat} {s:Mst} (h:NowD w W b s) (k:Kept W W'):NowD w W' b s:=by
 obtain ⟨⟨v,h⟩,hk⟩:=h;exact ⟨⟨v,h.kept k⟩,hk.trans k⟩
theorem NowD.lt {w W:World} {b:Nat} {s:Mst} (h:NowD w W b s):w.heap.size<=b/\b < W.heap.size:=by
 obtain ⟨⟨v,h⟩,_⟩:=h;exact h.lt b (.inl rfl)
theorem o0N (w W:World) (b:Nat) (s:Mst) (a:Option Addr) (ws:List Int) (cw:Nat) (r:Int) (f:Bool) (s':Mst) (h:NowD w W b s) (hr:Reads W a ws) (hlw:ws.length<=maxLen) (hs:ws≠[]->∀ ad,a=some ad->ad.block≠b) (e1:s.next ws=r) (e2:s.fits ws.length=f) (e3:s.make ws=s') :
  Calls Tryz.prog 75 #[.pointer (some ⟨b,0,none⟩),.slice a ws.length cw] W fun e W'=>e=.returned (.tuple #[.int .i64 r,.bool f])/\NowD w W' b s':=by
 obtain ⟨⟨v,h⟩,hk⟩:=h;subst e1 e2 e3;exact (u0V W w.heap.size b v s a ws cw h hk.size hr hlw hs).mono fun _ _ ⟨h1,v',h',t,_⟩=>⟨h1,⟨v',h'⟩,hk.own (fun i hi=>(h.lt i hi).1) t⟩
theorem beginf_r (w:World):Calls Tryz.prog 78 #[.int .i64 1,.int .i64 7] w fun e w'=>e=.returned (.int .i64 57)/\w=w':=c0Y 1 7 57 (by decide) w
set_option maxRecDepth 100000 in
theorem begin_d (w W:World) (b:Nat) (s:Mst) (h:NowD w W b s) (h0:s.xs=[]) (h7:7<=s.size) :
  Calls Tryz.prog 104 #[.pointer (some ⟨b,0,none⟩)] W fun e W'=>e=.returned (.bool true)/\NowD w W' b (d0V s):=by
 have H:=gh h;have B1:=gh (m0P h0 h7);have B2:=gh (l0H h7);obtain ⟨⟨v,hv⟩,_⟩:=h;obtain ⟨⟨c1,c0,_⟩,_⟩:=hv.opened;obtain ⟨va,vc,rfl,_⟩:=hv.form;rw [h0] at c1;simp only [List.length_nil] at c1;have h7':decide (s.size < 7)=false:=by simp;omega
 clear h0 hv;go_enter Tryz.func104,Tryz.ntmps104;go_wp2_with (fail);refine (beginf_r W).mono ?_;rintro e w' ⟨rfl,rfl⟩;go_wp2_with (fail);refine (g0Z (W.alloc (.cells #[.int .i64 57] 2)) 0 none [] 0 (some ⟨W.heap.size,0,none⟩) [57] 1 (.inl rfl) (Reads.new W 2 [57]) (fun _=>rfl) (fun e=>by cases e) rfl (by decide)).mono ?_;intro e W1 hf;obtain ⟨a1,cap1,rfl,hr,hc,hm,ha,-,hk⟩:=hf.form;have H1:=gh (H.o.on ((Td.alloc (fun _=>False) W _).trans hk (fun _ e=>e) (fun _ _ e=>e)));have HR:=gh hr;have HA:Hid (∀ ad,a1=some ad->ad.block≠b):=gh (fun ad e=>by
  have e1:=ha ad e;have e2:=H.o.lt.2;simp at e1;omega)
 clear hf hr hc hm ha hk H c0 c1;go_wp2_with (fail);refine (o0N w W1 b s a1 (a0S 0 [] [57]) cap1 1 true _ H1.o HR.o (by decide) (fun _=>HA.o) B1.o.1 B1.o.2.1 B1.o.2.2).mono ?_;rintro e W2 ⟨rfl,h2⟩;have H2:=gh h2;clear h2 H1 HR HA B1;go_wp2_with (fail);refine (v0X W2).mono ?_;intro e W3 hf;obtain ⟨a1,cap1,rfl,hr,hc,hm,ha,-,hk⟩:=hf.form;have H3:=gh (H2.o.on hk);have HR:=gh hr;have HA:Hid (∀ ad,a1=some ad->ad.block≠b):=gh (fun ad e=>by
  have e1:=ha ad e;have e2:=H2.o.lt.2;omega)
 clear hf hr hc hm ha hk H2;go_wp2_with (fail);refine (o0N w W3 b _ a1 [0] cap1 7 true _ H3.o HR.o (by decide) (fun _=>HA.o) B2.o.1 B2.o.2.1 B2.o.2.2).mono ?_;rintro e W4 ⟨rfl,h4⟩;have H4:=gh h4;clear h4 H3 HR HA B2;go_wp2;go_ret;exact ⟨rfl,H4.o⟩
theorem info_ptr:(Tryz.prog.info? 117).map (fun i=>(i.zero,i.size,i.bytes))=some (some (.pointer none),1,8):=by kernel_rfl
theorem g0T {F:Fence} {nF:Nat} {w:World} {ops:Array Oper} {rest:List Oper} {o:Oper} {a:Act} {Q:Exit->Act->World->Prop} (hgd:o.guard=none) (s x:Operand) (ho:o.op=.call { callee:=.builtin .append,args:=#[s,x],argTypes:=#[28,28] })
  (base:Nat) (v:Value) (n:Nat) (cs:List Value) (hs:a.eval s=v) (hown:w.ownsRow base 117 1 v n cs) (m t:Nat) (hx:a.eval x=.slice (some ⟨m,0,none⟩) 1 1) (hc:w.heap[m]? = some (.cells #[.pointer (some ⟨t,0,none⟩)] 117))
  (hl:n<=900000) (hbase:base<=w.heap.size)
  (h:∀ v' w',w'.ownsRow base 117 1 v' (n+1) (cs++[.pointer (some ⟨t,0,none⟩)])->w.grownBy w' v.ownBlock->(v'.ownBlock=v.ownBlock∨v'.ownBlock=some w.heap.size)->wpListIn F nF Tryz.prog ops Q rest (a.put o.dst v') w'):wpListIn F nF Tryz.prog ops Q (o :: rest) a w:=by
 obtain ⟨i0,hi,hz0,hz1,hz2⟩:=info_parts info_ptr;refine wpListIn_append_own_at w hgd s x 28 ho base 117 i0 _ 1 8 Tryz.underlying28 hi hz0 hz1 hz2 rfl (by decide) v n cs hs hown ⟨m,0,none⟩ 1 1 [.pointer (some ⟨t,0,none⟩)] hx (by simp) ?_ (by simp [Value.oneCell']) (by unfold maxLen;omega) (by omega) hbase ?_
 ·intro j u hu;rcases j with _ | j
  ·simp at hu;subst hu;simp [World.cell?,hc,Addr.add]
  ·simp at hu
 ·intro v' w' h3 h2 _ h4;exact h v' w' h3 h2 h4
end
section
open Go.Shelf
attribute [local go_sem] Oper.semAt_some
def Tp.idle (bud:Int):Tp:=⟨bud,false,0,0,0,none,0,false,0⟩
def Ixp.fresh (cells bud:Int) (n:Nat):Ixp:=⟨cells,(n:Int),bud,d0V (Mst.new cells),List.replicate n (Tp.idle bud),0,0,0⟩
def ptrs (pz:List Pt):List Value:=pz.map fun p=>.pointer (some ⟨p.t,0,none⟩)
structure NewI (w W:World) (x mb:Nat) (cells bud:Int) (N n:Nat) (tv:Sl) (pz:List Pt):Prop where
 kept:Kept w W
 cfg:W.heap[w.heap.size]? = some (.cells #[.int .i64 cells,.int .i64 (N:Int),.int .i64 bud] 26)
 le:w.heap.size<=x
 box:W.heap[x]? = some (.cells ((Ixp.fresh cells bud N).cs mb tv Sl.nil) 31)
 mem:∃ v,DMem W w.heap.size mb v (d0V (Mst.new cells))
 row:W.ownsRow w.heap.size 117 1 tv.v n (ptrs pz)
 rn:tv.n=n
 pn:pz.length=n
 th:∀ p,p ∈ pz->p.fa=none/\p.tp=Sl.nil/\w.heap.size<=p.t/\W.heap[p.t]? = some (.cells ((Tp.idle bud).cs none) 116)
 dt:∀ (i j:Nat) (p p':Pt),pz[i]? = some p->pz[j]? = some p'->i≠j->p.t≠p'.t
theorem u0O {W:World} {n₀ n:Nat} {v:Value} {cs:List Value} (h:W.ownsRow n₀ 117 1 v n cs):∀ g,v.ownBlock=some g->n₀<=g/\∃ c,W.heap[g]? = some (.cells c 117):=by
 intro g e;rcases h.2 with ⟨rfl,_⟩ | ⟨g',cap,cur,rfl,hg,hh,_⟩
 ·simp [Value.ownBlock] at e
 ·simp [Value.ownBlock] at e;subst e;exact ⟨hg,_,hh⟩
theorem f0A {W W':World} {n₀ n:Nat} {v:Value} {cs:List Value} {R:Nat->Prop} (h:W.ownsRow n₀ 117 1 v n cs) (t:Td R W W') (hn:∀ g,v.ownBlock=some g->¬ R g):W'.ownsRow n₀ 117 1 v n cs:=by
 refine ⟨h.1,?_⟩;rcases h.2 with h2 | ⟨g,cap,cur,rfl,hg,hh,r⟩
 ·exact .inl h2
 ·exact .inr ⟨g,cap,cur,rfl,hg,t.heap hh (hn g rfl),r⟩
theorem NewI.on {w W W':World} {x mb:Nat} {cells bud:Int} {N n:Nat} {tv:Sl} {pz:List Pt} (h:NewI w W x mb cells bud N n tv pz) (k:Kept W W'):NewI w W' x mb cells bud N n tv pz:=by
 refine ⟨h.kept.trans k,k.heap h.cfg id,h.le,k.heap h.box id,?_,f0A h.row k (fun _ _ e=>e),h.rn,h.pn,fun p hp=>?_,h.dt⟩
 ·obtain ⟨v,hv⟩:=h.mem;exact ⟨v,hv.kept k⟩
 ·obtain ⟨a,b,c,d⟩:=h.th p hp;exact ⟨a,b,c,k.heap d id⟩
theorem NewI.step {w W U2 A1 A2:World} {x mb:Nat} {cells bud:Int} {N n:Nat} {tv:Sl} {pz:List Pt} (h:NewI w W x mb cells bud N n tv pz) (k2:Kept W U2) (hb:U2.heap[W.heap.size]? = some (.cells ((Tp.idle bud).cs none) 116))
  (t:Td (fun k=>tv.v.ownBlock=some k) U2 A1) (la:Option Addr) (lc:Nat) (hr:A1.ownsRow w.heap.size 117 1 (.slice la (n+1) lc) (n+1) (ptrs pz++[.pointer (some ⟨W.heap.size,0,none⟩)])) (hA:A1.setCell ⟨x,4,none⟩ (.slice la (n+1) lc)=A2) :
  NewI w A2 x mb cells bud N (n+1) ⟨la,n+1,lc⟩ (pz++[⟨W.heap.size,none,Sl.nil,Sl.nil⟩]):=by
 have t1:Td (fun k=>tv.v.ownBlock=some k) W A1:=k2.then t;have own:=u0O h.row;have tA:Td (fun k=>k=x) A1 A2:=by rw [<- hA];exact Td.setCell (R:=fun k=>k=x) _ _ _ rfl
 have ne:∀ {y:Nat} {c:Array Value} {T:TypeId},W.heap[y]? = some (.cells c T)->T≠117->¬ tv.v.ownBlock=some y:=fun hy e1 e2=>by
  obtain ⟨_,c',hc⟩:=own _ e2;rw [hy] at hc;simp at hc;exact e1 hc.2
 have t2:Td (fun k=>tv.v.ownBlock=some k∨k=x) W A2:=t1.trans tA (fun _ e=>.inl e) (fun _ _ e=>.inr e);have xb:=t1.heap h.box (ne h.box (by decide));have nex:∀ {y:Nat} {c:Array Value} {T:TypeId},W.heap[y]? = some (.cells c T)->T≠117->T≠31->¬ (tv.v.ownBlock=some y∨y=x):=fun hy e1 e2=>by
  rintro (e | e)
  ·exact ne hy e1 e
  ·rw [e,h.box] at hy;simp at hy;exact e2 hy.2.symm
 have xl:x < W.heap.size:=(Array.getElem?_eq_some_iff.1 h.box).1;have lt:∀ p,p ∈ pz->p.t < W.heap.size:=fun p hp=>(Array.getElem?_eq_some_iff.1 (h.th p hp).2.2.2).1;refine ⟨h.kept.own (fun i hi=>hi.elim (fun e=>(own i e).1) (fun e=>by rw [e];exact h.le)) t2,t2.heap h.cfg (nex h.cfg (by decide) (by decide)),h.le,?_,?_,?_,rfl,by simp [h.pn],fun p hp=>?_,fun i j p p' e1 e2 hij=>?_⟩
 ·rw [<- hA];simp [World.setCell,Array.getElem?_modify,xb,Ixp.cs,Sl.nil]
 ·obtain ⟨v,hv⟩:=h.mem;refine ⟨v,hv.turned t2 (fun k hk=>?_)⟩;obtain ⟨c,hc | hc⟩:=hv.types k hk
  ·exact nex hc (by decide) (by decide)
  ·exact nex hc (by decide) (by decide)
 ·have e:ptrs (pz++[⟨W.heap.size,none,Sl.nil,Sl.nil⟩])=ptrs pz++[.pointer (some ⟨W.heap.size,0,none⟩)]:=by simp [ptrs]
  rw [e];refine f0A hr tA (fun g eg e'=>?_);obtain ⟨_,c,hc⟩:=u0O hr g eg;rw [e',xb] at hc;simp at hc
 ·rcases List.mem_append.1 hp with hp | hp
  ·obtain ⟨a,b,c,d⟩:=h.th p hp;exact ⟨a,b,c,t2.heap d (nex d (by decide) (by decide))⟩
  ·obtain rfl:=List.mem_singleton.1 hp;have h1:=t.heap hb (fun e=>by
    obtain ⟨_,c,hc⟩:=own _ e
    have:=(Array.getElem?_eq_some_iff.1 hc).1
    omega)
   exact ⟨rfl,rfl,h.kept.size,tA.heap h1 (by show ¬ W.heap.size=x;omega)⟩
 ·rw [List.getElem?_append] at e1 e2;have pn:=h.pn
  by_cases hi:i < pz.length
  ·rw [if_pos hi] at e1;have l1:=lt p (List.mem_of_getElem? e1)
   by_cases hj:j < pz.length
   ·rw [if_pos hj] at e2;exact h.dt i j p p' e1 e2 hij
   ·rw [if_neg hj] at e2;obtain rfl:=List.mem_singleton.1 (List.mem_of_getElem? e2);dsimp only;omega
  ·rw [if_neg hi] at e1;obtain rfl:=List.mem_singleton.1 (List.mem_of_getElem? e1);have i0:=(List.getElem?_eq_some_iff.1 e1).1
   by_cases hj:j < pz.length
   ·rw [if_pos hj] at e2;have l2:=lt p' (List.mem_of_getElem? e2);dsimp only;omega
   ·rw [if_neg hj] at e2;have j0:=(List.getElem?_eq_some_iff.1 e2).1;simp at i0 j0;omega
theorem NewI.done {w W:World} {x mb:Nat} {cells bud:Int} {N:Nat} {tv:Sl} {pz:List Pt} (h:NewI w W x mb cells bud N N tv pz) (h1:1<=N) (hok:(d0V (Mst.new cells)).ok):∃ mv tb,IxIs W w.heap.size x (Ixp.fresh cells bud N) mb mv tb tv Sl.nil pz:=by
 obtain ⟨mv,hm⟩:=h.mem;rcases h.row.2 with ⟨_,h2⟩ | ⟨g,cap,cur,e,hg,hh,hc,_,_,ht⟩
 ·omega
 ·obtain ⟨ea,en,ec⟩:=Sl.form e;refine ⟨mv,g,h.le,h.box,hm,hok,ea,⟨by rw [en];simp [Ixp.fresh],by rw [en,ec];exact hc⟩,⟨cur,hh,fun i p hp=>?_⟩,by rw [h.pn];simp [Ixp.fresh],fun i q p hq hp=>?_,⟨[],rfl,.inl ⟨rfl,rfl⟩⟩,fun i j p p' e1 e2 hij=>?_,fun i p hp g' eg=>?_,fun i q hq hb=>?_⟩
  ·have h2:(ptrs pz)[i]? = some (.pointer (some ⟨p.t,0,none⟩)):=by simp [ptrs,hp]
   rw [<- ht,Nat.mul_one,List.getElem?_take] at h2
   split at h2
   ·simpa using h2
   ·cases h2
  ·have hq':q=Tp.idle bud:=by
    simp only [Ixp.fresh,List.getElem?_replicate] at hq
    split at hq
    ·cases hq;rfl
    ·cases hq
   obtain ⟨a,b,c,d⟩:=h.th p (List.mem_of_getElem? hp);subst hq';exact ⟨c,by rw [a];exact d,.inl ⟨a,rfl,b⟩⟩
  ·obtain ⟨a,b,_,_⟩:=h.th p (List.mem_of_getElem? e1);exact ⟨h.dt i j p p' e1 e2 hij,(fun f ef=>by rw [a] at ef;cases ef),(fun g eg=>by rw [b] at eg;simp [Sl.nil,Sl.v,Value.ownBlock] at eg)⟩
  ·obtain ⟨a,b,_,_⟩:=h.th p (List.mem_of_getElem? hp);rw [b] at eg;simp [Sl.nil,Sl.v,Value.ownBlock] at eg
  ·simp only [Ixp.fresh,List.getElem?_replicate] at hq
   split at hq
   ·cases hq;simp [Tp.idle] at hb
   ·cases hq
theorem nowd_new (w W:World) (n:Int) (hk:Kept w W) (h0:1<=n) (h1:n<=65536) :
  Calls Tryz.prog 103 #[.int .i64 n] W fun e W'=>e=.returned (.tuple #[.pointer (some ⟨W.heap.size,0,none⟩),.int .i64 0])/\NowD w W' W.heap.size (Mst.new n)/\Kept W W':=
 (new_d W n h0 h1).mono fun _ _ ⟨h1,h2,h3,_⟩=>⟨h1,⟨⟨_,h2.low hk.size⟩,hk.trans h3⟩,h3⟩
theorem begun_ok {n:Int} (_:n<=65536):(d0V (Mst.new n)).ok:=by
 refine ⟨fun z hz=>?_,by simp [d0V]⟩;simp only [d0V,List.mem_cons,List.not_mem_nil,or_false] at hz;rcases hz with rfl | rfl | rfl | rfl | rfl | rfl | rfl <;> exact ⟨by decide,by decide⟩
set_option maxRecDepth 100000 in
set_option maxHeartbeats 4000000 in
theorem new_r (w:World) (cells bud:Int) (N:Nat) (h0:7<=cells) (h1:cells<=65536) (hN:1<=N) (hN':N<=64) (hb:1<=bud) (hb':bud<=64) :
  Calls Tryz.prog 54 #[.agg #[.int .i64 cells,.int .i64 (N:Int),.int .i64 bud]] w fun e w'=>∃ x,e=.returned (.tuple #[.pointer (some ⟨x,0,none⟩),.int .i64 0])/\(∃ mb mv tb tv lv pz,IxIs w' w.heap.size x (Ixp.fresh cells bud N) mb mv tb tv lv pz)/\Kept w w':=by
 obtain ⟨V,hV⟩:∃ V,w.alloc (.cells #[.int .i64 cells,.int .i64 (N:Int),.int .i64 bud] 26)=V:=⟨_,rfl⟩;have kV:Kept w V:=by rw [<- hV];exact Td.alloc _ _ _
 have bo:V.heap[w.heap.size]? = some (.cells #[.int .i64 cells,.int .i64 (N:Int),.int .i64 bud] 26):=by rw [<- hV];exact a0C _ _
 have b0:V.cell? ⟨w.heap.size,0,none⟩=some (.int .i64 cells):=by simp [World.cell?,bo]
 have b1:V.cell? ⟨w.heap.size,1,none⟩=some (.int .i64 (N:Int)):=by simp [World.cell?,bo]
 have b2:V.cell? ⟨w.heap.size,2,none⟩=some (.int .i64 bud):=by simp [World.cell?,bo]
 have i1:decide (cells < 7)=false:=by simp;omega
 have i2:decide (65536 < cells)=false:=by simp;omega
 have i3:decide ((N:Int) < 1)=false:=by simp;omega
 have i4:decide (64 < (N:Int))=false:=by simp;omega
 have i5:decide (bud < 1)=false:=by simp;omega
 have i6:decide (64 < bud)=false:=by simp;omega
 have KV:=gh kV;have BO:=gh bo;clear kV bo;go_enter Tryz.func54,Tryz.ntmps54;go_wp2_with (fail);refine (nowd_new V V cells (Kept.refl _) (by omega) h1).mono ?_;rintro e W1 ⟨rfl,n1,-⟩;obtain ⟨mb,hmb⟩:∃ m,V.heap.size=m:=⟨_,rfl⟩;rw [hmb] at n1;rw [hmb];clear hmb;have H1:=gh n1;clear n1 b0 b1 b2 hV;go_wp2_with (fail);refine (begin_d V W1 mb _ H1.o rfl h0).mono ?_;rintro e W2 ⟨rfl,n2⟩;have H2:=gh n2;have bo2:=n2.2.heap BO.o id;have d0:W2.cell? ⟨w.heap.size,0,none⟩=some (.int .i64 cells):=by simp [World.cell?,bo2]
 have d1:W2.cell? ⟨w.heap.size,1,none⟩=some (.int .i64 (N:Int)):=by simp [World.cell?,bo2]
 have d2:W2.cell? ⟨w.heap.size,2,none⟩=some (.int .i64 bud):=by simp [World.cell?,bo2]
 obtain ⟨x,hx⟩:∃ x,W2.heap.size=x:=⟨_,rfl⟩;have I0:Hid (NewI w (W2.alloc (.cells ((Ixp.fresh cells bud N).cs mb Sl.nil Sl.nil) 31)) x mb cells bud N 0 Sl.nil []):=gh (by
  have kA:Kept W2 (W2.alloc (.cells ((Ixp.fresh cells bud N).cs mb Sl.nil Sl.nil) 31)):=Td.alloc _ _ _;obtain ⟨⟨v,hv⟩,k2⟩:=H2.o;refine ⟨(KV.o.trans k2).trans kA,kA.heap bo2 id,by rw [<- hx];exact Nat.le_trans KV.o.size k2.size,by rw [<- hx];exact a0C _ _,⟨v,(hv.low KV.o.size).kept kA⟩,⟨rfl,.inl ⟨rfl,rfl⟩⟩,rfl,rfl,(fun p hp=>by cases hp),(fun i j p p' e=>by cases e)⟩)
 clear n2 H1 bo2 BO;go_wp2_with (fail)
 rename World=>VV
 go_loopw [7] (fun vi wr=>∃ (i:Nat) (tv:Sl) (pz:List Pt),vi=.int .i64 (i:Int)/\i<=N/\Hid (NewI w wr x mb cells bud N i tv pz)) (fun vi _=>N - (intOf vi).toNat)
 case atStart=>exact ⟨0,_,_,rfl,by omega,I0⟩
 case round=>
  obtain ⟨i,tv,pz,rfl,hi,I⟩:=hrel;clear I0 d0 d1 d2 hx;have c1:wr.cell? ⟨w.heap.size,1,none⟩=some (.int .i64 (N:Int)):=by have:=I.o.cfg;simp [World.cell?,this]
  by_cases hlt:i < N
  ·have j1:(i:Int) < (N:Int):=by omega
   obtain ⟨V9,hV9⟩:∃ V9,wr.drew=V9:=⟨_,rfl⟩;have k9:Kept wr V9:=by rw [<- hV9];exact Kept.drew _
   have I9:=gh (I.o.on k9);have HV9:=gh hV9;have own:=u0O I9.o.row;have ne:∀ {y:Nat} {c:Array Value} {T:TypeId},V9.heap[y]? = some (.cells c T)->T≠117->¬ tv.v.ownBlock=some y:=fun hy e1 e2=>by
    obtain ⟨_,c',hc⟩:=own _ e2;rw [hy] at hc;simp at hc;exact e1 hc.2
   have e4:V9.cell? ⟨x,4,none⟩=some (.slice tv.a tv.n tv.c):=by have:=I9.o.box;simp [World.cell?,this,Ixp.cs]
   have e2:V9.cell? ⟨w.heap.size,2,none⟩=some (.int .i64 bud):=by have:=I9.o.cfg;simp [World.cell?,this]
   have z4:∀ u:Wd (fun U=>Td (fun k=>tv.v.ownBlock=some k) V9 U),u.w.cell? ⟨x,4,none⟩=some (.slice tv.a tv.n tv.c):=fun u=>u.ok.cell e4 (ne I9.o.box (by decide));have z2:∀ u:Wd (fun U=>Td (fun k=>tv.v.ownBlock=some k) V9 U),u.w.cell? ⟨w.heap.size,2,none⟩=some (.int .i64 bud):=fun u=>u.ok.cell e2 (ne I9.o.cfg (by decide));have SZ:Hid (w.heap.size<=V9.heap.size):=gh I9.o.kept.size;have NX:=gh (ne I9.o.box (by decide));have rn:=gh I9.o.rn;clear I hV9 k9 own ne e4 e2 hi;go_wp2_with (fail);clear c1;refine b0P [0,1,2,3,4,5,6,7,8,9,10,11,12] 13 (fun U=>Td (fun k=>tv.v.ownBlock=some k) V9 U) (by kernel_rfl) (by kernel_rfl) (by rw [HV9.o];exact Td.refl _ _) (fun _=>?_);rw [HV9.o]
   repeat (refine lq rfl rfl ?_;go_big_quiet_step (fail);refine wpQuiet_nil ?_)
   refine ll rfl rfl ?_;gi_wp2;refine ⟨Wd.mem (Td.alloc _ _ _),?_⟩;refine ll rfl rfl ?_;gi_wp2;refine ⟨Wd.mem ((show Kept V9 _ from Td.alloc _ _ _).then (Td.alloc _ _ _)),?_⟩;refine ll rfl rfl ?_;gi_wp2_with (gi_at_builtin;refine Stop.out ?_);refine ⟨?_⟩;obtain ⟨U2,hU2⟩:∃ U2,(V9.alloc (.cells ((Tp.idle bud).cs none) 116)).alloc (.cells #[.pointer (some ⟨V9.heap.size,0,none⟩)] 117)=U2:=⟨_,rfl⟩;have k2:Kept V9 U2:=by rw [<- hU2];exact (Kept.alloc (Kept.refl V9) _).alloc _
   have hb2:U2.heap[V9.heap.size]? = some (.cells ((Tp.idle bud).cs none) 116):=by
    rw [<- hU2];exact (show Kept (V9.alloc (.cells ((Tp.idle bud).cs none) 116)) _ from Td.alloc _ _ _).heap (a0C _ _) id
   have hm2:U2.heap[V9.heap.size+1]? = some (.cells #[.pointer (some ⟨V9.heap.size,0,none⟩)] 117):=by
    rw [<- hU2];exact heap_alloc2_new _ _ _
   have r2:=f0A I9.o.row k2 (fun _ _ e=>e);show wpListIn _ _ _ _ _ _ _ ((V9.alloc (.cells ((Tp.idle bud).cs none) 116)).alloc (.cells #[.pointer (some ⟨V9.heap.size,0,none⟩)] 117));rw [hU2];have HU2:=gh hU2;clear hU2;refine g0T rfl _ _ rfl w.heap.size tv.v i (ptrs pz) rfl r2 (V9.heap.size+1) V9.heap.size rfl hm2 (by omega) (Nat.le_trans SZ.o k2.size) ?_;rintro v9 A1 hrow hgrow hat;obtain ⟨la,lc,rfl⟩:∃ la lc,v9=.slice la (i+1) lc:=by
    rcases hrow.2 with ⟨_,e⟩ | ⟨g,cap,cur,rfl,_⟩
    ·omega
    ·exact ⟨_,_,rfl⟩
   have TA:Hid (Td (fun k=>tv.v.ownBlock=some k) U2 A1):=gh (Td.of_grownBy (R:=fun k=>tv.v.ownBlock=some k) hgrow (fun _ h=>h));have TV:Hid (Td (fun k=>tv.v.ownBlock=some k) V9 A1):=gh (k2.then TA.o);have bxA:=TV.o.heap I9.o.box NX.o;have cA:A1.cell? ⟨x,4,none⟩=some (.slice tv.a tv.n tv.c):=by simp [World.cell?,bxA,Ixp.cs]
   have gA:A1.frozen? ⟨x,4,none⟩=false:=by simp [World.frozen?,bxA]
   obtain ⟨A2,hA2⟩:∃ A2,A1.setCell ⟨x,4,none⟩ (.slice la (i+1) lc)=A2:=⟨_,rfl⟩;have IN:Hid (NewI w A2 x mb cells bud N (i+1) ⟨la,i+1,lc⟩ (pz++[⟨V9.heap.size,none,Sl.nil,Sl.nil⟩])):=gh (I9.o.step k2 hb2 TA.o la lc hrow hA2);have HA2:=gh hA2;clear hrow hgrow hat hA2 bxA k2 hb2 hm2 r2;gi_wp2;refine ⟨Wd.mem TV.o,?_⟩;simp only [Act.put,List.setIfInBounds_toArray,List.set_cons_succ,List.set_cons_zero]
   repeat (refine lq rfl rfl ?_;go_big_quiet_step (fail);refine wpQuiet_nil ?_)
   refine lz rfl ?_;gi_wp2;refine c0J ?_;rw [HA2.o];clear z4 z2 cA gA;go_wp2;exact ⟨⟨i+1,_,_,by simp,by omega,IN⟩,by simp only [intOf];omega⟩
  ·have j1:¬ ((i:Int) < (N:Int)):=by omega
   obtain rfl:i=N:=by omega
   go_wp2
   go_ret2
   obtain ⟨mv,tb,hI⟩:=I.o.done hN (begun_ok h1);exact ⟨x,rfl,⟨mb,mv,tb,tv,Sl.nil,pz,hI⟩,I.o.kept⟩
end
section
def recS (s:Mst) (k:Int) (ws:List Int):Int × Mst:=(Rf.ofZ k (s.next ws),s.make ws)
def kidF (L:Mst->List (Int × Int)->Int × Mst) (ps:List (Int × Int)) (s:Mst):Nat->List Int × Mst
 | 0=>([],s)
 | i+1=>((kidF L ps s i).1++[(L (kidF L ps s i).2 (a0Z ps (i:Int))).1],(L (kidF L ps s i).2 (a0Z ps (i:Int))).2)
def layF:Nat->Mst->List (Int × Int)->Int × Mst
 | 0=>fun s _=>(0,s)
 | f+1=>fun s ps=>
  if ps.length=0 then recS s 1 [0]
  else if ps.length=1 then recS s 2 [(ps.headD (0,0)).1,(ps.headD (0,0)).2]
  else recS (kidF (layF f) ps s (Pt.degZ ps.length).toNat).2 3 (a0S ps.length (lowL ps (Pt.degZ ps.length).toNat) (kidF (layF f) ps s (Pt.degZ ps.length).toNat).1)
theorem h0Q (L:Mst->List (Int × Int)->Int × Mst) (ps:List (Int × Int)) (s:Mst):∀ n,(kidF L ps s n).1.length=n
 | 0=>rfl
 | n+1=>by simp [kidF,h0Q L ps s n]
section
variable {T:TypeId} {lay:Value->Int->Int->Int->Int->Array Value} {n₀ b:Nat} {v0:Value} {W₀ W W':World} {st st':Mst} {vq vc:Value} {qs cs:List Int}
structure LayI (T:TypeId) (lay:Value->Int->Int->Int->Int->Array Value) (n₀ b:Nat) (v0:Value) (W₀ W:World) (st:Mst) (vq vc:Value) (qs cs:List Int):Prop where
 mem:∃ v,c0F T lay W n₀ b v st/\(∀ k,Foot b v k->Foot b v0 k∨W₀.heap.size<=k)/\(∀ k,vq.ownBlock=some k->¬ Foot b v k)/\(∀ k,vc.ownBlock=some k->¬ Foot b v k)
 turned:Td (Foot b v0) W₀ W
 q:Row W W₀.heap.size 2 vq qs
 c:Row W W₀.heap.size 2 vc cs
 qc:∀ k,vq.ownBlock=some k->vc.ownBlock≠some k
theorem Row.apt {n₀:Nat} {e:TypeId} {v:Value} {zs:List Int} {R:Nat->Prop} (h:Row W n₀ e v zs) (ht:Td R W W') (hn:∀ g,v.ownBlock=some g->¬ R g):Row W' n₀ e v zs:=by
 obtain ⟨h1,h2⟩:=h;refine ⟨h1,?_⟩;rcases h2 with h2 | ⟨g,cap,cur,rfl,hg,hh,r⟩
 ·exact .inl h2
 ·exact .inr ⟨g,cap,cur,rfl,hg,ht.heap hh (hn g rfl),r⟩
namespace LayI
theorem kept (h:LayI T lay n₀ b v0 W₀ W st vq vc qs cs) (k:Kept W W'):LayI T lay n₀ b v0 W₀ W' st vq vc qs cs:=by
 obtain ⟨⟨v,h1,h2⟩,ht,hq,hc,hqc⟩:=h;exact ⟨⟨v,h1.kept k,h2⟩,k.behind ht,hq.kept k,hc.kept k,hqc⟩
theorem step (h:LayI T lay n₀ b v0 W₀ W st vq vc qs cs):∃ v,c0F T lay W n₀ b v st/\(∀ k,Foot b v k->Foot b v0 k∨W₀.heap.size<=k)/\∀ W' st',Does T lay n₀ b v st' W W'->LayI T lay n₀ b v0 W₀ W' st' vq vc qs cs:=by
 obtain ⟨⟨v,h1,h2,h3,h4⟩,ht,hq,hc,hqc⟩:=h;refine ⟨v,h1,h2,fun W' st' d=>?_⟩;obtain ⟨v',g1,g2,g3⟩:=d;refine ⟨⟨v',g1,?_,?_,?_⟩,?_,hq.apt g2 h3,hc.apt g2 h4,hqc⟩
 ·intro k hk;rcases g3 k hk with e | e
  ·exact h2 k e
  ·exact .inr (Nat.le_trans ht.size e)
 ·intro k hk hf;rcases g3 k hf with e | e
  ·exact h3 k hk e
  ·have:=(hq.lt k hk).2;omega
 ·intro k hk hf;rcases g3 k hf with e | e
  ·exact h4 k hk e
  ·have:=(hc.lt k hk).2;omega
 ·exact ht.trans g2 (fun _ e=>e) (fun i hi e=>by rcases h2 i e with e | e <;> first | exact e | omega)
theorem swap (h:LayI T lay n₀ b v0 W₀ W st vq vc qs cs):LayI T lay n₀ b v0 W₀ W st vc vq cs qs:=by
 obtain ⟨⟨v,h1,h2,h3,h4⟩,ht,hq,hc,hqc⟩:=h;exact ⟨⟨v,h1,h2,h4,h3⟩,ht,hc,hq,fun k hk e=>hqc k e hk⟩
theorem grow {w1:World} {vq':Value} {qs':List Int} (h:LayI T lay n₀ b v0 W₀ W st vq vc qs cs) (hown:Row w1 W₀.heap.size 2 vq' qs') (hg:W.grownBy w1 vq.ownBlock) (hat:vq'.ownBlock=vq.ownBlock∨vq'.ownBlock=some W.heap.size):LayI T lay n₀ b v0 W₀ w1 st vq' vc qs' cs:=by
 obtain ⟨⟨v,h1,h2,h3,h4⟩,ht,hq,hc,hqc⟩:=h;have tg:Td (fun k=>vq.ownBlock=some k) W w1:=Td.of_grownBy hg (fun _ e=>e);refine ⟨⟨v,h1.turned tg (fun k hk e=>h3 k e hk),h2,?_,h4⟩,?_,hown,hc.apt tg (fun g hg' e=>hqc g e hg'),?_⟩
 ·intro k hk hf;rcases hat with e | e
  ·exact h3 k (by rw [<- e];exact hk) hf
  ·have:=(h1.lt k hf).2
   rw [e] at hk;cases hk;omega
 ·exact ht.trans tg (fun _ e=>e) (fun i hi e=>by have:=(hq.lt i e).1;omega)
 ·intro k hk e';rcases hat with e | e
  ·exact hqc k (by rw [<- e];exact hk) e'
  ·have:=(hc.lt k e').2
   rw [e] at hk;cases hk;omega
theorem start (h:c0F T lay W₀ n₀ b v0 st) (k:Kept W₀ W) (hq:Row W W₀.heap.size 2 vq qs) (hc:Row W W₀.heap.size 2 vc cs) (hqc:∀ k,vq.ownBlock=some k->vc.ownBlock≠some k):LayI T lay n₀ b v0 W₀ W st vq vc qs cs:=by
 refine ⟨⟨v0,h.kept k,fun _ e=>.inl e,?_,?_⟩,k.mono (fun _ _ e=>e.elim),hq,hc,hqc⟩
 ·intro j hj hf;have h1:=(hq.lt j hj).1;have h2:=(h.lt j hf).2;omega
 ·intro j hj hf;have h1:=(hc.lt j hj).1;have h2:=(h.lt j hf).2;omega
end LayI
theorem Does.then {v v1:Value} {s2:Mst} {W1 W2:World} (t:Td (Foot b v) W W1) (hs:∀ k,Foot b v1 k->Foot b v k∨W.heap.size<=k) (d:Does T lay n₀ b v1 s2 W1 W2):Does T lay n₀ b v s2 W W2:=by
 obtain ⟨v2,h2,t2,s2⟩:=d;refine ⟨v2,h2,t.trans t2 (fun _ e=>e) (fun i hi e=>by rcases hs i e with e | e <;> first | exact e | omega),fun k hk=>?_⟩;rcases s2 k hk with e | e
 ·exact hs k e
 ·exact .inr (Nat.le_trans t.size e)
theorem Does.after {v:Value} {s2:Mst} {W1 W2:World} (k:Kept W W1) (d:Does T lay n₀ b v s2 W1 W2):Does T lay n₀ b v s2 W W2:=
 Does.then (k.mono (fun _ _ e=>e.elim)) (fun _ e=>.inl e) d
end
end
section
set_option maxRecDepth 20000
end
section
set_option maxRecDepth 20000
theorem f0X (f:Nat) (s:Mst) (ps:List (Int × Int)):layF (f+1) s ps=if ps.length=0 then recS s 1 [0]
  else if ps.length=1 then recS s 2 [(ps.headD (0,0)).1,(ps.headD (0,0)).2]
  else recS (kidF (layF f) ps s (Pt.degZ ps.length).toNat).2 3 (a0S ps.length (lowL ps (Pt.degZ ps.length).toNat) (kidF (layF f) ps s (Pt.degZ ps.length).toNat).1):=rfl
theorem f0N {T:TypeId} {lay:Value->Int->Int->Int->Int->Array Value} {n₀ b:Nat} {v0:Value} {W₀ wr:World} {st:Mst} {vq vc:Value} {qs cs qs':List Int} {x:Int} {ops:Array Oper} {rest:List Oper} {o:Oper} {a:Act} {Q:Exit->Act->World->Prop} (hgd:o.guard=none) (s y:Operand)
  (ho:o.op=.call { callee:=.builtin .append,args:=#[s,y],argTypes:=#[73,73] }) (hs:a.eval s=vq) (hx:a.eval y=.slice (some ⟨wr.heap.size,0,none⟩) 1 1) (h:LayI T lay n₀ b v0 W₀ wr st vq vc qs cs) (hl:qs.length<=999999) (hq:qs'=qs++[x])
  (hk:∀ v' w',LayI T lay n₀ b v0 W₀ w' st v' vc qs' cs->wpList Tryz.prog ops Q rest (a.put o.dst v') w') :
  wpList Tryz.prog ops Q (o :: rest) a (wr.alloc (.cells #[.int .i64 x] 2)):=by
 have k1:Kept wr (wr.alloc (.cells #[.int .i64 x] 2)):=Td.alloc _ _ _;refine b0L hgd s y ho W₀.heap.size vq qs.length (a0H qs) hs (h.q.kept k1) _ [x] 1 hx (Reads.new wr 2 [x]) (fun e=>by cases e) (by simp;omega) (Nat.le_trans h.turned.size k1.size) ?_;intro v2 w2 hown hg hat;refine hk v2 w2 ((h.kept k1).grow ?_ hg hat);subst hq;show World.ownsRow _ _ 2 1 _ (qs++[x]).length (a0H (qs++[x]));rw [List.length_append,a0H,List.map_append];exact hown
theorem f0O {T:TypeId} {lay:Value->Int->Int->Int->Int->Array Value} {n₀ b:Nat} {v0:Value} {W₀ wr:World} {st:Mst} {vq vc:Value} {qs cs cs':List Int} {x:Int} {ops:Array Oper} {rest:List Oper} {o:Oper} {a:Act} {Q:Exit->Act->World->Prop} (hgd:o.guard=none) (s y:Operand)
  (ho:o.op=.call { callee:=.builtin .append,args:=#[s,y],argTypes:=#[73,73] }) (hs:a.eval s=vc) (hx:a.eval y=.slice (some ⟨wr.heap.size,0,none⟩) 1 1) (h:LayI T lay n₀ b v0 W₀ wr st vq vc qs cs) (hl:cs.length<=999999) (hq:cs'=cs++[x])
  (hk:∀ v' w',LayI T lay n₀ b v0 W₀ w' st vq v' qs cs'->wpList Tryz.prog ops Q rest (a.put o.dst v') w') :
  wpList Tryz.prog ops Q (o :: rest) a (wr.alloc (.cells #[.int .i64 x] 2)):=
 f0N hgd s y ho hs hx h.swap hl hq (fun v' w' h'=>hk v' w' h'.swap)
def InnI (T:TypeId) (lay:Value->Int->Int->Int->Int->Array Value) (f n₀ b:Nat) (v0:Value) (W₀:World) (s:Mst) (ps:List (Int × Int)) (vq vc:Value) (t:Nat) (wr:World):Prop:=
 LayI T lay n₀ b v0 W₀ wr (kidF (layF f) ps s t).2 vq vc (lowL ps t) (kidF (layF f) ps s t).1
theorem LayI.list {T:TypeId} {lay:Value->Int->Int->Int->Int->Array Value} {n₀ b:Nat} {v0:Value} {W₀ W:World} {st:Mst} {vq vc:Value} {qs cs:List Int} {bl off:Nat} {ps:List (Int × Int)} (h:LayI T lay n₀ b v0 W₀ W st vq vc qs cs) (hr:a0P W₀ (some ⟨bl,off,none⟩) ps) (hf:¬ Foot b v0 bl) (F S:Nat):a0P W (some ⟨bl,off+F * 2,none⟩) ((ps.drop F).take S):=
 (hr.turned h.turned (fun k _ ⟨ad,e,e'⟩ hk=>by cases e;exact hf (by rw [<- e'] at hk;exact hk))).sub F S
end
namespace Pt
open Go.ChangeShapes Go.WideShapes Go.ChangeAt Go.RowKit
theorem wf_int {a:Int} (h:-9223372036854775808<=a) (h':a<=9223372036854775807):(Lit.int .i64 a).wf=true:=by
 have h1:IntKind.min .i64=-9223372036854775808:=by decide
 have h2:IntKind.max .i64=9223372036854775807:=by decide
 simp only [Lit.wf,h1,h2,Bool.and_eq_true,decide_eq_true_eq];exact ⟨h,h'⟩
end Pt
section
set_option maxRecDepth 20000
theorem Row.put {W:World} {n₀ g cap M:Nat} {zs:List Int} (h:Row W n₀ 2 (.slice (some ⟨g,0,none⟩) M cap) zs) (hM:zs.length=M) (j:Nat) (x:Int):Row (W.setCell ⟨g,j,none⟩ (.int .i64 x)) n₀ 2 (.slice (some ⟨g,0,none⟩) M cap) (zs.set j x):=by
 subst hM;obtain ⟨hs,_⟩:=h.stored j (.int .i64 x);show World.ownsRow _ n₀ 2 1 _ (zs.set j x).length (a0H (zs.set j x));rw [List.length_set,a0H,List.map_set];exact hs
theorem Row.one {W:World} {n₀ g cap M:Nat} {zs:List Int} (h:Row W n₀ 2 (.slice (some ⟨g,0,none⟩) M cap) zs) (hM:zs.length=M) {j:Nat} (hj:j < M):(∃ x,W.cell? ⟨g,j,none⟩=some x)/\W.frozen? ⟨g,j,none⟩=false:=by
 subst hM;refine ⟨?_,h.frozenAt j⟩;rw [h.cellAt j (by omega)];exact ⟨_,List.getElem?_eq_getElem (by simpa using hj)⟩
def ascB (ps:List (Int × Int)):Bool:=decide (ps.length<=16384/\(ps.map Prod.fst).Pairwise (· < ·))
def c0B (s:Mst) (ps:List (Int × Int)):(Int × Bool) × Mst:=
 if ascB ps=true/\Pt.celZ ps.length<=s.size - s.xs.length then (((layF (ps.length+1) s ps).1,true),(layF (ps.length+1) s ps).2) else ((0,false),s)
end
end Go.Proofs.YtibnlaihiahjpaaGreat
