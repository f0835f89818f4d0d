/-
  What the proof of YtoaicedkepcalaaGreatDcssPlaysProof goes by, part 9 of 11: contracts and plain facts; each part begins with its own sentence. No conditions beyond each theorem's own.
-/
import Derived.Test.YtoaicedkepcalaaGreatD8
import Derived.BigQuiet
import Derived.Deep.QuietTactic
namespace Go.Proofs.YtoaicedkepcalaaGreat
open Go.RowKit
namespace Sd
variable {t:Nat} {m m':Mst} {g g':Gh}
theorem recM_safe {k:Int} {ws:List Int} (hw:∀ z ∈ ws,I64 z) (h0:ws≠[]) {Q:Int × Bool->Mst->Gh->Prop}
  (h1:∀ m1 g1 m2 A,Rl t m g m1 g1->A=(m1.xs.length:Int)+1->A<=65536->More m1 m2 ws->∃ g2,Gt t m1 g1 m2 g2/\Q (Rf.ofZ k A,true) m2 g2) (hn:∀ m1 g1,Rl t m g m1 g1->Q (Rf.ofZ k 0,false) m1 g1):Safe t (Pr.recM k ws) Q m g:=by
 unfold Pr.recM;refine Safe.bind (Safe.make hw (fun m1 g1 m2 r1 hm=>?_) (fun m1 g1 r1=>?_))
 ·have hl:0 < ws.length:=List.length_pos_iff.2 h0;have hu:=(hm.used ((m1.xs.length:Int)+1)).2 (.inr ⟨by omega,by omega⟩);have b:=Mst.used_iff.1 hu;have b2:=hm.ok.2;obtain ⟨g2,q1,q2⟩:=h1 m1 g1 m2 _ r1 rfl (by omega) hm;refine ⟨g2,q1,?_⟩;show Q (Rf.ofZ k _,decide _) m2 g2;rw [decide_eq_true (by omega)];exact q2
 ·show Q (Rf.ofZ k 0,decide _) m1 g1;exact hn m1 g1 r1
structure Gw (t:Nat) (m:Mst) (g:Gh) (ps:Ps) (z:Int × Bool) (m':Mst) (g':Gh):Prop where
 rl:Rl t m g m' g'
 ok:z.2=true->Prv t m' g' z.1 ps/\(kd z.1≠2->g.ro (ad z.1)=none)/\I64 z.1
def GrowC' (t f:Nat):Prop:=∀ (m:Mst) (g:Gh) (ps:Ps),Inv m g->Up ps->(∀ p ∈ ps,I64 p.1/\I64 p.2)->ps.length<=16384->Safe t (Pr.grow f ps) (fun z m' g'=>Gw t m g ps z m' g') m g
structure Gk (t:Nat) (m0:Mst) (g0:Gh) (ps:Ps) (i:Nat) (r:Bool × List Int) (m:Mst) (g:Gh):Prop where
 rl:Rl t m0 g0 m g
 len:r.1=true->r.2.length=i
 kid:r.1=true->∀ (j:Nat) (w:Int),r.2[j]? = some w->Prv t m g w (partL ps j)/\g.ro (ad w)≠none/\(kd w≠2->g0.ro (ad w)=none)/\I64 w
 dis:r.1=true->∀ i j:Nat,∀ v w,r.2[i]? = some v->r.2[j]? = some w->kd v=3->kd w=3->ad v=ad w->i=j
theorem Prv.used {w:Int} {l:Ps} (q:Prv t m g w l):g.ro (ad w)≠none/\w≠0/\(1<=kd w/\kd w<=3):=by
 rcases q with ⟨k,e,h1,_⟩ | ⟨k,u,v,h1,e⟩ | ⟨k,_,_,_,_,d,n,h5,_⟩
 ·exact ⟨(by rw [h1.c0];exact (fun e=>by cases e)),fun e=>by rw [e] at k;exact absurd k (by decide),by omega⟩
 ·exact ⟨(by rw [h1.c0];exact (fun e=>by cases e)),fun e=>by rw [e] at k;exact absurd k (by decide),by omega⟩
 ·exact ⟨(by rw [h5.c0];exact (fun e=>by cases e)),fun e=>by rw [e] at k;exact absurd k (by decide),by omega⟩
theorem growK_safe (f:Nat) (ih:GrowC' t f) {m0:Mst} {g0:Gh} {ps:Ps} (hI:Inv m0 g0) (hu:Up ps) (hi:∀ p ∈ ps,I64 p.1/\I64 p.2) (hl:ps.length<=16384):∀ i:Nat,(i:Int)<=Pt.degZ ps.length->Safe t (Pr.growK (Pr.grow f) ps i) (fun r m g=>Gk t m0 g0 ps i r m g) m0 g0
 | 0,_=>⟨Rl.refl hI,fun _=>rfl,fun _ j w e=>by simp at e,fun _ i j v w e=>by simp at e⟩
 | i+1,hd=>by
  unfold Pr.growK;refine Safe.bind (Safe.mono ?_ (growK_safe f ih hI hu hi hl i (by omega)));intro r m1 g1 hk
  split
  ·rename_i e;exact ⟨hk.rl,fun e2=>(by rw [e] at e2;cases e2),fun e2=>(by rw [e] at e2;cases e2),fun e2=>(by rw [e] at e2;cases e2)⟩
  ·rename_i e;have er:r.1=true:=by simpa using e
   have pl:=partL_len (ps:=ps) (i:=(i:Int)) (by omega) (by omega);have sz:(partL ps i).length<=ps.length:=by unfold partL;rw [List.length_take,List.length_drop];omega
   refine Safe.bind (Safe.mono ?_ (ih m1 g1 (partL ps i) hk.rl.inv (part_up hu _) (fun p hp=>hi p (part_mem hp)) (by omega)));rintro ⟨w,b⟩ m2 g2 hg;have R:=hk.rl.trans hg.rl;refine ⟨R,fun e2=>by simp [hk.len er],fun e2 j v ev=>?_,fun e2 j1 j2 v1 v2 ev1 ev2 k1 k2 ea=>?_⟩
   ·have e3:b=true:=e2;obtain ⟨q1,q2,q3⟩:=hg.ok e3
    by_cases hj:j < i
    ·rw [List.getElem?_append_left (by rw [hk.len er];exact hj)] at ev;obtain ⟨a1,a2,a3,a4⟩:=hk.kid er j v ev;exact ⟨a1.on hk.rl.inv hg.rl,by rw [(hg.rl.ex.ro _ a2).1];exact a2,a3,a4⟩
    ·rw [List.getElem?_append_right (by rw [hk.len er];omega),hk.len er] at ev;have hj2:j - i=0:=by
      have:=(List.getElem?_eq_some_iff.1 ev).1
      simp at this;omega
     rw [hj2] at ev;simp only [List.getElem?_cons_zero,Option.some.injEq] at ev;subst ev;rw [show j=i by omega];refine ⟨q1,q1.used.1,fun k=>?_,q3⟩;have hn:=q2 k;cases e0:g0.ro (ad w) with
     | none=>rfl
     | some r0=>
      have:=(hk.rl.ex.ro (ad w) (by rw [e0];exact fun e=>by cases e)).1
      rw [hn,e0] at this;cases this
   ·have e3:b=true:=e2;obtain ⟨q1,q2,q3⟩:=hg.ok e3;have old:∀ (j:Nat) (v:Int),(r.2++[w])[j]? = some v->kd v=3->(r.2[j]? = some v/\g1.ro (ad v)≠none)∨(j=i/\g1.ro (ad v)=none):=fun j v ev kv=>by
     by_cases hj:j < i
     ·rw [List.getElem?_append_left (by rw [hk.len er];exact hj)] at ev;exact .inl ⟨ev,(hk.kid er j v ev).2.1⟩
     ·rw [List.getElem?_append_right (by rw [hk.len er];omega),hk.len er] at ev;have hj2:j - i=0:=by
       have:=(List.getElem?_eq_some_iff.1 ev).1
       simp at this;omega
      rw [hj2] at ev;simp only [List.getElem?_cons_zero,Option.some.injEq] at ev;subst ev;exact .inr ⟨by omega,q2 (by show kd w≠2;omega)⟩
    rcases old j1 v1 ev1 k1 with ⟨b1,b2⟩ | ⟨b1,b2⟩
    ·rcases old j2 v2 ev2 k2 with ⟨c1,c2⟩ | ⟨c1,c2⟩
     ·exact hk.dis er j1 j2 v1 v2 b1 c1 k1 k2 ea
     ·rw [ea] at b2;exact absurd c2 b2
    ·rcases old j2 v2 ev2 k2 with ⟨c1,c2⟩ | ⟨c1,c2⟩
     ·rw [ea] at b2;exact absurd b2 c2
     ·omega
theorem PTf.succ:∀ (f:Nat) (b lo hi:Int),PTf m g f b lo hi->PTf m g (f+1) b lo hi
 | 0,_,_,_,h=>h.elim
 | f+1,b,lo,hi,h=>fun d n hI=>by
  obtain ⟨h1,h2⟩:=h d n hI;refine ⟨h1,fun i i1 i2=>?_⟩;rcases h2 i i1 i2 with e | ⟨e1,e2,e3⟩
  ·exact .inl e
  ·exact .inr ⟨e1,e2,fun d' n' q=>PTf.succ f _ _ _ (e3 d' n' q)⟩
theorem PTf.le {f f':Nat} (h:f<=f') {b lo hi:Int} (q:PTf m g f b lo hi):PTf m g f' b lo hi:=by
 induction h with
 | refl=>exact q
 | step _ ih=>exact PTf.succ _ _ _ _ ih
theorem prv_inner (h:Inv m g) (hG:Gt t m g m' g') {A d size:Int} {cs:List Int} {l:Ps} (pt:Int->Ps) (hA:A<=65536) (h1:A≠1) (hI:IsInner g' A d size) (h2:2<=d) (hm:g'.hm A=none) (ho:g'.ow A=t) (hd:(cs.length:Int)=d)
  (hl:∀ i:Nat,(i:Int) < d->m'.look (A+4+d+i)=cs.getD i 0) (hk:∀ (j:Nat) w,cs[j]? = some w->Prv t m g w (pt j))
  (hp:∀ i:Nat,(i:Int) < d->∃ p,p ∈ pt i/\(∀ q ∈ pt i,p.1<=q.1/\q ∈ l)/\(1<=i->gk g' A i=p.1)) (hlt:∀ i j:Nat,i < j->(j:Int) < d->∀ p ∈ pt i,∀ q ∈ pt j,p.1 < q.1):Prv t m' g' (Rf.ofZ 3 A) l:=by
 have hA1:=hI.rc.1;obtain ⟨k3,ea⟩:=ofk (k:=3) (by omega) (by omega) hA1 hA;have kid:∀ i:Nat,(i:Int) < d->∃ w,cs[i]? = some w/\m'.look (A+4+d+i)=w/\Prv t m g w (pt i):=fun i hi=>by
  have e:cs[i]? = some cs[i]:=List.getElem?_eq_getElem (by omega);refine ⟨cs[i],e,?_,hk i _ e⟩;rw [hl i hi,List.getD_eq_getElem?_getD,e];rfl
 refine .inr (.inr ⟨k3,by rw [ea];exact h1,by rw [ea];exact hm,by rw [ea];exact ho,?_,d,size,by rw [ea];exact hI,h2,?_⟩)
 ·rw [ea];intro d' n' i hI' i0 i1;obtain ⟨rfl,rfl⟩:=hI.deg hI';obtain ⟨w,_,e2,e3⟩:=kid i.toNat (by omega);rw [show ((i.toNat:Nat):Int)=i by omega] at e2;rw [e2];exact e3.used.2.1
 ·rw [ea];have fu:∀ k:Nat,(k:Int)<=d->∃ F,∀ i:Nat,i < k->∀ w,cs[i]? = some w->kd w=3->∀ lo hi,(∀ p ∈ pt i,lo<=p.1/\p.1<=hi)->PTf m g F (ad w) lo hi:=by
   intro k
   induction k with
   | zero=>intro _;exact ⟨0,fun i hi=>absurd hi (by omega)⟩
   | succ k ih=>
    intro hk';obtain ⟨F,hF⟩:=ih (by omega);obtain ⟨w,e1,_,e3⟩:=kid k (by omega)
    have:∃ F',kd w=3->∀ lo hi,(∀ p ∈ pt k,lo<=p.1/\p.1<=hi)->PTf m g F' (ad w) lo hi:=by
     rcases e3 with ⟨k',_⟩ | ⟨k',_⟩ | ⟨_,_,_,_,_,_,_,_,_,F',q⟩
     ·exact ⟨0,fun e=>by omega⟩
     ·exact ⟨0,fun e=>by omega⟩
     ·exact ⟨F',fun _=>q⟩
    obtain ⟨F',hF'⟩:=this;refine ⟨max F F',fun i hi w' ew k3' lo hi' hb=>?_⟩
    by_cases e:i=k
    ·subst e;rw [e1] at ew;cases ew;exact (hF' k3' lo hi' hb).le (by omega)
    ·exact (hF i (by omega) w' ew k3' lo hi' hb).le (by omega)
  obtain ⟨F,hF⟩:=fu d.toNat (by omega);refine ⟨F+1,fun lo hi hb d' n' hI'=>?_⟩;obtain ⟨rfl,rfl⟩:=hI.deg hI';have unA:=unlinked h1 hm;refine ⟨fun i i0 i1=>?_,fun i i0 i1=>?_⟩
  ·obtain ⟨i,rfl⟩:∃ j:Nat,i=(j:Int):=⟨i.toNat,by omega⟩;obtain ⟨p,p1,p2,p3⟩:=hp i (by omega);obtain ⟨q,q1,q2,q3⟩:=hp (i+1) (by omega);have lt:=hlt i (i+1) (by omega) (by omega) p p1 q q1;have e:=q3 (by omega);rw [show ((i+1:Nat):Int)=(i:Int)+1 by omega] at e;rw [e];have b1:=hb p (p2 p p1).2;have b2:=hb q (q2 q q1).2;refine ⟨?_,b2.2⟩;unfold gl
   split
   ·omega
   ·rw [p3 (by omega)];exact lt
  ·obtain ⟨i,rfl⟩:∃ j:Nat,i=(j:Int):=⟨i.toNat,by omega⟩;obtain ⟨w,e1,e2,e3⟩:=kid i (by omega);obtain ⟨p,p1,p2,p3⟩:=hp i (by omega);have bd:∀ q ∈ pt i,gl g' A lo i<=q.1/\q.1<=gu g' A d hi i:=fun q hq=>by
    have b:=hb q (p2 q hq).2;refine ⟨?_,?_⟩
    ·unfold gl
     split
     ·exact b.1
     ·rw [p3 (by omega)];exact (p2 q hq).1
    ·unfold gu
     split
     ·obtain ⟨q',q1,q2,q3⟩:=hp (i+1) (by omega);have lt:=hlt i (i+1) (by omega) (by omega) q hq q' q1;have e:=q3 (by omega);rw [show ((i+1:Nat):Int)=(i:Int)+1 by omega] at e;omega
     ·exact b.2
   rw [e2];have u:=e3.used;refine .inr ⟨by omega,fun k v hlf=>?_,fun d2 n2 hI2=>?_⟩
   ·rcases e3 with ⟨_,_,c1,_⟩ | ⟨_,k',v',c1,c2⟩ | ⟨_,_,_,_,_,_,_,c1,_⟩
    ·have:=(hG.ex.empty c1).kn.symm.trans hlf.kn;omega
    ·obtain ⟨rfl,rfl⟩:=(hG.ex.leaf c1).fn hlf;exact bd (k',v') (by rw [c2];simp)
    ·have:=(hG.ex.inner c1).kn.symm.trans hlf.kn;omega
   ·rcases e3 with ⟨_,_,c1,_⟩ | ⟨_,k',v',c1,c2⟩ | ⟨k3',c0,_,_,_,d3,n3,c1,_⟩
    ·have:=(hG.ex.empty c1).kn.symm.trans hI2.kn;omega
    ·have:=(hG.ex.leaf c1).kn.symm.trans hI2.kn;omega
    ·have pf:=hF i (by omega) w e1 k3' _ _ bd;refine pf.on h hG.ex c1 ?_;have hs:Slot g' (A+4+d+i) A d size i:=⟨hI,by omega,by omega,rfl⟩;have q:=hG.inv.cell (A+4+d+i);unfold COk at q;rw [hs.ro] at q;simp only at q;rw [e2] at q;rcases q with q | q | ⟨q,_⟩
     ·exact absurd q u.2.1
     ·rcases q with ⟨k',_⟩ | ⟨k',_⟩ | ⟨_,_,_,_,_,_,q,_⟩ | ⟨k',_⟩
      ·omega
      ·omega
      ·exact below c0 q hs unA
      ·omega
     ·omega
end Sd
namespace Sd
variable {t:Nat} {m m':Mst} {g g':Gh}
theorem Gt.made (h:Gt t m g m' g') (hh:∀ b,g.ro b≠none->g'.hm b=g.hm b) (hp:g'.pl=g.pl):Rl t m g m' g':=
 ⟨h.inv,h.ex,fun b hb=>⟨(h.own b hb).1,fun _=>⟨hh b hb,by rw [hp]⟩⟩⟩
theorem Rl.fresh (h:Rl t m g m' g') {b:Int} (hb:g'.ro b=none):g.ro b=none:=by
 cases e:g.ro b with
 | none=>rfl
 | some r=>
  have:=(h.ex.ro b (by rw [e];exact fun e=>by cases e)).1
  rw [hb,e] at this;cases this
theorem i64_1 {z:Int} (h:-1000000<=z) (h2:z<=1000000):I64 z:=⟨by omega,by omega⟩
theorem grow_safe (t:Nat):∀ f,GrowC' t f
 | 0=>fun m g ps h _ _ _=>⟨Rl.refl h,fun e=>by cases e⟩
 | f+1=>fun m g ps h hu hi hl=>by
  have ih:=grow_safe t f;unfold Pr.grow
  split
  ·rename_i e0;refine recM_safe (by intro z hz;simp at hz;rw [hz];exact i64_1 (by omega) (by omega)) (by simp) (fun m1 g1 m2 A r1 hA hA2 hm=>?_) (fun m1 g1 r1=>⟨r1,fun e=>by cases e⟩);obtain ⟨g2,q1,q2,q3,q4,q5,q6⟩:=mk_empty (t:=t) r1.inv hA hm;obtain ⟨k1,ea⟩:=ofk (k:=1) (D:=A) (by omega) (by omega) (by omega) hA2;have hno:g1.ro A=none:=by rw [hA];exact r1.inv.noA
   refine ⟨g2,q1,r1.trans (q1.made (fun _ _=>by rw [q5]) q6),fun _=>⟨.inl ⟨k1,List.length_eq_zero_iff.1 e0,by rw [ea];exact q2,by rw [ea];exact q3,by rw [ea];exact q4,by rw [ea];exact (fun e=>by rw [e,r1.inv.top.1.c0] at hno;cases hno)⟩,fun _=>by rw [ea];exact r1.fresh hno,i64_of 1 A⟩⟩
  rename_i e0
  split
  ·rename_i e1;obtain ⟨⟨k,v⟩,rfl⟩:=List.length_eq_one_iff.1 e1;have ik:=hi (k,v) (by simp);refine recM_safe (by intro z hz;simp at hz;rcases hz with rfl | rfl;exact ik.1;exact ik.2) (by simp) (fun m1 g1 m2 A r1 hA hA2 hm=>?_) (fun m1 g1 r1=>⟨r1,fun e=>by cases e⟩);obtain ⟨g2,q1,q2,q5,q6⟩:=mk_leaf (t:=t) r1.inv hA (k:=k) (v:=v) hm;obtain ⟨k2,ea⟩:=ofk (k:=2) (D:=A) (by omega) (by omega) (by omega) hA2;exact ⟨g2,q1,r1.trans (q1.made (fun _ _=>by rw [q5]) q6),fun _=>⟨.inr (.inl ⟨k2,k,v,by rw [ea];exact q2,rfl⟩),fun e=>absurd k2 e,i64_of 2 A⟩⟩
  rename_i e1;have db:=Pt.deg_bound (n:=(ps.length:Int)) (by omega) (by omega);refine Safe.bind (Safe.mono ?_ (growK_safe f ih h hu hi hl (Pt.degZ ps.length).toNat (by omega)));rintro ⟨b,cs⟩ m1 g1 hk
  split
  ·rename_i eb;have hlen:=hk.len eb;simp only at hlen;obtain ⟨D,hD⟩:∃ D:Nat,Pt.degZ ps.length=(D:Int):=⟨(Pt.degZ ps.length).toNat,by omega⟩;have hDn:(Pt.degZ ps.length).toNat=D:=by omega
   rw [hDn] at hlen ⊢;have hin:∀ j:Nat,j < D->∃ w,cs[j]? = some w:=fun j hj=>⟨_,List.getElem?_eq_getElem (by omega)⟩;have hm':∀ w ∈ cs,∃ j:Nat,cs[j]? = some w/\j < D:=fun w hw=>by
    obtain ⟨j,hj⟩:=List.getElem?_of_mem hw;exact ⟨j,hj,by have:=(List.getElem?_eq_some_iff.1 hj).1;omega⟩
   have hd:=fun (i:Nat) (hi':i < D)=>part_head (ps:=ps) (i:=(i:Int)) (by omega) (by omega);have iw:∀ z ∈ innerL ps.length (lowL ps D) cs,I64 z:=by
    intro z hz;unfold innerL at hz;simp only [List.mem_append,List.mem_cons,List.not_mem_nil,or_false] at hz;rcases hz with (rfl | rfl | rfl | rfl | rfl) | hz | hz
    ·exact i64_1 (by omega) (by omega)
    ·exact i64_1 (by omega) (by omega)
    ·exact i64_1 (by omega) (by omega)
    ·exact i64_1 (by omega) (by omega)
    ·exact i64_1 (by omega) (by omega)
    ·obtain ⟨j,hj⟩:=List.getElem?_of_mem hz;have hj2:=(List.getElem?_eq_some_iff.1 hj).1;rw [low_len] at hj2
     have:=low_at ps D (j+1) (by omega) (by omega)
     rw [Nat.add_sub_cancel,List.getD_eq_getElem?_getD,hj] at this;have e:z=((partL ps ((j+1:Nat):Int)).headD (0,0)).1:=this;rw [e];exact (hi _ (part_mem (hd (j+1) (by omega)).1)).1
    ·obtain ⟨j,hj,_⟩:=hm' z hz;exact (hk.kid eb j z hj).2.2.2
   refine recM_safe iw (by unfold innerL;simp) (fun m2 g2 m3 A r2 hA hA2 hm=>?_) (fun m2 g2 r2=>⟨hk.rl.trans r2,fun e=>by cases e⟩);have kids:∀ (j:Nat) w,cs[j]? = some w->Prv t m2 g2 w (partL ps j):=fun j w e=>(hk.kid eb j w e).1.on hk.rl.inv r2;have nonE:∀ (j:Nat) w,cs[j]? = some w->partL ps j≠[]:=fun j w e q=>by
    have:=(List.getElem?_eq_some_iff.1 e).1
    have h3:=(hd j (by omega)).1;rw [q] at h3;simp at h3
   obtain ⟨g3,q1,q2,q3,q4,q5,q6,q7,q8⟩:=mk_inner (t:=t) r2.inv hA (size:=ps.length) (d:=(D:Int)) (q:=lowL ps D) (cs:=cs) (fun i=>((partL ps i).headD (0,0)).1) (by omega) (by omega) (by rw [low_len];omega) (fun w hw=>by
     obtain ⟨j,hj,_⟩:=hm' w hw;rcases kids j w hj with ⟨_,e,_⟩ | ⟨k,u,v,e,_⟩ | ⟨k,a1,a2,a3,a4,d',n',a5,a6,_⟩
     ·exact absurd e (nonE j w hj)
     ·exact .inr (.inl ⟨k,u,v,e⟩)
     ·exact .inr (.inr ⟨k,a1,a2,a3,a4,d',n',a5,a6⟩)) (hk.dis eb) (fun i i1 i2=>.inl (low_at ps D i i1 (by omega))) hm
   obtain ⟨k3,ea⟩:=ofk (k:=3) (D:=A) (by omega) (by omega) (by omega) hA2;have hno:g2.ro A=none:=by rw [hA];exact r2.inv.noA
   have R:=hk.rl.trans r2;have hA1:A≠1:=fun e=>by rw [e,r2.inv.top.1.c0] at hno;cases hno
   refine ⟨g3,q1,⟨q1.inv,R.ex.trans q1.ex,fun b hb=>?_⟩,fun _=>⟨?_,fun _=>by rw [ea];exact R.fresh hno,i64_of 3 A⟩⟩
   ·obtain ⟨o1,o2⟩:=R.own b hb;have hb2:g2.ro b≠none:=by rw [(R.ex.ro b hb).1];exact hb
    refine ⟨(q1.own b hb2).1.trans o1,fun e=>⟨?_,by rw [q8];exact (o2 e).2⟩⟩;rw [q7 b (fun w hw k eq=>?_)]
    ·exact (o2 e).1
    ·obtain ⟨j,hj,_⟩:=hm' w hw;exact hb (eq ▸ (hk.kid eb j w hj).2.2.1 (by omega))
   ·refine prv_inner r2.inv q1 (pt:=fun i=>partL ps i) hA2 hA1 q2 (by omega) q3 q4 (by omega) q6 kids (fun i hi'=>?_) (fun i j hij hj p hp q hq=>part_lt hu (by omega) (by omega) (by omega) hp hq);obtain ⟨h1,h2⟩:=hd i (by omega);exact ⟨_,h1,fun q hq=>⟨h2 hu q hq,part_mem hq⟩,fun i1=>q5 i (by omega) (by omega)⟩
  ·exact ⟨hk.rl,fun e=>by cases e⟩
end Sd
namespace Sd
namespace Pr
def part (N:Nat) (a n x d i:Int):Pr Bool:=
 (gather N a (Pt.fromZ n i) (wrap64 (Pt.fromZ n i+Pt.sizeZ n i)) []).bind fun ps=>(grow (ps.length+1) ps).bind fun w=>
 if w.2=false then ret false else (if 0 < i/\0 < ps.length then write (keyZ x i) (ps.headD (0,0)).1 else ret ()).bind fun _=>(cas (childZ x d i) 0 w.1).bind fun _=>ret true
def partsA (N:Nat) (b a n x d:Int):Nat->Pr Bool
 | 0=>stop
 | f+1=>(add (wrap64 (b+4)) 1).bind fun i=>if d<=i then ret true else (part N a n x d i).bind fun p=>if p=true then partsA N b a n x d f else ret false
def partsB (N:Nat) (a n x d:Int):Nat->Int->Pr Bool
 | 0,_=>ret true
 | c+1,j=>(read (childZ x d j)).bind fun y=>if y≠0 then partsB N a n x d c (j+1) else (part N a n x d j).bind fun p=>if p=true then partsB N a n x d c (j+1) else ret false
def parts (N:Nat) (b a n x:Int):Pr Bool:=(partsA N b a n x (Pt.degZ n) N).bind fun p=>if p=true then partsB N a n x (Pt.degZ n) (Pt.degZ n).toNat 0 else ret false
end Pr
variable {t:Nat} {m m':Mst} {g g':Gh}
theorem Prv.pt {w:Int} {l:Ps} (q:Prv t m g w l) {lo hi:Int} (hb:∀ p ∈ l,lo<=p.1/\p.1<=hi):∀ d n,IsInner g (ad w) d n->∃ f,PTf m g f (ad w) lo hi:=fun d n hI=>by
 rcases q with ⟨_,_,h1,_⟩ | ⟨_,u,v,h1,_⟩ | ⟨_,_,_,_,_,d',n',_,_,f,q⟩
 ·have:=h1.kn.symm.trans hI.kn;omega
 ·have:=h1.kn.symm.trans hI.kn;omega
 ·exact ⟨f,q lo hi hb⟩
theorem link_prv (h:Inv m g) {w:Int} {l:Ps} (q:Prv t m g w l) {c a d n i u v:Int} (hs:Slot g c a d n i) (hv:Iv g a u v) (hb:∀ p ∈ l,gl g a u i<=p.1/\p.1<=gu g a d v i):∃ g',Gt t m g m g'/\OkW m g' c w:=by
 have sv:=hs.siv hv;have pt:=q.pt hb;have lk:g.hm (ad w)=none->ad w≠1->g.kn (ad w)≠2->g.ro (ad w)≠none->g.ow (ad w)=t->Gt t m g m (g.link (ad w) c):=fun e1 e2 e3 e4 e5=>by
  have st:=step_link h e1 e2 e3 e4 hs hv pt;refine ⟨st.1,st.2,fun x _=>⟨rfl,fun e=>⟨?_,rfl⟩⟩⟩;show (if x=ad w then some c else g.hm x)=g.hm x;rw [if_neg (fun q=>e (by rw [q,e5]))]
 have hl:(g.link (ad w) c).hm (ad w)=some c:=by show (if ad w=ad w then some c else _)=_;rw [if_pos rfl]
 rcases q with ⟨k,_,h1,h2,h3,h4⟩ | ⟨k,x,y,h1,e⟩ | ⟨k,h1,h2,h3,h4,d',n',h5,h6,_⟩
 ·have G:=lk h2 h4 (by rw [h1.kn];decide) (by rw [h1.c0];exact (fun e=>by cases e)) h3;exact ⟨_,G,.inl ⟨k,G.ex.empty h1,hl⟩⟩
 ·refine ⟨g,Gt.same ⟨h,Ex.refl m g⟩,.inr (.inl ⟨k,x,y,h1,fun lo hi e2=>?_⟩)⟩;obtain ⟨rfl,rfl⟩:=sv.fn e2;exact hb (x,y) (by rw [e];simp)
 ·have G:=lk h2 h1 (by rw [h5.kn];decide) (by rw [h5.c0];exact (fun e=>by cases e)) h3;exact ⟨_,G,.inr (.inr (.inl ⟨k,d',n',G.ex.inner h5,h6,h1,hl,G.ex.compl h5 h4⟩))⟩
structure Rt (m:Mst) (g:Gh) (a x:Int) (ps:Ps) (d lo hi:Int):Prop where
 iva:Iv g a lo hi
 ft:FT m g a ps
 inn:IsInner g x d ps.length
 ivx:Iv g x lo hi
 two:2<=ps.length
 deg:d=Pt.degZ ps.length
 d2:2<=d
 gk:∀ i,1<=i->i < d->gk g x i=((partL ps i).headD (0,0)).1
theorem Ex.rt (h:Ex m g m' g') {a x:Int} {ps:Ps} {d lo hi:Int} (q:Rt m g a x ps d lo hi):Rt m' g' a x ps d lo hi:=
 ⟨h.iv q.iva,h.ft q.ft,h.inner q.inn,h.iv q.ivx,q.two,q.deg,q.d2,fun i h1 h2=>by rw [h.gk q.inn h1 h2];exact q.gk i h1 h2⟩
theorem Rt.bounds (h:Inv m g) {a x:Int} {ps:Ps} {d lo hi:Int} (q:Rt m g a x ps d lo hi) {i:Int} (h0:0<=i) (h1:i < d):∀ p ∈ partL ps i,gl g x lo i<=p.1/\p.1<=gu g x d hi i:=fun p hp=>by
 obtain ⟨u1,u2⟩:=q.ft.up h q.iva;have b:=u1 p (part_mem hp);have dg:=q.deg;refine ⟨?_,?_⟩
 ·unfold gl
  split
  ·exact b.1
  ·rw [q.gk i (by omega) h1];exact (part_head h0 (by omega)).2 u2 p hp
 ·unfold gu
  split
  ·rw [q.gk (i+1) (by omega) (by omega)]
   have:=part_lt u2 h0 (show i < i+1 by omega) (by omega) hp (part_head (ps:=ps) (i:=i+1) (by omega) (by omega)).1
   omega
  ·exact b.2.1
theorem sel_part (ps:Ps) {i:Int} (h0:0<=i) (h1:i < Pt.degZ ps.length):sel ps (Pt.fromZ ps.length i) (Pt.fromZ ps.length i+Pt.sizeZ ps.length i)=partL ps i:=by
 obtain ⟨p1,p2,p3⟩:=part_in h0 h1;unfold sel partL;rw [List.drop_take,show (Pt.fromZ ps.length i+Pt.sizeZ ps.length i).toNat - (Pt.fromZ ps.length i).toNat=(Pt.sizeZ ps.length i).toNat by omega]
theorem pairs_i64 (h:Inv m g) {ps:Ps} (q:∀ p ∈ ps,∃ b,IsLeaf g b p.1 p.2):∀ p ∈ ps,I64 p.1/\I64 p.2:=fun p hp=>by
 obtain ⟨b,hb⟩:=q p hp;rw [<- h.fix hb.c0,<- h.fix hb.c1];exact ⟨h.ok.look _,h.ok.look _⟩
theorem part_safe (N:Nat) (hN:N<=1000000) {a x:Int} {ps:Ps} {d lo hi i:Int} (h:Inv m g) (q:Rt m g a x ps d lo hi) (hi':i < d):Safe t (Pr.part N a ps.length x d i) (fun b m' g'=>Fw m g m' g'/\(b=true->0<=i->m'.look (childZ x d i)≠0)) m g:=by
 have fx:=q.inn.far h;have dg:=q.deg;have two:=q.two;have dn:=Pt.deg_nat (ps.length:Int);have dp:=Pt.deg_pos (n:=(ps.length:Int)) (by have:=q.d2;omega);obtain ⟨u1,u2⟩:=q.ft.up h q.iva;unfold Pr.part
 by_cases i0:0<=i
 ·obtain ⟨p1,p2,p3⟩:=part_in (n:=(ps.length:Int)) (i:=i) i0 (by omega);rw [Pt.wrap_same (by omega) (by omega)];refine Safe.bind (Safe.mono ?_ (gather_safe t N m g a _ _ lo hi ps [] h q.iva q.ft (by omega) (by omega) (by omega) (by omega)));rintro l m1 g1 ⟨r1,el⟩;rw [List.nil_append,sel_part ps i0 (by omega)] at el;subst el;have q1:=r1.ex.rt q;have pu:=part_up u2 i;have hsz:(partL ps i).length<=ps.length:=by unfold partL;rw [List.length_take,List.length_drop];omega
  have hh:=part_head (ps:=ps) (i:=i) i0 (by omega);have hpos:0 < (partL ps i).length:=List.length_pos_iff.2 (fun e=>by have:=hh.1;rw [e] at this;simp at this);have i64s:=pairs_i64 h (fun p hp=>(u1 p hp).2.2);refine Safe.bind (Safe.mono ?_ (grow_safe t _ m1 g1 (partL ps i) r1.inv pu (fun p hp=>i64s p (part_mem hp)) (by omega)));rintro ⟨w,ok⟩ m2 g2 hg
  split
  ·exact ⟨(r1.trans hg.rl).fw,fun e=>by cases e⟩
  rename_i eo;have R2:=r1.trans hg.rl;obtain ⟨pv,_,iw⟩:=hg.ok (by simpa using eo);have wr:Safe t (if 0 < i/\0 < (partL ps i).length then Pr.write (keyZ x i) ((partL ps i).headD (0,0)).1 else Pr.ret ()) (fun _ m3 g3=>Rl t m2 g2 m3 g3/\(1<=i->m3.look (x+4+i)=gk g3 x i)) m2 g2:=by
   split
   ·rename_i ei;refine Safe.write fun m3 g3 r3=>?_;have q3:=(R2.trans r3).ex.rt q;rw [keyZ_in (by omega) (by omega) (by omega) (by omega),<- q3.gk i (by omega) hi'];obtain ⟨z,ez⟩:=q3.inn.ck i (by omega) hi';have hu:m3.used (x+4+i)=true:=(r3.inv.used _).1 (by rw [ez];exact (fun e=>by cases e));have hp:=write_put r3.inv.ok hu (x:=gk g3 x i) (by rw [q3.gk i (by omega) hi'];exact (i64s _ (part_mem hh.1)).1);have st:=step_key r3.inv q3.inn (by omega) hi' hp;exact ⟨g3,Gt.same st,r3.trans (Gt.rl' st),fun _=>hp.eq⟩
   ·rename_i ei;exact ⟨Rl.refl hg.rl.inv,fun e=>absurd ⟨by omega,hpos⟩ ei⟩
  refine Safe.bind (Safe.mono ?_ wr);rintro _ m3 g3 ⟨r3,hk⟩;have R3:=R2.trans r3;have q3:=R3.ex.rt q;have pv3:=pv.on hg.rl.inv r3;rw [childZ_in (by omega) (by omega) (by omega) (by omega) (by omega) (by omega)];refine Safe.bind (Safe.cas (fun m4 g4 r4 hu e0=>?_) (fun m4 g4 r4 hn=>?_))
  ·have q4:=r4.ex.rt q3;have hs:Slot g4 (x+4+d+i) x d ps.length i:=⟨q4.inn,i0,hi',rfl⟩;obtain ⟨g5,G,ok⟩:=link_prv r4.inv (pv3.on r3.inv r4) hs q4.ivx (q4.bounds r4.inv i0 hi');have q5:=G.ex.rt q4;have hs5:=G.ex.sl hs;have hp:=write_put r4.inv.ok hu (x:=w) iw;have hk5:1<=i->m4.look (x+4+i)=gk g5 x i:=fun e=>by
    obtain ⟨z,ez⟩:=q3.inn.ck i e hi';have ek:gk g3 x i=z:=by unfold Sd.gk;rw [ez]
    rw [G.ex.gk q4.inn e hi',r4.ex.gk q3.inn e hi',ek];exact r4.ex.key _ z ez (by rw [hk e,ek])
   have st:=step_slot G.inv hs5 q5.ivx ok.ne.1 (fun w' hz=>by
    obtain ⟨_,_,_,_,_,_,z0,_,z1⟩:=hz;rw [e0] at z1;rcases z1 with z1 | ⟨z1,_⟩
    ·exact absurd z1.symm z0
    ·exact absurd z1 (by decide)) hk5 hp (fun _ _ _ k _=>by rw [e0] at k;exact absurd k (by decide)) (fun hE=>.inl (hE.okW (fun _ _ e=>hE.back ⟨_,_,hs5.siv q5.ivx⟩ e) ok))
   refine ⟨g5,G.trans (Gt.same st),(R3.trans r4).fw.trans (G.fw.trans ⟨st.1,st.2⟩),fun _ _=>by rw [hp.eq];exact ok.ne.1⟩
  ·have q4:=r4.ex.rt q3;refine ⟨(R3.trans r4).fw,fun _ _ e=>hn ⟨(r4.inv.used _).1 (by rw [q4.inn.cs i i0 hi'];exact (fun e=>by cases e)),e⟩⟩
 ·have ec:childZ x d i=0:=by
   unfold childZ
   have:nearB i=false:=by
    cases e:nearB i with
    | false=>rfl
    | true=>have:=(nearB_iff.1 e);omega
   simp [this]
  have ef:Pt.fromZ ps.length i=0:=Pt.from_none (.inl (by omega));have es:Pt.sizeZ ps.length i=0:=Pt.size_none (.inl (by omega));rw [ef,es,ec];refine Safe.bind (Safe.mono ?_ (gather_safe t N m g a 0 _ lo hi ps [] h q.iva q.ft (by omega) (by omega) (by rw [Pt.wrap_same (by omega) (by omega)];omega) (by rw [Pt.wrap_same (by omega) (by omega)];omega)));rintro l m1 g1 ⟨r1,el⟩;have e0:l=[]:=by rw [el,Pt.wrap_same (by omega) (by omega)];simp [sel]
  subst e0;refine Safe.bind (Safe.mono ?_ (grow_safe t _ m1 g1 [] r1.inv List.Pairwise.nil (by simp) (by simp)));rintro ⟨w,ok⟩ m2 g2 hg
  split
  ·exact ⟨(r1.trans hg.rl).fw,fun e=>by cases e⟩
  rw [if_neg (by simp)];show Safe t ((Pr.cas 0 0 w).bind fun _=>Pr.ret true) _ m2 g2;refine Safe.bind (Safe.cas (fun m4 g4 r4 hu _=>?_) (fun m4 g4 r4 _=>?_))
  ·exact absurd (Mst.used_iff.1 hu) (by omega)
  ·exact ⟨((r1.trans hg.rl).trans r4).fw,fun _ e=>absurd e i0⟩
theorem partsA_safe (N:Nat) (hN:N<=1000000) {b tg gd p a x:Int} {ps:Ps} {d lo hi:Int}:∀ (f:Nat) (m:Mst) (g:Gh),Inv m g->IsReb g b tg gd p->Rt m g a x ps d lo hi->Safe t (Pr.partsA N b a ps.length x d f) (fun _ m' g'=>Fw m g m' g') m g
 | 0,_,_,_,_,_=>trivial
 | f+1,m,g,h,hR,q=>by
  have b4:=h.lt (c:=b+4) (by rw [hR.c4];exact (fun e=>by cases e));have b5:=h.ok.2;unfold Pr.partsA;rw [Pt.wrap_same (by omega) (by omega)];refine Safe.bind (Safe.add fun m1 g1 r1=>?_);have hR1:=r1.ex.reb hR;have hu:m1.used (b+4)=true:=(r1.inv.used _).1 (by rw [hR1.c4];exact (fun e=>by cases e));have hp:=write_put r1.inv.ok hu (x:=wrap64 (m1.look (b+4)+1)) (i64_wrap _);have st:=step_count r1.inv (.inr hR1.c4) hp;refine ⟨g1,Gt.same st,?_⟩;have F1:=r1.fw.trans ⟨st.1,st.2⟩
  split
  ·exact F1
  rename_i e;refine Safe.bind (Safe.mono ?_ (part_safe N hN st.1 (F1.ex.rt q) (i:=m1.look (b+4)) (by omega)));rintro ok m2 g2 ⟨F2,_⟩;have F:=F1.trans F2
  split
  ·exact Safe.mono (fun _ _ _ F3=>F.trans F3) (partsA_safe N hN f m2 g2 F2.inv (F.ex.reb hR) (F.ex.rt q))
  ·exact F
theorem partsB_safe (N:Nat) (hN:N<=1000000) {a x:Int} {ps:Ps} {d lo hi:Int}:∀ (c j:Nat) (m:Mst) (g:Gh),(j:Int)+c=d->Inv m g->Rt m g a x ps d lo hi->(∀ i:Nat,i < j->m.look (x+4+d+i)≠0)->
  Safe t (Pr.partsB N a ps.length x d c j) (fun ok m' g'=>Fw m g m' g'/\(ok=true->Compl m' g' x)) m g
 | 0,j,m,g,hc,h,q,hd=>by
  refine ⟨⟨h,Ex.refl m g⟩,fun _ d' n' i hI h0 h1=>?_⟩;obtain ⟨rfl,rfl⟩:=q.inn.deg hI
  have:=hd i.toNat (by omega)
  rwa [show ((i.toNat:Nat):Int)=i by omega] at this
 | c+1,j,m,g,hc,h,q,hd=>by
  have fx:=q.inn.far h;have dg:=q.deg;have dn:=Pt.deg_nat (ps.length:Int);have ce:childZ x d j=x+4+d+j:=childZ_in (by omega) (by omega) (by omega) (by omega) (by omega) (by omega);unfold Pr.partsB;refine Safe.bind (Safe.read fun m1 g1 r1=>?_);have q1:=r1.ex.rt q;have next:∀ (m2:Mst) (g2:Gh),Fw m g m2 g2->m2.look (x+4+d+j)≠0->Safe t (Pr.partsB N a ps.length x d c ((j:Int)+1)) (fun ok m' g'=>Fw m g m' g'/\(ok=true->Compl m' g' x)) m2 g2:=fun m2 g2 F e=>by
   have:=partsB_safe N hN c (j+1) m2 g2 (by omega) F.inv (F.ex.rt q) (fun i hi'=>by
    by_cases ei:i=j
    ·rw [ei];exact e
    ·exact F.ex.slot _ (q.inn.cs i (by omega) (by omega)) (hd i (by omega)))
   rw [show ((j+1:Nat):Int)=(j:Int)+1 by omega] at this;exact Safe.mono (fun _ _ _ ⟨F3,e3⟩=>⟨F.trans F3,e3⟩) this
  split
  ·rename_i e;rw [ce] at e;exact next m1 g1 r1.fw e
  ·refine Safe.bind (Safe.mono ?_ (part_safe N hN r1.inv q1 (i:=(j:Int)) (by omega)));rintro ok m2 g2 ⟨F2,e2⟩
   split
   ·rename_i eo
    have:=e2 eo (by omega)
    rw [ce] at this;exact next m2 g2 (r1.fw.trans F2) this
   ·exact ⟨r1.fw.trans F2,fun e=>by cases e⟩
theorem parts_safe (N:Nat) (hN:N<=1000000) {b tg gd p a x:Int} {ps:Ps} {d lo hi:Int} (h:Inv m g) (hR:IsReb g b tg gd p) (q:Rt m g a x ps d lo hi) :
  Safe t (Pr.parts N b a ps.length x) (fun ok m' g'=>Fw m g m' g'/\(ok=true->Compl m' g' x)) m g:=by
 have dg:=q.deg;have d2:=q.d2;unfold Pr.parts;rw [<- dg];refine Safe.bind (Safe.mono ?_ (partsA_safe N hN N m g h hR q));intro ok m1 g1 F1
 split
 ·have:=partsB_safe (t:=t) N hN (a:=a) (x:=x) (lo:=lo) (hi:=hi) d.toNat 0 m1 g1 (by omega) F1.inv (F1.ex.rt q) (fun i hi'=>absurd hi' (by omega))
  exact Safe.mono (fun _ _ _ ⟨F3,e3⟩=>⟨F1.trans F3,e3⟩) this
 ·exact ⟨F1,fun e=>by cases e⟩
end Sd
namespace Sd
namespace Pr
def top (N:Nat) (a n:Int):Pr (Int × Bool):=
 if 2<=n then recM 3 (innerL n (List.replicate ((max (Pt.degZ n) 1).toNat - 1) 0) (List.replicate (max (Pt.degZ n) 1).toNat 0))
 else if n=1 then (gather N a 0 1 []).bind fun ps=>grow (ps.length+1) ps
 else grow 1 []
def renewE (N:Nat) (b a n w:Int):Pr Bool:=
 (if 2<=n then parts N b a n (ad w) else ret true).bind fun q=>if q=false then ret false else
 (read (wrap64 (b+1))).bind fun gd=>(read (wrap64 (b+2))).bind fun p=>(dcss gd p (Rf.ofZ 4 b) w).bind fun z=>ret (decide (z≠3))
def renew (N:Nat) (b:Int):Pr Bool:=
 (read b).bind fun a=>(mark N N (ad a)).bind fun n=>(read (wrap64 (b+3))).bind fun w=>
 if w=0 then (top N (ad a) n).bind fun z=>if z.2=false then ret false else (cas (wrap64 (b+3)) 0 z.1).bind fun _=>(read (wrap64 (b+3))).bind fun y=>renewE N b (ad a) n y
 else renewE N b (ad a) n w
def start (N:Nat) (nd sl w:Int):Pr Bool:=
 (make [w,wrap64 (nd+2),sl,0,0]).bind fun A=>if 0 < A then (dcss (wrap64 (nd+2)) sl w (Rf.ofZ 4 A)).bind fun z=>if z=1 then renew N A else ret (decide (z≠3)) else ret false
def tallyL:List En->Nat->Int->Pr Int
 | [],_,f=>ret f
 | e :: l,i,f=>(add (ad e.wd+3) 1).bind fun c=>(read (ad e.wd+1)).bind fun z=>tallyL l (i+1) (if f < 0/\Pt.limZ z<=wrap64 (c+1) then (i:Int) else f)
def tally (N:Nat) (es:List En):Pr Unit:=
 (tallyL es 0 (-1)).bind fun p=>if 0<=p then (start N (es.getD p.toNat ⟨0,0,0⟩).nd (es.getD p.toNat ⟨0,0,0⟩).sl (es.getD p.toNat ⟨0,0,0⟩).wd).bind fun _=>ret () else ret ()
end Pr
variable {t:Nat} {m m':Mst} {g g':Gh}
def TopOk (t:Nat) (m:Mst) (g:Gh) (w:Int) (ps:Ps):Prop:=
 (ps.length < 2/\Prv t m g w ps/\kd w<=2)∨
 (2<=ps.length/\kd w=3/\ad w≠1/\g.hm (ad w)=none/\g.ow (ad w)=t/\∃ d,IsInner g (ad w) d ps.length/\2<=d/\d=Pt.degZ ps.length/\(∀ i,1<=i->i < d->gk g (ad w) i=((partL ps i).headD (0,0)).1)/\∀ i,0<=i->i < d->m.look (ad w+4+d+i)=0)
theorem TopOk.on (h:Inv m g) (r:Rl t m g m' g') {w:Int} {ps:Ps} (q:TopOk t m g w ps):TopOk t m' g' w ps:=by
 rcases q with ⟨h1,h2,h3⟩ | ⟨h1,h2,h3,h4,h5,d,h6,h7,h8,h9,h10⟩
 ·exact .inl ⟨h1,h2.on h r,h3⟩
 ·obtain ⟨a1,a2⟩:=r.own1 (by rw [h6.c0];exact (fun e=>by cases e)) h5 h4;refine .inr ⟨h1,h2,h3,a1,a2,d,r.ex.inner h6,h7,h8,fun i i1 i2=>by rw [r.ex.gk h6 i1 i2];exact h9 i i1 i2,fun i i0 i1=>?_⟩;rw [r.ex.still _ (ad w) d ps.length i ⟨h6,i0,i1,rfl⟩ (unlinked h3 a1)];exact h10 i i0 i1
theorem top_safe (N:Nat) (hN:N<=1000000) {a lo hi:Int} {ps:Ps} (h:Inv m g) (hv:Iv g a lo hi) (hF:FT m g a ps) (hl:ps.length<=16384):Safe t (Pr.top N a ps.length) (fun z m' g'=>Rl t m g m' g'/\(z.2=true->TopOk t m' g' z.1 ps/\I64 z.1)) m g:=by
 obtain ⟨u1,u2⟩:=hF.up h hv;have i64s:=pairs_i64 h (fun p hp=>(u1 p hp).2.2);unfold Pr.top
 split
 ·rename_i e2;have db:=Pt.deg_bound (n:=(ps.length:Int)) (by omega) (by omega);obtain ⟨D,hD⟩:∃ D:Nat,Pt.degZ ps.length=(D:Int):=⟨(Pt.degZ ps.length).toNat,by omega⟩;have hDn:(max (Pt.degZ ps.length) 1).toNat=D:=by omega
  rw [hDn];have iw:∀ z ∈ innerL ps.length (List.replicate (D - 1) 0) (List.replicate D 0),I64 z:=by
   intro z hz;unfold innerL at hz;simp only [List.mem_append,List.mem_cons,List.not_mem_nil,or_false,List.mem_replicate,List.length_replicate] at hz;rcases hz with (rfl | rfl | rfl | rfl | rfl) | ⟨_,rfl⟩ | ⟨_,rfl⟩ <;> exact i64_1 (by omega) (by omega)
  refine recM_safe iw (by unfold innerL;simp) (fun m2 g2 m3 A r2 hA hA2 hm=>?_) (fun m2 g2 r2=>⟨r2,fun e=>by cases e⟩);have rz:∀ (j:Nat) w,(List.replicate D (0:Int))[j]? = some w->w=0:=fun j w e=>by
   have:=List.mem_of_getElem? e
   exact (List.mem_replicate.1 this).2
  have gz:∀ n j:Nat,(List.replicate n (0:Int)).getD j 0=0:=fun n j=>by
   rw [List.getD_eq_getElem?_getD];cases e:(List.replicate n (0:Int))[j]? with
   | none=>rfl
   | some w=>have:=(List.mem_replicate.1 (List.mem_of_getElem? e)).2;rw [this];rfl
  obtain ⟨g3,q1,q2,q3,q4,q5,q6,q7,q8⟩:=mk_inner (t:=t) r2.inv hA (size:=ps.length) (d:=(D:Int)) (q:=List.replicate (D - 1) 0) (cs:=List.replicate D 0) (fun i=>((partL ps i).headD (0,0)).1) (by simp) (by omega) (by simp;omega) (fun w hw=>.inl (List.mem_replicate.1 hw).2)
   (fun i j v w e1 _ k1 _ _=>by rw [rz i v e1] at k1;exact absurd k1 (by decide)) (fun i _ _=>.inr ⟨gz _ _,gz _ _⟩) hm
  obtain ⟨k3,ea⟩:=ofk (k:=3) (D:=A) (by omega) (by omega) (by omega) hA2;have hno:g2.ro A=none:=by rw [hA];exact r2.inv.noA
  have hA1:A≠1:=fun e=>by rw [e,r2.inv.top.1.c0] at hno;cases hno
  refine ⟨g3,q1,r2.trans (q1.made (fun b hb=>q7 b (fun w hw k=>by rw [(List.mem_replicate.1 hw).2] at k;exact absurd k (by decide))) q8),fun _=>⟨.inr ⟨by omega,k3,by rw [ea];exact hA1,by rw [ea];exact q3,by rw [ea];exact q4,D,by rw [ea];exact q2,by omega,hD.symm,by rw [ea];exact q5,fun i i0 i1=>?_⟩,i64_of 3 A⟩⟩
  have:=q6 i.toNat (by omega)
  rw [show ((i.toNat:Nat):Int)=i by omega,gz] at this;rw [ea];exact this
 rename_i e2
 split
 ·rename_i e1;have e1':ps.length=1:=by omega
  refine Safe.bind (Safe.mono ?_ (gather_safe t N m g a 0 1 lo hi ps [] h hv hF (by omega) (by omega) (by omega) (by omega)));rintro l m1 g1 ⟨r1,el⟩
  have:l=ps:=by
   rw [el,List.nil_append];unfold sel;rw [List.take_of_length_le (by omega)];rfl
  subst this;refine Safe.mono ?_ (grow_safe t _ m1 g1 l r1.inv u2 i64s (by omega));rintro ⟨w,ok⟩ m2 g2 hg;refine ⟨r1.trans hg.rl,fun e=>?_⟩;obtain ⟨q1,_,q3⟩:=hg.ok e;refine ⟨.inl ⟨by omega,q1,?_⟩,q3⟩;obtain ⟨p,rfl⟩:=List.length_eq_one_iff.1 e1';rcases q1 with ⟨k,_⟩ | ⟨k,_⟩ | ⟨_,_,_,_,_,d',n',h5,h6,f,q⟩
  ·show kd w<=2;have:kd w=1:=k;omega
  ·show kd w<=2;have:kd w=2:=k;omega
  ·exfalso;cases f with
   | zero=>exact q p.1 p.1 (by simp)
   | succ f=>
    have k:=(q p.1 p.1 (by simp) d' n' h5).1 0 (by omega) (by omega);unfold gl at k;rw [if_pos rfl] at k;omega
 ·rename_i e1;have e0:ps=[]:=List.length_eq_zero_iff.1 (by omega);subst e0;refine Safe.mono ?_ (grow_safe t 1 m g [] h List.Pairwise.nil (by simp) (by simp));rintro ⟨w,ok⟩ m2 g2 hg;refine ⟨hg.rl,fun e=>?_⟩;obtain ⟨q1,_,q3⟩:=hg.ok e;refine ⟨.inl ⟨by simp,q1,?_⟩,q3⟩;rcases q1 with ⟨k,_⟩ | ⟨k,_⟩ | ⟨_,_,_,_,_,d',n',h5,h6,f,q⟩
  ·show kd w<=2;have:kd w=1:=k;omega
  ·show kd w<=2;have:kd w=2:=k;omega
  ·exfalso;cases f with
   | zero=>exact q 0 0 (by simp)
   | succ f=>
    have k:=(q 0 0 (by simp) d' n' h5).1 0 (by omega) (by omega);unfold gl at k;rw [if_pos rfl] at k;omega
theorem root_in (h:Inv m g) {b tg gd p w lo hi:Int} {ps:Ps} (hR:IsReb g b tg gd p) (sv:SIv g p lo hi) (hv:Iv g (ad tg) lo hi) (hF:FT m g (ad tg) ps) (q:TopOk t m g w ps):∃ g',Gt t m g m g'/\RtOk m g' b w:=by
 obtain ⟨u1,u2⟩:=hF.up h hv;obtain ⟨a,d,n,l,u,i,e1,e2,e3,e4,e5,e6,e7⟩:=sv;have hs:Slot g p a d n i:=⟨e2,e3,e4,e5⟩;rcases q with ⟨h1,h2,h3⟩ | ⟨h1,h2,h3,h4,h5,d',h6,h7,h8,h9,h10⟩
 ·obtain ⟨g',G,ok⟩:=link_prv h h2 hs e1 (fun x hx=>by rw [<- e6,<- e7];exact ⟨(u1 x hx).1,(u1 x hx).2.1⟩);exact ⟨g',G,tg,gd,p,ps,G.ex.reb hR,G.ex.ft hF,.inl ⟨h1,ok,h3⟩⟩
 ·have st:=step_link h h4 h3 (by rw [h6.kn];decide) (by rw [h6.c0];exact (fun e=>by cases e)) hs e1 (fun d2 n2 hI=>by
   obtain ⟨rfl,rfl⟩:=h6.deg hI;refine ⟨1,fun d3 n3 hI3=>?_⟩;obtain ⟨rfl,rfl⟩:=h6.deg hI3;rw [<- e6,<- e7];refine ⟨fun j j0 j1=>?_,fun j j0 j1=>.inl (h10 j j0 j1)⟩;have pj:=part_head (ps:=ps) (i:=j+1) (by omega) (by omega);have p0:=part_head (ps:=ps) (i:=j) (by omega) (by omega);have lt:=part_lt u2 j0 (show j < j+1 by omega) (by omega) p0.1 pj.1;have b1:=u1 _ (part_mem pj.1);have b0:=u1 _ (part_mem p0.1);rw [h9 (j+1) (by omega) (by omega)];refine ⟨?_,b1.2.1⟩;unfold gl
   split
   ·omega
   ·rw [h9 j (by omega) (by omega)];exact lt)
  refine ⟨g.link (ad w) p,⟨st.1,st.2,fun x _=>⟨rfl,fun e=>⟨?_,rfl⟩⟩⟩,tg,gd,p,ps,st.2.reb hR,st.2.ft hF,.inr ⟨h1,h2,h3,?_,d',st.2.inner h6,h7,h8,fun j j1 j2=>by rw [st.2.gk h6 j1 j2];exact h9 j j1 j2⟩⟩
  ·show (if x=ad w then some p else g.hm x)=g.hm x;rw [if_neg (fun q=>e (by rw [q,h5]))]
  ·show (if ad w=ad w then some p else _)=some p;rw [if_pos rfl]
structure Rb (m:Mst) (g:Gh) (b tg gd p:Int):Prop where
 reb:IsReb g b tg gd p
 hm:g.hm b=some p
theorem Ex.rb (h:Ex m g m' g') {b tg gd p:Int} (q:Rb m g b tg gd p):Rb m' g' b tg gd p:=⟨h.reb q.reb,h.hm _ _ q.hm⟩
theorem Inv.rb (h:Inv m g) {b tg gd p:Int} (q:IsReb g b tg gd p):OkI m g p tg/\At g gd p/\(m.look (b+3)=0∨RtOk m g b (m.look (b+3))):=by
 have c:=h.cell (b+3);unfold COk at c;rw [q.c3,(q.rc.2 3 (by omega) (by omega)).1] at c;obtain ⟨⟨t',gd',p',q',a1,a2⟩,a3⟩:=c;obtain ⟨rfl,rfl,rfl⟩:=q.fn q';exact ⟨a1,a2,a3⟩
theorem renewE_safe (N:Nat) (hN:N<=1000000) {b tg gd p w lo hi:Int} {ps:Ps} (h:Inv m g) (hb:Rb m g b tg gd p) (sv:SIv g p lo hi) (hF:FT m g (ad tg) ps) (hw:RtOk m g b w) (iw:I64 w):Safe t (Pr.renewE N b (ad tg) ps.length w) (fun _ m' g'=>Fw m g m' g') m g:=by
 have b4:=h.lt (c:=b+4) (by rw [hb.reb.c4];exact (fun e=>by cases e));have b1:=hb.reb.rc.1;have b5:=h.ok.2;obtain ⟨hO,hat,_⟩:=h.rb hb.reb;obtain ⟨da,na,hNd,_⟩:=hO.nd sv;obtain ⟨t',gd',p',ps',hR',hF',hw'⟩:=hw;obtain ⟨rfl,rfl,rfl⟩:=hb.reb.fn hR';obtain rfl:=hF.fn hF';unfold Pr.renewE;rw [Pt.wrap_same (by omega) (by omega),Pt.wrap_same (by omega) (by omega)];have pt:Safe t (if 2<=(ps.length:Int) then Pr.parts N b (ad tg) ps.length (ad w) else Pr.ret true) (fun q m' g'=>Fw m g m' g'/\(q=true->OkW m' g' p w)) m g:=by
  split
  ·rename_i e2;rcases hw' with ⟨e1,_⟩ | ⟨_,k3,n1,hm,d,hI,d2,dg,hk⟩
   ·omega
   ·have rt:Rt m g (ad tg) (ad w) ps d lo hi:=⟨hNd.iv,hF,hI,Iv.slot sv n1 hm,by omega,dg,d2,hk⟩;refine Safe.mono ?_ (parts_safe N hN h hb.reb rt);rintro q m1 g1 ⟨F,e⟩;exact ⟨F,fun eq=>.inr (.inr (.inl ⟨k3,d,ps.length,F.ex.inner hI,d2,n1,F.ex.hm _ _ hm,e eq⟩))⟩
  ·rename_i e2;rcases hw' with ⟨_,ok,_⟩ | ⟨e1,_⟩
   ·exact ⟨⟨h,Ex.refl m g⟩,fun _=>ok⟩
   ·omega
 refine Safe.bind (Safe.mono ?_ pt);rintro q m1 g1 ⟨F1,ok1⟩
 split
 ·exact F1
 rename_i eq;have ok1:=ok1 (by simpa using eq);have hb1:=F1.ex.rb hb;refine Safe.bind (Safe.read fun m2 g2 r2=>?_);rw [r2.inv.fix (r2.ex.rb hb1).reb.c1];refine Safe.bind (Safe.read fun m3 g3 r3=>?_);have R:=r2.trans r3;have F3:=F1.trans R.fw;have hb3:=F3.ex.rb hb;rw [r3.inv.fix hb3.reb.c2];obtain ⟨hO3,hat3,_⟩:=r3.inv.rb hb3.reb;obtain ⟨k4,e4⟩:=ofk (k:=4) (D:=b) (by omega) (by omega) b1 (by omega);have sv3:=F3.ex.siv sv;have okr:OkW m3 g3 p (Rf.ofZ 4 b):=.inr (.inr (.inr ⟨k4,tg,gd,by rw [e4];exact hb3.reb,by rw [e4];exact hb3.hm,hO3⟩));have okw:OkW m3 g3 p w:=R.ex.okW (fun _ _ e=>R.ex.back ⟨_,_,F1.ex.siv sv⟩ e) ok1;refine Safe.bind (Safe.mono ?_ (dcss_safe okr.ne (okw.can ⟨_,_,sv3⟩) hat3 ?_ ?_ (i64_of 4 b) iw))
 ·rintro z m4 g4 ⟨F4,_⟩;exact F3.trans F4
 ·rw [<- r3.inv.fix hb3.reb.c1];exact r3.inv.ok.look _
 ·rw [<- r3.inv.fix hb3.reb.c2];exact r3.inv.ok.look _
theorem renew_safe (N:Nat) (hN:N<=1000000) {b tg gd p lo hi:Int} (h:Inv m g) (hb:Rb m g b tg gd p) (sv:SIv g p lo hi):Safe t (Pr.renew N b) (fun _ m' g'=>Fw m g m' g') m g:=by
 have b4:=h.lt (c:=b+4) (by rw [hb.reb.c4];exact (fun e=>by cases e));have b1:=hb.reb.rc.1;have b5:=h.ok.2;unfold Pr.renew;rw [Pt.wrap_same (by omega) (by omega)];refine Safe.bind (Safe.read fun m1 g1 r1=>?_);have hb1:=r1.ex.rb hb;rw [r1.inv.fix hb1.reb.c0];obtain ⟨hO,_,_⟩:=r1.inv.rb hb1.reb;have sv1:=r1.ex.siv sv;obtain ⟨da,na,hNd,_⟩:=hO.nd sv1;refine Safe.bind (Safe.mono ?_ (mark_safe t N N m1 g1 (ad tg) da na lo hi r1.inv hNd));rintro n m2 g2 ⟨r2,ps,hF,en,_⟩;subst en;have hb2:=r2.ex.rb hb1;have sv2:=r2.ex.siv sv1;have hN2:=r2.ex.nd hNd;have R2:=r1.trans r2;have few:=hF.few r2.inv hN2.iv;refine Safe.bind (Safe.read fun m3 g3 r3=>?_);have hb3:=r3.ex.rb hb2;have R3:=R2.trans r3
 split
 ·refine Safe.bind (Safe.mono ?_ (top_safe N hN r3.inv (r3.ex.iv hN2.iv) (r3.ex.ft hF) few));rintro ⟨w,ok⟩ m4 g4 ⟨r4,hz⟩
  split
  ·exact (R3.trans r4).fw
  rename_i eo;obtain ⟨hT,iw⟩:=hz (by simpa using eo);have X4:=r3.ex.trans r4.ex;have R4:=R3.trans r4;refine Safe.bind (Safe.mono (Q:=fun _ m5 g5=>Fw m4 g4 m5 g5/\m5.look (b+3)≠0) ?_ (Safe.cas (fun m5 g5 r5 hu e0=>?_) (fun m5 g5 r5 hn=>?_)))
  ·rintro _ m5 g5 ⟨F5,n5⟩;have F:=R4.fw.trans F5;have hb5:=F.ex.rb hb;refine Safe.bind (Safe.read fun m6 g6 r6=>?_);have F6:=F.trans r6.fw;have hb6:=F6.ex.rb hb;have n6:m6.look (b+3)≠0:=by rw [r6.ex.stay _ (.inr (.inl hb5.reb.c3)) n5];exact n5
   have rt:=(r6.inv.rb hb6.reb).2.2.resolve_left n6;exact Safe.mono (fun _ _ _ F7=>F6.trans F7) (renewE_safe N hN r6.inv hb6 (F6.ex.siv sv) ((X4.trans (F5.ex.trans r6.ex)).ft hF) rt (r6.inv.ok.look _))
  ·have X5:=X4.trans r5.ex;obtain ⟨g6,G,rt⟩:=root_in r5.inv (X5.rb hb2).reb (X5.siv sv2) (X5.iv hN2.iv) (X5.ft hF) (hT.on r4.inv r5);have hp:=write_put r5.inv.ok hu (x:=w) iw;have st:=step_root G.inv ((X5.trans G.ex).rb hb2).reb e0 rt hp;refine ⟨g6,G.trans (Gt.same st),r5.fw.trans (G.fw.trans ⟨st.1,st.2⟩),?_⟩;rw [hp.eq];intro e;rcases rt with ⟨_,_,_,_,_,_,⟨_,ok,_⟩ | ⟨_,k,_⟩⟩
   ·exact ok.ne.1 e
   ·have e':w=0:=e;have k':kd w=3:=k;rw [e'] at k';exact absurd k' (by decide)
  ·exact ⟨r5.fw,fun e=>hn ⟨(r5.inv.used _).1 (by rw [((X4.trans r5.ex).rb hb2).reb.c3];exact (fun e=>by cases e)),e⟩⟩
 ·rename_i n3;have rt:=(r3.inv.rb hb3.reb).2.2.resolve_left n3;exact Safe.mono (fun _ _ _ F7=>R3.fw.trans F7) (renewE_safe N hN r3.inv hb3 (r3.ex.siv sv2) (r3.ex.ft hF) rt (r3.inv.ok.look _))
end Sd
namespace Sd
namespace Pr
def fresh (kind key value w q:Int) (leaf there:Bool):Pr (Int × Bool):=
 if kind=3 then recM 1 [0] else (recM 2 [key,value]).bind fun y=>if y.2=false∨leaf=false∨there=true then ret y else recM 3 (innerL 2 [max q key] (if key < q then [y.1,w] else [w,y.1]))
def layB (N:Nat) (kind key value n sl w q:Int) (res:Rs) (leaf found:Bool) (path:List En):Pr (Rs × Bool):=
 if (kind=1/\found=true)∨(kind=3/\found=false) then ret (res,true) else (fresh kind key value w q leaf found).bind fun x=>if x.2=false then ret (Rs.nomem,true) else
 (dcss (wrap64 (n+2)) sl w x.1).bind fun o=>if o=3 then ret (Rs.nomem,true) else (if o=1/\(kind≠2∨found=false) then tally N path else ret ()).bind fun _=>ret (res,decide (o=1))
def lay (N:Nat) (kind key value n sl w:Int) (path:List En):Pr (Rs × Bool):=
 if kd w=2 then (read (ad w)).bind fun q=>if q=key then (read (ad w+1)).bind fun v=>layB N kind key value n sl w q ⟨0,true,q,v,0⟩ true true path else layB N kind key value n sl w q Rs.none true false path
 else layB N kind key value n sl w 0 Rs.none false false path
def attempt (N:Nat) (kind key value:Int):Nat->Int->List En->Pr (Rs × Bool)
 | 0,_,_=>stop
 | c+1,n,es=>(child n key).bind fun z=>(slot N z).bind fun w=>
  if kd w=4 then (renew N (ad w)).bind fun y=>if y=false then ret (Rs.nomem,true) else ret (Rs.none,false)
  else if kd w=3 then attempt N kind key value c (ad w) (es++[⟨n,z,w⟩]) else lay N kind key value n z w es
def change (N:Nat) (kind key value:Int):Nat->Pr Rs
 | 0=>stop
 | c+1=>(attempt N kind key value N 1 []).bind fun a=>if a.2=true then ret a.1 else change N kind key value c
end Pr
variable {t:Nat} {m m':Mst} {g g':Gh}
structure EnOk (m:Mst) (g:Gh) (e:En):Prop where
 ok:OkI m g e.sl e.wd
 at_:At g (e.nd+2) e.sl
 isl:I64 e.sl
 iwd:I64 e.wd
theorem Ex.en (h:Ex m g m' g') {e:En} (q:EnOk m g e):EnOk m' g' e:=⟨h.okI q.ok,h.at q.at_,q.isl,q.iwd⟩
theorem At.small (h:Inv m g) {n p:Int} (q:At g (n+2) p):wrap64 (n+2)=n+2/\I64 (n+2):=by
 obtain ⟨a,d,k,i,lo,hi,hs,e,_⟩:=q
 have:=hs.1.far h
 have:=hs.1.pos
 exact ⟨Pt.wrap_same (by omega) (by omega),by constructor <;> omega⟩
theorem start_safe (N:Nat) (hN:N<=1000000) (h:Inv m g) {e:En} (he:EnOk m g e):Safe t (Pr.start N e.nd e.sl e.wd) (fun _ m' g'=>Fw m g m' g') m g:=by
 obtain ⟨ew,i2⟩:=he.at_.small h;unfold Pr.start;rw [ew];refine Safe.bind (Safe.make (by
  intro z hz;simp only [List.mem_cons,List.not_mem_nil,or_false] at hz;rcases hz with rfl | rfl | rfl | rfl | rfl
  ·exact he.iwd
  ·exact i2
  ·exact he.isl
  ·exact i64_1 (by omega) (by omega)
  ·exact i64_1 (by omega) (by omega)) (fun m1 g1 m2 r1 hm=>?_) (fun m1 g1 r1=>?_))
 ·have he1:=r1.ex.en he;obtain ⟨g2,G,hR,hn,ho⟩:=mk_reb (t:=t) r1.inv rfl he1.ok he1.at_ hm;refine ⟨g2,G,?_⟩;generalize hA:(m1.xs.length:Int)+1=A at hR hn ho ⊢;have F2:=r1.fw.trans G.fw;have he2:=F2.ex.en he;have b4:=G.inv.lt (c:=A+4) (by rw [hR.c4];exact (fun e=>by cases e));have b5:=G.inv.ok.2;have b1:=hR.rc.1;have A1:A≠1:=fun e=>by
   have:=r1.inv.noA
   rw [hA,e,r1.inv.top.1.c0] at this;cases this
  obtain ⟨k4,ea⟩:=ofk (k:=4) (D:=A) (by omega) (by omega) b1 (by omega);rw [if_pos (by omega)];have can:Can t m2 g2 e.sl (Rf.ofZ 4 A):=fun m3 g3 r3=>by
   obtain ⟨q1,q2⟩:=r3.own1 (by rw [hR.c0];exact (fun e=>by cases e)) ho hn;have he3:=r3.ex.en he2;have hR3:=r3.ex.reb hR;obtain ⟨a,d,k,i,lo,hi,hs,_,hv⟩:=he3.at_;have st:=step_link r3.inv q1 A1 (by rw [hR3.kn];decide) (by rw [hR3.c0];exact (fun e=>by cases e)) hs hv (fun d' n' hI=>by have:=hI.kn.symm.trans hR3.kn;omega);refine ⟨g3.link A e.sl,⟨st.1,st.2,fun x _=>⟨rfl,fun q=>⟨?_,rfl⟩⟩⟩,.inr (.inr (.inr ⟨k4,e.wd,e.nd+2,by rw [ea];exact st.2.reb hR3,?_,st.2.okI he3.ok⟩))⟩
   ·show (if x=A then some e.sl else g3.hm x)=g3.hm x;rw [if_neg (fun q3=>q (by rw [q3,q2]))]
   ·rw [ea];show (if A=A then some e.sl else _)=some e.sl;rw [if_pos rfl]
  refine Safe.bind (Safe.mono ?_ (dcss_safe (OkW.ne (m:=m2) (g:=g2) (.inr (.inr (.inl he2.ok)))) can he2.at_ i2 he.isl he.iwd (i64_of 4 A)));rintro z m3 g3 ⟨F3,okz⟩;have F:=F2.trans F3
  split
  ·rename_i e1;rcases okz (by omega) with ⟨k,_⟩ | ⟨k,_⟩ | ⟨k,_⟩ | ⟨_,tg,gd,hR',hh,_⟩
   ·omega
   ·omega
   ·omega
   ·rw [ea] at hR' hh;obtain ⟨lo,hi,sv⟩:=(F.ex.en he).at_.siv;exact Safe.mono (fun _ _ _ F4=>F.trans F4) (renew_safe N hN F3.inv ⟨hR',hh⟩ sv)
  ·exact F
 ·rw [if_neg (by decide)];exact r1.fw
theorem tallyL_safe:∀ (l:List En) (i:Nat) (f:Int) (m:Mst) (g:Gh),Inv m g->(∀ e ∈ l,EnOk m g e)->Safe t (Pr.tallyL l i f) (fun p m' g'=>Fw m g m' g'/\(p=f∨((i:Int)<=p/\p < i+l.length))) m g
 | [],_,_,m,g,h,_=>⟨⟨h,Ex.refl m g⟩,.inl rfl⟩
 | e :: l,i,f,m,g,h,he=>by
  unfold Pr.tallyL;refine Safe.bind (Safe.add fun m1 g1 r1=>?_);obtain ⟨_,d,n,hI,_⟩:=(r1.ex.en (he e (by simp))).ok;have hu:m1.used (ad e.wd+3)=true:=(r1.inv.used _).1 (by rw [hI.c3];exact (fun e=>by cases e));have hp:=write_put r1.inv.ok hu (x:=wrap64 (m1.look (ad e.wd+3)+1)) (i64_wrap _);have st:=step_count r1.inv (.inl hI.c3) hp;refine ⟨g1,Gt.same st,?_⟩;refine Safe.bind (Safe.read fun m2 g2 r2=>?_);have F:=(r1.fw.trans ⟨st.1,st.2⟩).trans r2.fw;refine Safe.mono ?_ (tallyL_safe l (i+1) _ m2 g2 r2.inv (fun e' q=>F.ex.en (he e' (by simp [q]))));rintro p m3 g3 ⟨F3,q⟩;refine ⟨F.trans F3,?_⟩;rw [List.length_cons];rcases q with q | q
  ·split at q
   ·exact .inr ⟨by omega,by omega⟩
   ·exact .inl q
  ·exact .inr ⟨by omega,by omega⟩
theorem tally_safe (N:Nat) (hN:N<=1000000) (h:Inv m g) {es:List En} (he:∀ e ∈ es,EnOk m g e):Safe t (Pr.tally N es) (fun _ m' g'=>Fw m g m' g') m g:=by
 unfold Pr.tally;refine Safe.bind (Safe.mono ?_ (tallyL_safe es 0 (-1) m g h he));rintro p m1 g1 ⟨F,q⟩
 split
 ·rename_i e;have hp:p.toNat < es.length:=by omega
  have hm:es.getD p.toNat ⟨0,0,0⟩ ∈ es:=by
   rw [List.getD_eq_getElem?_getD,List.getElem?_eq_getElem hp];exact List.getElem_mem hp
  refine Safe.bind (Safe.mono ?_ (start_safe N hN F.inv (F.ex.en (he _ hm))));intro _ m2 g2 F2;exact F.trans F2
 ·exact F
theorem fresh_safe {kind key value w q:Int} {leaf there:Bool} (ik:I64 key) (iv:I64 value) (iw:I64 w) (hw:leaf=true->there=false->kd w=2/\q≠key/\I64 q/\∃ v,IsLeaf g (ad w) q v) :
  Safe t (Pr.fresh kind key value w q leaf there) (fun z m' g'=>Rl t m g m' g'/\(z.2=true->I64 z.1/\∃ l:Ps,Prv t m' g' z.1 l/\∀ p ∈ l,p.1=key∨(leaf=true/\there=false/\p.1=q))) m g:=by
 unfold Pr.fresh
 split
 ·refine recM_safe (by intro z hz;simp at hz;rw [hz];exact i64_1 (by omega) (by omega)) (by simp) (fun m1 g1 m2 A r1 hA hA2 hm=>?_) (fun m1 g1 r1=>⟨r1,fun e=>by cases e⟩);obtain ⟨g2,q1,q2,q3,q4,q5,q6⟩:=mk_empty (t:=t) r1.inv hA hm;obtain ⟨k1,ea⟩:=ofk (k:=1) (D:=A) (by omega) (by omega) (by omega) hA2;have hno:g1.ro A=none:=by rw [hA];exact r1.inv.noA
  exact ⟨g2,q1,r1.trans (q1.made (fun _ _=>by rw [q5]) q6),fun _=>⟨i64_of 1 A,[],.inl ⟨k1,rfl,by rw [ea];exact q2,by rw [ea];exact q3,by rw [ea];exact q4,by rw [ea];exact (fun e=>by rw [e,r1.inv.top.1.c0] at hno;cases hno)⟩,by simp⟩⟩
 ·refine Safe.bind (recM_safe (by intro z hz;simp at hz;rcases hz with rfl | rfl;exact ik;exact iv) (by simp) (fun m1 g1 m2 A r1 hA hA2 hm=>?_) (fun m1 g1 r1=>?_))
  ·obtain ⟨g2,q1,q2,q5,q6⟩:=mk_leaf (t:=t) r1.inv hA (k:=key) (v:=value) hm;obtain ⟨k2,ea⟩:=ofk (k:=2) (D:=A) (by omega) (by omega) (by omega) hA2;refine ⟨g2,q1,?_⟩;have R:=r1.trans (q1.made (fun _ _=>by rw [q5]) q6);have pv:Prv t m2 g2 (Rf.ofZ 2 A) [(key,value)]:=.inr (.inl ⟨k2,key,value,by rw [ea];exact q2,rfl⟩)
   split
   ·exact ⟨R,fun _=>⟨i64_of 2 A,_,pv,fun p hp=>.inl (by rw [List.mem_singleton] at hp;rw [hp])⟩⟩
   ·rename_i hc;have hlf:leaf=true:=by
     cases leaf with
     | true=>rfl
     | false=>exact absurd (.inr (.inl rfl)) hc
    have hth:there=false:=by
     cases there with
     | false=>rfl
     | true=>exact absurd (.inr (.inr rfl)) hc
    obtain ⟨kw,hne,iq,v0,hl0⟩:=hw hlf hth;have hl2:=R.ex.leaf hl0;have pw:Prv t m2 g2 w [(q,v0)]:=.inr (.inl ⟨kw,q,v0,hl2,rfl⟩);obtain ⟨a1,b1,l1,l2,ecs,h1,h2,hlt,hmx,hmem⟩:∃ (a1 b1:Int) (l1 l2:Int × Int),(if key < q then [Rf.ofZ 2 A,w] else [w,Rf.ofZ 2 A])=[a1,b1]/\Prv t m2 g2 a1 [l1]/\Prv t m2 g2 b1 [l2]/\l1.1 < l2.1/\max q key=l2.1/\((l1=(key,value)/\l2=(q,v0))∨(l1=(q,v0)/\l2=(key,value))):=by
     by_cases e:key < q
     ·exact ⟨_,_,_,_,if_pos e,pv,pw,e,by show max q key=q;omega,.inl ⟨rfl,rfl⟩⟩
     ·exact ⟨_,_,_,_,if_neg e,pw,pv,by show q < key;omega,by show max q key=key;omega,.inr ⟨rfl,rfl⟩⟩
    rw [ecs,hmx];have kk:∀ {x:Int} {p:Int × Int},Prv t m2 g2 x [p]->kd x=2->∃ k v,IsLeaf g2 (ad x) k v:=fun hx k=>by
     rcases hx with ⟨k',_⟩ | ⟨_,u,v,hl,_⟩ | ⟨k',_⟩
     ·omega
     ·exact ⟨u,v,hl⟩
     ·omega
    have kab:kd a1=2/\kd b1=2:=by
     split at ecs
     ·cases ecs;exact ⟨k2,kw⟩
     ·cases ecs;exact ⟨kw,k2⟩
    have iab:I64 a1/\I64 b1:=by
     split at ecs
     ·cases ecs;exact ⟨i64_of 2 A,iw⟩
     ·cases ecs;exact ⟨iw,i64_of 2 A⟩
    have il2:I64 l2.1:=by rcases hmem with ⟨_,e⟩ | ⟨_,e⟩ <;> (rw [e];assumption)
    refine recM_safe (by
     intro z hz;unfold innerL at hz;simp only [List.mem_append,List.mem_cons,List.not_mem_nil,or_false,List.length_cons,List.length_nil] at hz;rcases hz with (rfl | rfl | rfl | rfl | rfl) | rfl | rfl | rfl
     ·exact i64_1 (by omega) (by omega)
     ·exact i64_1 (by omega) (by omega)
     ·exact i64_1 (by omega) (by omega)
     ·exact i64_1 (by omega) (by omega)
     ·exact i64_1 (by omega) (by omega)
     ·exact il2
     ·exact iab.1
     ·exact iab.2) (by unfold innerL;simp) (fun m3 g3 m4 B r3 hB hB2 hm4=>?_) (fun m3 g3 r3=>⟨R.trans r3,fun e=>by cases e⟩)
    have p1:=h1.on R.inv r3;have p2:=h2.on R.inv r3;have at2:∀ (j:Nat) x,[a1,b1][j]? = some x->(j=0/\x=a1)∨(j=1/\x=b1):=fun j x e=>by
     rcases j with _ | _ | j
     ·simp at e;exact .inl ⟨rfl,e.symm⟩
     ·simp at e;exact .inr ⟨rfl,e.symm⟩
     ·simp at e
    have no3:∀ (j:Nat) x,[a1,b1][j]? = some x->kd x≠3:=fun j x e=>by
     rcases at2 j x e with ⟨_,rfl⟩ | ⟨_,rfl⟩ <;> omega
    obtain ⟨g4,G,s2,s3,s4,s5,s6,s7,s8⟩:=mk_inner (t:=t) r3.inv hB (size:=2) (d:=2) (q:=[l2.1]) (cs:=[a1,b1]) (fun _=>l2.1) (by simp) (by omega) (by simp) (fun x hx=>by
      obtain ⟨j,hj⟩:=List.getElem?_of_mem hx;obtain ⟨u,v,hl⟩:∃ u v,IsLeaf g2 (ad x) u v:=by
       rcases at2 j x hj with ⟨_,rfl⟩ | ⟨_,rfl⟩
       ·exact kk h1 kab.1
       ·exact kk h2 kab.2
      have kx:kd x=2:=by rcases at2 j x hj with ⟨_,rfl⟩ | ⟨_,rfl⟩;exact kab.1;exact kab.2
      exact .inr (.inl ⟨kx,u,v,r3.ex.leaf hl⟩)) (fun i j v x e1 _ k1 _ _=>absurd k1 (no3 i v e1)) (fun i i1 i2=>.inl (by rw [show i=1 by omega];rfl)) hm4
    obtain ⟨k3,eb⟩:=ofk (k:=3) (D:=B) (by omega) (by omega) (by omega) hB2;have hno:g3.ro B=none:=by rw [hB];exact r3.inv.noA
    have hB1:B≠1:=fun e=>by rw [e,r3.inv.top.1.c0] at hno;cases hno
    refine ⟨g4,G,(R.trans r3).trans (G.made (fun b hb=>s7 b (fun x hx k=>by
     obtain ⟨j,hj⟩:=List.getElem?_of_mem hx;exact absurd k (no3 j x hj))) s8),fun _=>⟨i64_of 3 B,[l1,l2],?_,fun p hp=>?_⟩⟩
    ·refine prv_inner r3.inv G (pt:=fun i=>if i=0 then [l1] else [l2]) hB2 hB1 s2 (by omega) s3 s4 (by simp) s6 (fun j x e=>?_) (fun i hi'=>?_) (fun i j hij hj p hp r hr=>?_)
     ·rcases at2 j x e with ⟨rfl,rfl⟩ | ⟨rfl,rfl⟩
      ·exact p1
      ·exact p2
     ·by_cases e:i=0
      ·subst e;exact ⟨l1,by simp,fun r hr=>by simp at hr;rw [hr];exact ⟨Int.le_refl _,by simp⟩,fun q=>absurd q (by omega)⟩
      ·have:i=1:=by omega
       subst this;exact ⟨l2,by simp,fun r hr=>by simp at hr;rw [hr];exact ⟨Int.le_refl _,by simp⟩,fun _=>s5 1 (by omega) (by omega)⟩
     ·have e0:i=0:=by omega
      have e1:j=1:=by omega
      subst e0 e1;simp at hp hr;rw [hp,hr];exact hlt
    ·simp only [List.mem_cons,List.not_mem_nil,or_false] at hp;rcases hmem with ⟨e1,e2⟩ | ⟨e1,e2⟩
     ·rcases hp with rfl | rfl
      ·exact .inl (by rw [e1])
      ·exact .inr ⟨hlf,hth,by rw [e2]⟩
     ·rcases hp with rfl | rfl
      ·exact .inr ⟨hlf,hth,by rw [e1]⟩
      ·exact .inl (by rw [e2])
  ·rw [if_pos (.inl rfl)];exact ⟨r1,fun e=>by cases e⟩
end Sd
namespace Sd
variable {t:Nat} {m m':Mst} {g g':Gh}
theorem layB_safe (N:Nat) (hN:N<=1000000) (h:Inv m g) {kind key value n sl w q lo hi:Int} {res:Rs} {leaf found:Bool} {path:List En} (ik:I64 key) (iv:I64 value) (iw:I64 w) (isl:I64 sl) (ow:OkW m g sl w) (hat:At g (n+2) sl) (sv:SIv g sl lo hi) (hk:lo<=key/\key<=hi)
  (hw:leaf=true->found=false->kd w=2/\q≠key/\I64 q/\∃ v,IsLeaf g (ad w) q v) (hp:∀ e ∈ path,EnOk m g e):Safe t (Pr.layB N kind key value n sl w q res leaf found path) (fun _ m' g'=>Fw m g m' g') m g:=by
 obtain ⟨ew,i2⟩:=hat.small h;unfold Pr.layB;rw [ew]
 split
 ·exact ⟨h,Ex.refl m g⟩
 refine Safe.bind (Safe.mono ?_ (fresh_safe (kind:=kind) (there:=found) ik iv iw hw));rintro ⟨x,b⟩ m1 g1 ⟨r1,hx⟩
 split
 ·exact r1.fw
 rename_i eb;obtain ⟨ix,l,pv,hl⟩:=hx (by simpa using eb);have ow1:OkW m1 g1 sl w:=r1.ex.okW (fun _ _ e=>r1.ex.back ⟨_,_,sv⟩ e) ow;have hat1:=r1.ex.at hat;have can:Can t m1 g1 sl x:=fun m2 g2 r2=>by
  have X:=r1.ex.trans r2.ex;obtain ⟨a,d,k,i,l1,u1,hs,_,hv⟩:=X.at hat;have sv2:=hs.siv hv;obtain ⟨e1,e2⟩:=sv2.fn (X.siv sv);refine link_prv r2.inv (pv.on r1.inv r2) hs hv (fun p hp'=>?_);rw [e1,e2];rcases hl p hp' with e | ⟨e3,e4,e⟩
  ·rw [e];exact hk
  ·obtain ⟨k2,_,_,v,hlf⟩:=hw e3 e4;rw [e];rcases ow with ⟨k',_⟩ | ⟨_,k',v',hl',hb⟩ | ⟨k',_⟩ | ⟨k',_⟩
   ·omega
   ·obtain ⟨rfl,_⟩:=hlf.fn hl';exact hb _ _ sv
   ·omega
   ·omega
 refine Safe.bind (Safe.mono ?_ (dcss_safe ow1.ne can hat1 i2 isl iw ix));rintro o m2 g2 ⟨F2,_⟩;have F:=r1.fw.trans F2
 split
 ·exact F
 refine Safe.bind (Safe.mono (Q:=fun _ m3 g3=>Fw m g m3 g3) (fun _ _ _ F3=>F3) ?_)
 split
 ·exact Safe.mono (fun _ _ _ F3=>F.trans F3) (tally_safe N hN F2.inv (fun e he=>F.ex.en (hp e he)))
 ·exact F
theorem lay_safe (N:Nat) (hN:N<=1000000) (h:Inv m g) {kind key value n sl w lo hi:Int} {path:List En} (ik:I64 key) (iv:I64 value) (iw:I64 w) (isl:I64 sl) (ow:OkW m g sl w) (hat:At g (n+2) sl) (sv:SIv g sl lo hi) (hk:lo<=key/\key<=hi)
  (hp:∀ e ∈ path,EnOk m g e):Safe t (Pr.lay N kind key value n sl w path) (fun _ m' g'=>Fw m g m' g') m g:=by
 unfold Pr.lay
 split
 ·rename_i k2;rcases ow with ⟨k',_⟩ | ⟨_,k',v',hl',hb⟩ | ⟨k',_⟩ | ⟨k',_⟩
  ·omega
  ·have ow:OkW m g sl w:=.inr (.inl ⟨k2,k',v',hl',hb⟩);have on:∀ {m1:Mst} {g1:Gh},Rl t m g m1 g1->OkW m1 g1 sl w:=fun r1=>r1.ex.okW (fun _ _ e=>r1.ex.back ⟨_,_,sv⟩ e) ow;refine Safe.bind (Safe.read fun m1 g1 r1=>?_);rw [r1.inv.fix (r1.ex.leaf hl').c0];have iq:I64 k':=by rw [<- h.fix hl'.c0];exact h.ok.look _
   split
   ·refine Safe.bind (Safe.read fun m2 g2 r2=>?_);have R:=r1.trans r2;exact Safe.mono (fun _ _ _ F3=>R.fw.trans F3) (layB_safe N hN R.inv ik iv iw isl (on R) (R.ex.at hat) (R.ex.siv sv) hk (fun _ e=>by cases e) (fun e he=>R.ex.en (hp e he)))
   ·rename_i ne;exact Safe.mono (fun _ _ _ F3=>r1.fw.trans F3) (layB_safe N hN r1.inv ik iv iw isl (on r1) (r1.ex.at hat) (r1.ex.siv sv) hk (fun _ _=>⟨k2,ne,iq,v',r1.ex.leaf hl'⟩) (fun e he=>r1.ex.en (hp e he)))
  ·omega
  ·omega
 ·exact layB_safe N hN h ik iv iw isl ow hat sv hk (fun e _=>by cases e) hp
theorem attempt_safe (N:Nat) (hN:N<=1000000) {kind key value:Int} (ik:I64 key) (iv:I64 value):∀ (c:Nat) (n:Int) (es:List En) (m:Mst) (g:Gh) (d sz lo hi:Int),Inv m g->IsInner g n d sz->Compl m g n->Iv g n lo hi->lo<=key/\key<=hi->(∀ e ∈ es,EnOk m g e)->
  Safe t (Pr.attempt N kind key value c n es) (fun _ m' g'=>Fw m g m' g') m g
 | 0,_,_,_,_,_,_,_,_,_,_,_,_,_,_=>trivial
 | c+1,n,es,m,g,d,sz,lo,hi,h,hI,hc,hv,hk,hp=>by
  have fx:=hI.far h;unfold Pr.attempt;refine Safe.bind (Safe.mono ?_ (child_safe h hI hc hk));rintro s m1 g1 ⟨r1,i,hs,b1,b2⟩;have hs1:=r1.ex.sl hs;refine Safe.bind (Safe.mono ?_ (slot_safe N hs1.ro));rintro w m2 g2 ⟨r2,ew,k5⟩;have R:=r1.trans r2;have hs2:=R.ex.sl hs;have hv2:=R.ex.iv hv;have sv:=R.ex.siv (hs.siv hv);have w0:w≠0:=by
   rw [<- ew,hs2.2.2.2];exact R.ex.compl hI hc d sz i hs2.1 hs2.2.1 hs2.2.2.1
  have ow:OkW m2 g2 s w:=by
   rcases R.inv.sees hs2.ro with e | e | ⟨e,_⟩
   ·rw [ew] at e;exact absurd e w0
   ·rwa [ew] at e
   ·rw [ew] at e;exact absurd e k5
  have hat:At g2 (n+2) s:=⟨n,d,sz,i,lo,hi,hs2,rfl,hv2⟩;have isl:I64 s:=by have e:=hs2.2.2.2;have q1:=hs2.2.1;have q2:=hs2.2.2.1;exact i64_1 (by omega) (by omega)
  have iw:I64 w:=by rw [<- ew];exact R.inv.ok.look _
  split
  ·rename_i k4;rcases ow with ⟨k',_⟩ | ⟨k',_⟩ | ⟨k',_⟩ | ⟨_,tg,gd,hR,hm,_⟩
   ·omega
   ·omega
   ·omega
   ·refine Safe.bind (Safe.mono ?_ (renew_safe N hN R.inv ⟨hR,hm⟩ sv));intro y m3 g3 F3
    split
    ·exact R.fw.trans F3
    ·exact R.fw.trans F3
  rename_i k4
  split
  ·rename_i k3;rcases ow with ⟨k',_⟩ | ⟨k',_⟩ | hO | ⟨k',_⟩
   ·omega
   ·omega
   ·obtain ⟨d',n',hNd,_⟩:=hO.nd sv;refine Safe.mono (fun _ _ _ F3=>R.fw.trans F3) (attempt_safe N hN ik iv c (ad w) _ m2 g2 d' n' _ _ R.inv hNd.inn hNd.cm hNd.iv ⟨b1,b2⟩ (fun e he=>?_));rcases List.mem_append.1 he with he | he
    ·exact R.ex.en (hp e he)
    ·rw [List.mem_singleton] at he;rw [he];exact ⟨hO,hat,isl,iw⟩
   ·omega
  ·exact Safe.mono (fun _ _ _ F3=>R.fw.trans F3) (lay_safe N hN R.inv ik iv iw isl ow hat sv ⟨b1,b2⟩ (fun e he=>R.ex.en (hp e he)))
theorem change_safe (N:Nat) (hN:N<=1000000) {kind key value:Int} (ik:I64 key) (iv:I64 value):∀ (c:Nat) (m:Mst) (g:Gh),Inv m g->Safe t (Pr.change N kind key value c) (fun _ m' g'=>Fw m g m' g') m g
 | 0,_,_,_=>trivial
 | c+1,m,g,h=>by
  unfold Pr.change;have hc:Compl m g 1:=fun d' n' i hI h0 h1=>by
   obtain ⟨rfl,rfl⟩:=h.top.1.deg hI;rw [show (1:Int)+4+1+i=6 by omega];exact h.top.2
  refine Safe.bind (Safe.mono ?_ (attempt_safe N hN ik iv N 1 [] m g 1 0 _ _ h h.top.1 hc (Iv.top h.top.1) ⟨ik.1,ik.2⟩ (by simp)));intro a m1 g1 F1
  split
  ·exact F1
  ·exact Safe.mono (fun _ _ _ F3=>F1.trans F3) (change_safe N hN ik iv c m1 g1 F1.inv)
end Sd
namespace Sd
def Pr.run {α:Type}:Pr α->Rn->Option α × Rn
 | .ret a,s=>(some a,s)
 | .ask q k,s=>if s.off=true then (none,s) else if s.pos < s.tape.length then (k (s.tape.getD s.pos 0)).run { s with pos:=s.pos+1 } else (none,{ s with off:=true,nx:=q })
 | .stop,s=>(none,s)
theorem run_ask {α:Type} (q:Ak) (k:Int->Pr α) (s:Rn):(Pr.ask q k).run s=if s.off=true then (none,s) else if s.pos < s.tape.length then (k (s.tape.getD s.pos 0)).run { s with pos:=s.pos+1 } else (none,{ s with off:=true,nx:=q }):=rfl
structure Eqv (s s':Rn):Prop where
 tape:s.tape=s'.tape
 pos:s.pos=s'.pos
 off:s.off=s'.off
 nx:s.nx=s'.nx
variable {α β:Type}
theorem run_eqv (p:Pr α):∀ {s s':Rn},Eqv s s'->(p.run s).1=(p.run s').1/\Eqv (p.run s).2 (p.run s').2:=by
 induction p with
 | ret a=>intro s s' h;exact ⟨rfl,h⟩
 | ask q k ih=>
  intro s s' h;rw [run_ask,run_ask,h.off,h.pos,h.tape]
  split
  ·exact ⟨rfl,h⟩
  ·split
   ·exact ih _ ⟨rfl,rfl,rfl,h.nx⟩
   ·exact ⟨rfl,rfl,rfl,rfl,rfl⟩
 | stop=>intro s s' h;exact ⟨rfl,h⟩
theorem run_bind (p:Pr α) (f:α->Pr β):∀ (s:Rn),(p.bind f).run s=match p.run s with
  | (some a,r)=>(f a).run r
  | (none,r)=>(none,r):=by
 induction p with
 | ret a=>intro s;rfl
 | ask q k ih=>
  intro s;show (Pr.ask q fun z=>(k z).bind f).run s=_;rw [run_ask,run_ask]
  split
  ·rfl
  ·split
   ·exact ih _ _
   ·rfl
 | stop=>intro s;rfl
structure Fo (s:Rn) (p:Pr α) (x:α × Rn):Prop where
 left:x.2.left<=s.left
 off:s.off=true->x.2.off=true/\x.2.nx=s.nx
 on:s.off=false->(∃ a r,p.run s=(some a,r)/\x.1=a/\Eqv x.2 r/\r.off=false)∨(∃ r,p.run s=(none,r)/\r.off=true/\x.2.off=true/\x.2.nx=r.nx)
theorem Fo.ret (s:Rn) (a:α):Fo s (.ret a) (a,s):=⟨Nat.le_refl _,fun h=>⟨h,rfl⟩,fun h=>.inl ⟨a,s,rfl,rfl,⟨rfl,rfl,rfl,rfl⟩,h⟩⟩
theorem Fo.dead {s:Rn} (h:s.off=true) (p:Pr α) (a:α):Fo s p (a,s):=⟨Nat.le_refl _,fun h=>⟨h,rfl⟩,fun h2=>by rw [h] at h2;cases h2⟩
theorem Fo.bind {s r:Rn} {p:Pr α} {w:α} {f:α->Pr β} {y:β × Rn} (h:Fo s p (w,r)) (h2:Fo r (f w) y):Fo s (p.bind f) y:=by
 refine ⟨Nat.le_trans h2.left h.left,fun e=>?_,fun e=>?_⟩
 ·obtain ⟨a1,a2⟩:=h.off e;obtain ⟨b1,b2⟩:=h2.off a1;exact ⟨b1,b2.trans a2⟩
 ·rw [run_bind];rcases h.on e with ⟨a,r0,e1,e2,e3,e4⟩ | ⟨r0,e1,e2,e3,e4⟩
  ·rw [e1];have e2':w=a:=e2;subst e2';have ro:r.off=false:=e3.off.trans e4;obtain ⟨q1,q2⟩:=run_eqv (f w) e3;rcases h2.on ro with ⟨b,r1,u1,u2,u3,u4⟩ | ⟨r1,u1,u2,u3,u4⟩
   ·have q1':(Pr.run (f w) r0).1=some b:=by rw [<- q1,show (w,r).2=r from rfl,u1]
    have q2':Eqv r1 (Pr.run (f w) r0).2:=by have:=q2;rw [show (w,r).2=r from rfl,u1] at this;exact this
    refine .inl ⟨b,(Pr.run (f w) r0).2,by show Pr.run (f w) r0=_;rw [<- q1'],u2,⟨u3.tape.trans q2'.tape,u3.pos.trans q2'.pos,u3.off.trans q2'.off,u3.nx.trans q2'.nx⟩,q2'.off.symm.trans u4⟩
   ·have q1':(Pr.run (f w) r0).1=none:=by rw [<- q1,show (w,r).2=r from rfl,u1]
    have q2':Eqv r1 (Pr.run (f w) r0).2:=by have:=q2;rw [show (w,r).2=r from rfl,u1] at this;exact this
    refine .inr ⟨(Pr.run (f w) r0).2,by show Pr.run (f w) r0=_;rw [<- q1'],q2'.off.symm.trans u2,u3,u4.trans q2'.nx⟩
  ·rw [e1];obtain ⟨b1,b2⟩:=h2.off e3;exact .inr ⟨r0,rfl,e2,b1,b2.trans e4⟩
theorem Fo.ask (s:Rn) (q:Ak) {f:Int->α}:Fo s (.ask q fun z=>.ret (f z)) (f (s.ask q).1,(s.ask q).2):=by
 refine ⟨Rn.ask_le s q,fun e=>by rw [Rn.ask_off q e];exact ⟨e,rfl⟩,fun e=>?_⟩;have ne:¬ s.off=true:=by rw [e];decide
 by_cases hp:s.pos < s.tape.length
 ·have e1:s.ask q=(s.tape.getD s.pos 0,{ s with pos:=s.pos+1 }):=by unfold Rn.ask;rw [if_neg ne,if_pos hp]
  rw [run_ask,if_neg ne,if_pos hp,e1];exact .inl ⟨_,_,rfl,rfl,⟨rfl,rfl,rfl,rfl⟩,e⟩
 ·have e1:s.ask q=(0,{ s with off:=true,nx:=q }):=by unfold Rn.ask;rw [if_neg ne,if_neg hp]
  rw [run_ask,if_neg ne,if_neg hp,e1];exact .inr ⟨_,rfl,rfl,rfl,rfl⟩
theorem fo_read (s:Rn) (a:Int):Fo s (Pr.read a) (s.read a):=Fo.ask s _ (f:=fun z=>z)
theorem fo_write (s:Rn) (a x:Int):Fo s (Pr.write a x) ((),s.write a x):=Fo.ask s _ (f:=fun _=>())
theorem fo_cas (s:Rn) (a o x:Int):Fo s (Pr.cas a o x) (s.cas a o x):=Fo.ask s _ (f:=fun z=>z == 1)
theorem fo_add (s:Rn) (a d:Int):Fo s (Pr.add a d) (s.add a d):=Fo.ask s _ (f:=fun z=>z)
theorem fo_make (s:Rn) (w:List Int):Fo s (Pr.make w) (s.make w):=Fo.ask s _ (f:=fun z=>z)
theorem Fo.note {s:Rn} {p:Pr α} {a:α} {r r':Rn} (h:Fo s p (a,r)) (e:Eqv r' r):Fo s p (a,r'):=by
 have el:r'.left=r.left:=by unfold Rn.left;rw [e.tape,e.pos,e.off]
 refine ⟨by show r'.left<=_;rw [el];exact h.left,fun q=>?_,fun q=>?_⟩
 ·obtain ⟨a1,a2⟩:=h.off q;exact ⟨e.off.trans a1,e.nx.trans a2⟩
 ·rcases h.on q with ⟨a,r0,e1,e2,e3,e4⟩ | ⟨r0,e1,e2,e3,e4⟩
  ·exact .inl ⟨a,r0,e1,e2,⟨e.tape.trans e3.tape,e.pos.trans e3.pos,e.off.trans e3.off,e.nx.trans e3.nx⟩,e4⟩
  ·exact .inr ⟨r0,e1,e2,e.off.trans e3,e.nx.trans e4⟩
theorem fo_peek (s:Rn) (a:Int):Fo s (Pr.peek a) (s.peek a):=by
 unfold Pr.peek Rn.peek;have h:=fo_read s a;generalize s.read a=x at h ⊢;obtain ⟨w,r⟩:=x;refine Fo.bind h ?_;dsimp only
 split
 ·have h2:=fo_read r (ad w+4);generalize r.read (ad w+4)=y at h2 ⊢;obtain ⟨o,r2⟩:=y;refine Fo.bind h2 ?_;dsimp only
  split
  ·exact fo_read _ _
  ·exact fo_read _ _
 ·exact Fo.ret _ _
theorem fo_help (s:Rn) (a:Int):Fo s (Pr.help a) ((),s.help a):=by
 unfold Pr.help Rn.help;have h:=fo_read s a;generalize s.read a=x at h ⊢;obtain ⟨p,r⟩:=x;refine Fo.bind h ?_;dsimp only;have h:=fo_read r p;generalize r.read p=x at h ⊢;obtain ⟨gd,r1⟩:=x;refine Fo.bind h ?_;dsimp only;have h:=fo_cas r1 (a+4) 0 (if gd=0 then 1 else 2);generalize r1.cas (a+4) 0 (if gd=0 then 1 else 2)=x at h ⊢;obtain ⟨c,r2⟩:=x;refine Fo.bind h ?_;dsimp only;have h:=fo_read r2 (a+4);generalize r2.read (a+4)=x at h ⊢;obtain ⟨o,r3⟩:=x;refine Fo.bind h ?_;dsimp only;have h:=fo_read r3 (a+1);generalize r3.read (a+1)=x at h ⊢;obtain ⟨tt,r4⟩:=x;refine Fo.bind h ?_;dsimp only;have h:Fo r4 (if o=1 then Pr.read (a+3) else Pr.read (a+2)) (if o=1 then r4.read (a+3) else r4.read (a+2)):=by
  split
  ·exact fo_read _ _
  ·exact fo_read _ _
 generalize (if o=1 then r4.read (a+3) else r4.read (a+2))=x at h ⊢;obtain ⟨v,r5⟩:=x;refine Fo.bind h ?_;have h:=fo_cas r5 tt (Rf.ofZ 5 a) v;generalize r5.cas tt (Rf.ofZ 5 a) v=x at h ⊢;obtain ⟨c,r6⟩:=x;exact Fo.bind h (Fo.ret _ _)
theorem fo_slotL:∀ (n:Nat) (s:Rn) (a z:Int),(s.off=false->s.left < n)->Fo s (Pr.slotL n a z) (s.slotL a z)
 | 0,s,a,z,h=>by
  by_cases ho:s.off=true
  ·rw [Rn.slotL_stop (fun q=>by rw [ho] at q;cases q.1)];exact Fo.dead ho _ _
  ·exact absurd (h (by simpa using ho)) (by omega)
 | n+1,s,a,z,hn=>by
  unfold Pr.slotL
  by_cases h:s.off=false/\kd z=5
  ·rw [if_pos h.2];have lt:=Rn.help_lt (s:=s) (ad z) h.1;have h1:=fo_help s (ad z);obtain ⟨y,t,e⟩:∃ y t,(s.help (ad z)).read a=(y,t):=⟨_,_,rfl⟩;rw [Rn.slotL_go h.1 h.2 e];have h2:=fo_read (s.help (ad z)) a;rw [e] at h2;refine Fo.bind h1 (Fo.bind h2 (fo_slotL n t a y ?_))
   have:=h2.left
   have e2:t.left<=(s.help (ad z)).left:=this
   have:=hn h.1
   exact fun _=>by omega
  ·rw [Rn.slotL_stop h]
   by_cases ho:s.off=true
   ·exact Fo.dead ho _ _
   ·rw [if_neg (fun k=>h ⟨by simpa using ho,k⟩)];exact Fo.ret _ _
theorem fo_slot (N:Nat) (s:Rn) (a:Int) (h:s.off=false->s.left < N):Fo s (Pr.slot N a) (s.slot a):=by
 unfold Pr.slot Rn.slot;have h1:=fo_read s a;have hl:=h1.left;generalize s.read a=x at h1 hl ⊢;obtain ⟨w,r⟩:=x;exact Fo.bind h1 (fo_slotL N r a w (fun e=>by
  have:r.left<=s.left:=hl
  cases so:s.off with
  | true=>have q:=(h1.off so).1;rw [e] at q;cases q
  | false=>have:=h so;omega))
end Sd
namespace Sd
theorem fo_dcss (s:Rn) (gd p o x:Int):Fo s (Pr.dcss gd p o x) (s.dcss gd p o x):=by
 unfold Pr.dcss Rn.dcss;have h:=fo_make s [gd,p,o,x,0];generalize s.make [gd,p,o,x,0]=y at h ⊢;obtain ⟨A,r⟩:=y;dsimp only
 split
 ·refine Fo.bind (Fo.note h (r':={ r with rc:=A }) ⟨rfl,rfl,rfl,rfl⟩) ?_;rename_i e;rw [if_pos e];have h:=fo_cas ({ r with rc:=A }:Rn) p o (Rf.ofZ 5 A);generalize ({ r with rc:=A }:Rn).cas p o (Rf.ofZ 5 A)=y at h ⊢;obtain ⟨c,r1⟩:=y;refine Fo.bind h ?_;dsimp only
  split
  ·have h:=fo_read r1 gd;generalize r1.read gd=y at h ⊢;obtain ⟨q,r2⟩:=y;refine Fo.bind h ?_;dsimp only;have h:=fo_cas r2 (wrap64 (A+4)) 0 (if q=0 then 1 else 2);generalize r2.cas (wrap64 (A+4)) 0 (if q=0 then 1 else 2)=y at h ⊢;obtain ⟨c2,r3⟩:=y;refine Fo.bind h ?_;dsimp only;have h:=fo_read r3 (wrap64 (A+4));generalize r3.read (wrap64 (A+4))=y at h ⊢;obtain ⟨u,r4⟩:=y;refine Fo.bind h ?_;dsimp only
   split
   ·have h:=fo_cas r4 p (Rf.ofZ 5 A) x;generalize r4.cas p (Rf.ofZ 5 A) x=y at h ⊢;obtain ⟨c3,r5⟩:=y;exact Fo.bind h (Fo.ret _ _)
   ·have h:=fo_cas r4 p (Rf.ofZ 5 A) o;generalize r4.cas p (Rf.ofZ 5 A) o=y at h ⊢;obtain ⟨c3,r5⟩:=y;exact Fo.bind h (Fo.ret _ _)
  ·exact Fo.ret _ _
 ·refine Fo.bind h ?_;rename_i e;rw [if_neg e];exact Fo.ret _ _
theorem fo_down (n k:Int):∀ (i:Nat) (s:Rn),Fo s (Pr.downT n k i) (Rn.downF n k i s)
 | 0,s=>Fo.ret _ _
 | i+1,s=>by
  unfold Pr.downT Rn.downF
  by_cases ho:s.off=true
  ·rw [if_neg (c:=1<=i/\s.off=false) (by rintro ⟨_,h⟩;rw [ho] at h;cases h)];exact Fo.dead ho _ _
  ·have hf:s.off=false:=by simpa using ho
   by_cases h1:1<=i
   ·rw [if_pos h1,if_pos ⟨h1,hf⟩];have h:=fo_read s (keyZ n ((i:Int)+1));generalize s.read (keyZ n ((i:Int)+1))=y at h ⊢;obtain ⟨q,r⟩:=y;refine Fo.bind h ?_;dsimp only
    split
    ·exact Fo.ret _ _
    ·exact fo_down n k i r
   ·rw [if_neg h1,if_neg (fun q=>h1 q.1)];exact Fo.ret _ _
theorem fo_up (n k m:Int):∀ (c:Nat) (i:Int) (s:Rn),Fo s (Pr.upT n k m c i) (Rn.upF n k m c i s)
 | 0,_,s=>Fo.ret _ _
 | c+1,i,s=>by
  unfold Pr.upT Rn.upF
  by_cases ho:s.off=true
  ·rw [if_neg (by rw [ho];decide)];exact Fo.dead ho _ _
  ·rw [if_pos (by simpa using ho)];have h:=fo_read s (keyZ n i);generalize s.read (keyZ n i)=y at h ⊢;obtain ⟨q,r⟩:=y;refine Fo.bind h ?_;dsimp only
   split
   ·exact Fo.ret _ _
   ·exact fo_up n k m c (i+1) r
theorem fo_route (s:Rn) (n k:Int):Fo s (Pr.route n k) (s.route n k):=by
 unfold Pr.route Rn.route;have h:=fo_read s n;generalize s.read n=y at h ⊢;obtain ⟨d,r⟩:=y;refine Fo.bind h ?_;dsimp only;generalize wrap64 (d - 1)=m
 split
 ·exact Fo.ret _ _
 have h:=fo_read r (keyZ n 1);generalize r.read (keyZ n 1)=y at h ⊢;obtain ⟨f,r1⟩:=y;refine Fo.bind h ?_;dsimp only
 split
 ·exact Fo.ret _ _
 split
 ·exact Fo.ret _ _
 have h:=fo_read r1 (keyZ n m);generalize r1.read (keyZ n m)=y at h ⊢;obtain ⟨l,r2⟩:=y;refine Fo.bind h ?_;dsimp only
 split
 ·exact Fo.ret _ _
 generalize Pb.guessZ f l k m=j;have up:∀ r3:Rn,Fo r3 ((Pr.upT n k m (m - (j+1)).toNat (j+1)).bind fun c=>Pr.ret (d,c)) ((d,(Rn.upF n k m (m - (j+1)).toNat (j+1) r3).1),(Rn.upF n k m (m - (j+1)).toNat (j+1) r3).2):=fun r3=>by
  have h:=fo_up n k m (m - (j+1)).toNat (j+1) r3;generalize Rn.upF n k m (m - (j+1)).toNat (j+1) r3=y at h ⊢;obtain ⟨c,r4⟩:=y;exact Fo.bind h (Fo.ret _ _)
 by_cases ho:r2.off=true
 ·rw [if_pos (c:=r2.off=true∨j < 1) (.inl ho)];exact Fo.dead ho _ _
 by_cases hj:j < 1
 ·rw [if_pos hj,if_pos (c:=r2.off=true∨j < 1) (.inr hj)];exact Fo.ret _ _
 rw [if_neg hj,if_neg (c:=r2.off=true∨j < 1) (fun q=>q.elim ho hj)]
 by_cases hj1:1 < j
 ·rw [if_pos hj1,if_pos hj1];have h:=fo_read r2 (keyZ n j);generalize r2.read (keyZ n j)=y at h ⊢;obtain ⟨q,r3⟩:=y;refine Fo.bind h ?_;dsimp only
  split
  ·have h:=fo_down n k (j - 1).toNat r3;generalize Rn.downF n k (j - 1).toNat r3=y at h ⊢;obtain ⟨c,r4⟩:=y;exact Fo.bind h (Fo.ret _ _)
  ·exact up r3
 ·rw [if_neg hj1,if_neg hj1];exact up r2
theorem fo_child (s:Rn) (n k:Int):Fo s (Pr.child n k) (s.child n k):=by
 unfold Pr.child Rn.child;have h:=fo_route s n k;generalize s.route n k=y at h ⊢;obtain ⟨p,r⟩:=y;exact Fo.bind h (Fo.ret _ _)
theorem fo_markK (N f B:Nat) (g:Rn->Int->Int × Rn) (hg:∀ s n,(s.off=false->s.left < B)->Fo s (Pr.mark N f n) (g s n)) (n d:Int):∀ (c:Nat) (i y:Int) (s:Rn),(s.off=false->s.left < B/\s.left < N)->Fo s (Pr.markK (Pr.mark N f) N n d c i y) (Rn.markK g n d c i y s)
 | 0,_,_,s,_=>Fo.ret _ _
 | c+1,i,y,s,hl=>by
  unfold Pr.markK Rn.markK
  by_cases ho:s.off=true
  ·rw [if_pos ho];exact Fo.dead ho _ _
  ·rw [if_neg ho];obtain ⟨l1,l2⟩:=hl (by simpa using ho);have h:=fo_slot N s (childZ n d i) (fun _=>l2);have hle:=h.left;generalize s.slot (childZ n d i)=x at h hle ⊢;obtain ⟨w,r⟩:=x;refine Fo.bind h ?_;dsimp only at hle ⊢
   split
   ·exact fo_markK N f B g hg n d c _ _ r (fun _=>⟨by omega,by omega⟩)
   split
   ·have h:=hg r (ad w) (fun _=>by omega);have hle2:=h.left;generalize g r (ad w)=x at h hle2 ⊢;obtain ⟨z,r2⟩:=x;exact Fo.bind h (fo_markK N f B g hg n d c _ _ r2 (fun _=>⟨by dsimp only at hle2;omega,by dsimp only at hle2;omega⟩))
   split
   ·have h:=fo_read r (ad w);have hle1:=h.left;generalize r.read (ad w)=x at h hle1 ⊢;obtain ⟨q,r1⟩:=x;refine Fo.bind h ?_;dsimp only at hle1 ⊢;have h:=hg r1 (ad q) (fun _=>by omega);have hle2:=h.left;generalize g r1 (ad q)=x at h hle2 ⊢;obtain ⟨z,r2⟩:=x;exact Fo.bind h (fo_markK N f B g hg n d c _ _ r2 (fun _=>⟨by dsimp only at hle2;omega,by dsimp only at hle2;omega⟩))
   ·exact fo_markK N f B g hg n d c _ _ r (fun _=>⟨by omega,by omega⟩)
theorem read_lt {s r:Rn} {a w:Int} (e:s.read a=(w,r)) (h:s.off=false):r.left < s.left:=by
 have:=Rn.ask_left (s:=s) ⟨1,a,0,0,[]⟩ h
 have e2:(s.ask ⟨1,a,0,0,[]⟩).2=r:=congrArg Prod.snd e
 rwa [e2] at this
theorem fo_mark (N:Nat):∀ (f f':Nat) (s:Rn) (n:Int),(s.off=false->s.left < f/\s.left < f'/\s.left < N)->Fo s (Pr.mark N f n) (Rn.markF f' s n)
 | f,0,s,n,h=>by
  by_cases ho:s.off=true
  ·exact Fo.dead ho _ _
  ·exact absurd (h (by simpa using ho)).2.1 (by omega)
 | 0,f' + 1,s,n,h=>by
  by_cases ho:s.off=true
  ·obtain ⟨z,e⟩:∃ z,Rn.markF (f' + 1) s n=(z,s):=by
    have hr:∀ a,s.read a=(0,s):=fun a=>Rn.ask_off _ ho;have hw:∀ a x,s.write a x=s:=fun a x=>congrArg Prod.snd (Rn.ask_off ⟨2,a,x,0,[]⟩ ho);exact ⟨_,Rn.markF_go (hr _) (hw _ _) (hr _) (m:=0) (s4:=s) rfl (hw _ _)⟩
   rw [e];exact Fo.dead ho _ _
  ·exact absurd (h (by simpa using ho)).1 (by omega)
 | f+1,f' + 1,s,n,hl=>by
  unfold Pr.mark;have h:=fo_read s (wrap64 (n+4));have hle:=h.left;obtain ⟨q,r,e⟩:∃ q r,s.read (wrap64 (n+4))=(q,r):=⟨_,_,rfl⟩;rw [e] at h hle;refine Fo.bind h ?_;dsimp only at hle;have lt:r.off=false->r.left < s.left:=fun ro=>read_lt e (by
   cases so:s.off with
   | false=>rfl
   | true=>have:=(h.off so).1;rw [ro] at this;cases this)
  have so':r.off=false->s.off=false:=fun ro=>by
   cases so:s.off with
   | false=>rfl
   | true=>have:=(h.off so).1;rw [ro] at this;cases this
  split
  ·rename_i q0;subst q0;have h2:=fo_write r (wrap64 (n+2)) 1;have hle2:=h2.left;refine Fo.bind h2 ?_;dsimp only at hle2;obtain ⟨d,r3,e3⟩:∃ d r3,(r.write (wrap64 (n+2)) 1).read n=(d,r3):=⟨_,_,rfl⟩;have h3:=fo_read (r.write (wrap64 (n+2)) 1) n;rw [e3] at h3;have hle3:=h3.left;refine Fo.bind h3 ?_;dsimp only at hle3;obtain ⟨y,r4,e4⟩:∃ y r4,Rn.markK (Rn.markF f') n d d.toNat 0 0 r3=(y,r4):=⟨_,_,rfl⟩
   by_cases r3o:r3.off=true
   ·have h4:Fo r3 (Pr.markK (Pr.mark N f) N n d d.toNat 0 0) (Rn.markK (Rn.markF f') n d d.toNat 0 0 r3):=by
     have:Rn.markK (Rn.markF f') n d d.toNat 0 0 r3=(0,r3):=by
      cases d.toNat with
      | zero=>rfl
      | succ c=>unfold Rn.markK;rw [if_pos r3o]
     rw [this];exact Fo.dead r3o _ _
    rw [e4] at h4;have h5:=fo_write r4 (wrap64 (n+4)) (wrap64 (y+1));rw [Rn.markF_go e rfl e3 e4 rfl];exact Fo.bind h4 (Fo.bind h5 (Fo.ret _ _))
   ·have ro:r.off=false:=by
     cases so:r.off with
     | false=>rfl
     | true=>
      have a:=(h2.off so).1
      have:=(h3.off a).1
      exact absurd this r3o
    have b:=hl (so' ro);have b2:=lt ro;have h4:=fo_markK N f s.left (Rn.markF f') (fun s' n' hs'=>fo_mark N f f' s' n' (fun q=>by have:=hs' q;omega)) n d d.toNat 0 0 r3 (fun _=>⟨by omega,by omega⟩);rw [e4] at h4;have h5:=fo_write r4 (wrap64 (n+4)) (wrap64 (y+1));rw [Rn.markF_go e rfl e3 e4 rfl];exact Fo.bind h4 (Fo.bind h5 (Fo.ret _ _))
  ·rename_i q0;rw [Rn.markF_shut e q0];exact Fo.ret _ _
end Sd
namespace Sd
def Lt (s:Rn) (B:Nat):Prop:=s.off=false->s.left < B
theorem Lt.le {s r:Rn} {B:Nat} (h:Lt s B) (hl:r.left<=s.left) (ho:s.off=true->r.off=true):Lt r B:=fun e=>by
 cases so:s.off with
 | true=>rw [ho so] at e;cases e
 | false=>exact Nat.lt_of_le_of_lt hl (h so)
theorem Fo.lt {α:Type} {s:Rn} {p:Pr α} {w:α} {r:Rn} {B:Nat} (h:Fo s p (w,r)) (hl:Lt s B):Lt r B:=hl.le h.left (fun e=>(h.off e).1)
theorem read_Lt {s r:Rn} {a w:Int} {B:Nat} (e:s.read a=(w,r)) (h:Lt s (B+1)):Lt r B:=fun ro=>by
 have hf:=fo_read s a;rw [e] at hf;cases so:s.off with
 | true=>have:=(hf.off so).1;rw [ro] at this;cases this
 | false=>have:=read_lt e so;have:=h so;omega
theorem fo_gatherK (F B:Nat) (g:Rn->Int->Int->Int->Ps->Ps × Rn) (hg:∀ s n f tu xs,Lt s B->Fo s (Pr.gather F n f tu xs) (g s n f tu xs)) (n d f tu:Int):∀ (c:Nat) (i rk:Int) (ys:Ps) (s:Rn),Lt s B->Fo s (Pr.gatherK (Pr.gather F) n d f tu c i rk ys) (Rn.gatherK g n d f tu c i rk ys s)
 | 0,_,_,_,s,_=>Fo.ret _ _
 | c+1,i,rk,ys,s,hl=>by
  have ih:=fo_gatherK F B g hg n d f tu c;unfold Pr.gatherK Rn.gatherK
  by_cases ho:s.off=true
  ·rw [if_pos (c:=tu<=rk∨s.off=true) (.inr ho)];exact Fo.dead ho _ _
  by_cases ht:tu<=rk
  ·rw [if_pos ht,if_pos (c:=tu<=rk∨s.off=true) (.inl ht)];exact Fo.ret _ _
  rw [if_neg ht,if_neg (c:=tu<=rk∨s.off=true) (fun q=>q.elim ht ho)];have h:=fo_peek s (childZ n d i);generalize s.peek (childZ n d i)=x at h ⊢;obtain ⟨w,r⟩:=x;have hr:=h.lt hl;refine Fo.bind h ?_;dsimp only;have sub:∀ (r2:Rn) (b:Int),Lt r2 B->Fo r2 ((Pr.read (b+4)).bind fun q=>if f < wrap64 (rk+wrap64 (q - 1)) then (Pr.gather F b (wrap64 (f - rk)) (wrap64 (tu - rk)) ys).bind fun y=>Pr.gatherK (Pr.gather F) n d f tu c (i+1) (wrap64 (rk+wrap64 (q - 1))) y else Pr.gatherK (Pr.gather F) n d f tu c (i+1) (wrap64 (rk+wrap64 (q - 1))) ys)
    (if f < wrap64 (rk+wrap64 ((r2.read (b+4)).1 - 1)) then Rn.gatherK g n d f tu c (i+1) (wrap64 (rk+wrap64 ((r2.read (b+4)).1 - 1))) (g (r2.read (b+4)).2 b (wrap64 (f - rk)) (wrap64 (tu - rk)) ys).1 (g (r2.read (b+4)).2 b (wrap64 (f - rk)) (wrap64 (tu - rk)) ys).2 else Rn.gatherK g n d f tu c (i+1) (wrap64 (rk+wrap64 ((r2.read (b+4)).1 - 1))) ys (r2.read (b+4)).2):=fun r2 b h2=>by
   have h:=fo_read r2 (b+4);generalize r2.read (b+4)=x at h ⊢;obtain ⟨q,r3⟩:=x;have h3:=h.lt h2;refine Fo.bind h ?_;dsimp only
   split
   ·have h:=hg r3 b (wrap64 (f - rk)) (wrap64 (tu - rk)) ys h3;generalize g r3 b (wrap64 (f - rk)) (wrap64 (tu - rk)) ys=x at h ⊢;obtain ⟨y,r4⟩:=x;exact Fo.bind h (ih _ _ _ r4 (h.lt h3))
   ·exact ih _ _ _ r3 h3
  split
  ·split
   ·have h:=fo_read r (ad w);generalize r.read (ad w)=x at h ⊢;obtain ⟨k,r1⟩:=x;have h1:=h.lt hr;refine Fo.bind h ?_;dsimp only;have h:=fo_read r1 (ad w+1);generalize r1.read (ad w+1)=x at h ⊢;obtain ⟨v,r2⟩:=x;exact Fo.bind h (ih _ _ _ r2 (h.lt h1))
   ·exact ih _ _ _ r hr
  split
  ·exact sub r (ad w) hr
  split
  ·have h:=fo_read r (ad w);generalize r.read (ad w)=x at h ⊢;obtain ⟨b,r1⟩:=x;refine Fo.bind h ?_;dsimp only;exact sub r1 (ad b) (h.lt hr)
  ·exact ih _ _ _ r hr
theorem fo_gather:∀ (F F':Nat) (s:Rn) (n f tu:Int) (xs:Ps),Lt s F->Lt s F'->Fo s (Pr.gather F n f tu xs) (Rn.gatherF F' s n f tu xs)
 | F,0,s,n,f,tu,xs,_,h=>by
  by_cases ho:s.off=true
  ·exact Fo.dead ho _ _
  ·exact absurd (h (by simpa using ho)) (by omega)
 | 0,F' + 1,s,n,f,tu,xs,h,_=>by
  by_cases ho:s.off=true
  ·have e:s.read n=(0,s):=Rn.ask_off _ ho;rw [Rn.gatherF_go e];rw [Rn.gatherK_end (.inr ho)];exact Fo.dead ho _ _
  ·exact absurd (h (by simpa using ho)) (by omega)
 | F+1,F' + 1,s,n,f,tu,xs,h1,h2=>by
  obtain ⟨d,r,e⟩:∃ d r,s.read n=(d,r):=⟨_,_,rfl⟩;rw [Rn.gatherF_go e];unfold Pr.gather;have h:=fo_read s n;rw [e] at h;refine Fo.bind h ?_;have l1:=read_Lt e h1;have l2:=read_Lt e h2;have lm:Lt r (min F F'):=fun q=>by have:=l1 q;have:=l2 q;omega
  exact fo_gatherK F (min F F') (Rn.gatherF F') (fun s' n' f' to' xs' hs'=>fo_gather F F' s' n' f' to' xs' (fun q=>by have:=hs' q;omega) (fun q=>by have:=hs' q;omega)) n d f tu d.toNat 0 0 xs r lm
theorem fo_recM (s:Rn) (k:Int) (ws:List Int):Fo s (Pr.recM k ws) (s.recM k ws):=by
 unfold Pr.recM Rn.recM;have h:=fo_make s ws;generalize s.make ws=x at h ⊢;obtain ⟨a,r⟩:=x;exact Fo.bind h (Fo.ret _ _)
theorem fo_growK (L:Ps->Pr (Int × Bool)) (L':Rn->Ps->(Int × Bool) × Rn) (hL:∀ s ps,Fo s (L ps) (L' s ps)) (ps:Ps) (s:Rn):∀ i:Nat,Fo s (Pr.growK L ps i) (Rn.growK L' ps s i)
 | 0=>Fo.ret _ _
 | i+1=>by
  unfold Pr.growK Rn.growK;have h:=fo_growK L L' hL ps s i;generalize Rn.growK L' ps s i=x at h ⊢;obtain ⟨r,s1⟩:=x;refine Fo.bind h ?_;dsimp only
  split
  ·exact Fo.ret _ _
  ·have h:=hL s1 (partL ps i);generalize L' s1 (partL ps i)=x at h ⊢;obtain ⟨z,s2⟩:=x;exact Fo.bind h (Fo.ret _ _)
theorem fo_grow:∀ (f:Nat) (s:Rn) (ps:Ps),Fo s (Pr.grow f ps) (Rn.growF f s ps)
 | 0,s,_=>Fo.ret _ _
 | f+1,s,ps=>by
  rw [Rn.growF_succ];unfold Pr.grow
  split
  ·exact fo_recM _ _ _
  split
  ·exact fo_recM _ _ _
  have h:=fo_growK (Pr.grow f) (Rn.growF f) (fo_grow f) ps s (Pt.degZ ps.length).toNat;generalize Rn.growK (Rn.growF f) ps s (Pt.degZ ps.length).toNat=x at h ⊢;obtain ⟨r,s1⟩:=x;refine Fo.bind h ?_;dsimp only
  split
  ·exact fo_recM _ _ _
  ·exact Fo.ret _ _
theorem fo_part (N N':Nat) (s:Rn) (a n x d i:Int) (h1:Lt s N) (h2:Lt s N'):Fo s (Pr.part N a n x d i) (s.partR N' a n x d i):=by
 unfold Pr.part Rn.partR;have h:=fo_gather N N' s a (Pt.fromZ n i) (wrap64 (Pt.fromZ n i+Pt.sizeZ n i)) [] h1 h2;generalize Rn.gatherF N' s a (Pt.fromZ n i) (wrap64 (Pt.fromZ n i+Pt.sizeZ n i)) []=y at h ⊢;obtain ⟨ps,r⟩:=y;refine Fo.bind h ?_;dsimp only
 by_cases ho:r.off=true
 ·rw [if_pos (c:=r.off=true) ho];exact Fo.dead ho _ _
 rw [if_neg (c:=r.off=true) ho];have h:=fo_grow (ps.length+1) r ps;generalize Rn.growF (ps.length+1) r ps=y at h ⊢;obtain ⟨w,r1⟩:=y;refine Fo.bind h ?_;dsimp only
 split
 ·exact Fo.ret _ _
 have h:Fo r1 (if 0 < i/\0 < ps.length then Pr.write (keyZ x i) (ps.headD (0,0)).1 else Pr.ret ()) ((),if 0 < i/\0 < ps.length then r1.write (keyZ x i) (ps.headD (0,0)).1 else r1):=by
  split
  ·exact fo_write _ _ _
  ·exact Fo.ret _ _
 refine Fo.bind h ?_;generalize (if 0 < i/\0 < ps.length then r1.write (keyZ x i) (ps.headD (0,0)).1 else r1)=r2;have h:=fo_cas r2 (childZ x d i) 0 w.1;generalize r2.cas (childZ x d i) 0 w.1=y at h ⊢;obtain ⟨c,r3⟩:=y;exact Fo.bind h (Fo.ret _ _)
theorem add_Lt {s r:Rn} {a d w:Int} {B:Nat} (e:s.add a d=(w,r)) (h:Lt s (B+1)):Lt r B:=fun ro=>by
 have hf:=fo_add s a d;rw [e] at hf;cases so:s.off with
 | true=>have:=(hf.off so).1;rw [ro] at this;cases this
 | false=>
  have:=Rn.ask_left (s:=s) ⟨4,a,d,0,[]⟩ so
  have e2:(s.ask ⟨4,a,d,0,[]⟩).2=r:=congrArg Prod.snd e;rw [e2] at this
  have:=h so
  omega
theorem fo_partsA (N N':Nat) (b a n x d:Int):∀ (f f':Nat) (s:Rn),Lt s N->Lt s N'->Lt s f->Lt s f'->Fo s (Pr.partsA N b a n x d f) (Rn.partsA N' b a n x d f' s)
 | f,0,s,_,_,_,h=>by
  by_cases ho:s.off=true
  ·exact Fo.dead ho _ _
  ·exact absurd (h (by simpa using ho)) (by omega)
 | 0,f' + 1,s,_,_,h,_=>by
  by_cases ho:s.off=true
  ·rw [Rn.partsA_off ho];exact Fo.dead ho _ _
  ·exact absurd (h (by simpa using ho)) (by omega)
 | f+1,f' + 1,s,h1,h2,h3,h4=>by
  by_cases ho:s.off=true
  ·rw [Rn.partsA_off ho];exact Fo.dead ho _ _
  unfold Pr.partsA Rn.partsA;rw [if_neg (c:=s.off=true) ho];obtain ⟨q,r,e⟩:∃ q r,s.add (wrap64 (b+4)) 1=(q,r):=⟨_,_,rfl⟩;have h:=fo_add s (wrap64 (b+4)) 1;rw [e] at h ⊢;have l1:=h.lt h1;have l2:=h.lt h2;have l3:=add_Lt e h3;have l4:=add_Lt e h4;refine Fo.bind h ?_;dsimp only
  split
  ·exact Fo.ret _ _
  by_cases ro:r.off=true
  ·rw [if_pos (c:=r.off=true) ro];exact Fo.dead ro _ _
  rw [if_neg (c:=r.off=true) ro];have h:=fo_part N N' r a n x d q l1 l2;generalize r.partR N' a n x d q=y at h ⊢;obtain ⟨p,r1⟩:=y;refine Fo.bind h ?_;dsimp only
  split
  ·exact fo_partsA N N' b a n x d f f' r1 (h.lt l1) (h.lt l2) (h.lt l3) (h.lt l4)
  ·exact Fo.ret _ _
theorem fo_partsB (N N':Nat) (a n x d:Int):∀ (c:Nat) (j:Int) (s:Rn),Lt s N->Lt s N'->Fo s (Pr.partsB N a n x d c j) (Rn.partsB N' a n x d c j s)
 | 0,_,s,_,_=>Fo.ret _ _
 | c+1,j,s,h1,h2=>by
  by_cases ho:s.off=true
  ·rw [Rn.partsB_off ho];exact Fo.dead ho _ _
  unfold Pr.partsB Rn.partsB;rw [if_neg (c:=s.off=true) ho];have h:=fo_read s (childZ x d j);generalize s.read (childZ x d j)=y at h ⊢;obtain ⟨q,r⟩:=y;have l1:=h.lt h1;have l2:=h.lt h2;refine Fo.bind h ?_;dsimp only
  by_cases ro:r.off=true
  ·rw [if_pos (c:=q≠0∨r.off=true) (.inr ro),Rn.partsB_off ro];exact Fo.dead ro _ _
  by_cases q0:q≠0
  ·rw [if_pos q0,if_pos (c:=q≠0∨r.off=true) (.inl q0)];exact fo_partsB N N' a n x d c (j+1) r l1 l2
  rw [if_neg q0,if_neg (c:=q≠0∨r.off=true) (fun e=>e.elim q0 ro)];have h:=fo_part N N' r a n x d j l1 l2;generalize r.partR N' a n x d j=y at h ⊢;obtain ⟨p,r1⟩:=y;refine Fo.bind h ?_;dsimp only
  split
  ·exact fo_partsB N N' a n x d c (j+1) r1 (h.lt l1) (h.lt l2)
  ·exact Fo.ret _ _
theorem fo_parts (N N':Nat) (s:Rn) (b a n x:Int) (h1:Lt s N) (h2:Lt s N'):Fo s (Pr.parts N b a n x) (s.partsR N' b a n x):=by
 unfold Pr.parts Rn.partsR;have h:=fo_partsA N N' b a n x (Pt.degZ n) N N' s h1 h2 h1 h2;generalize Rn.partsA N' b a n x (Pt.degZ n) N' s=y at h ⊢;obtain ⟨p,r⟩:=y;refine Fo.bind h ?_;dsimp only
 split
 ·exact fo_partsB N N' a n x _ _ _ r (h.lt h1) (h.lt h2)
 ·exact Fo.ret _ _
theorem fo_top (N N':Nat) (s:Rn) (a n:Int) (h1:Lt s N) (h2:Lt s N'):Fo s (Pr.top N a n) (s.topR N' a n):=by
 unfold Pr.top Rn.topR
 split
 ·exact fo_recM _ _ _
 split
 ·have h:=fo_gather N N' s a 0 1 [] h1 h2;generalize Rn.gatherF N' s a 0 1 []=y at h ⊢;obtain ⟨ps,r⟩:=y;refine Fo.bind h ?_;dsimp only
  by_cases ro:r.off=true
  ·rw [if_pos (c:=r.off=true) ro];exact Fo.dead ro _ _
  ·rw [if_neg (c:=r.off=true) ro];exact fo_grow _ _ _
 ·by_cases ho:s.off=true
  ·rw [if_pos (c:=s.off=true) ho];exact Fo.dead ho _ _
  ·rw [if_neg (c:=s.off=true) ho];exact fo_grow _ _ _
theorem fo_renewE (N N':Nat) (s:Rn) (b a n w:Int) (h1:Lt s N) (h2:Lt s N'):Fo s (Pr.renewE N b a n w) (Rn.renewE N' b a n w s):=by
 unfold Pr.renewE Rn.renewE;have h:Fo s (if 2<=n then Pr.parts N b a n (ad w) else Pr.ret true) (if 2<=n then s.partsR N' b a n (ad w) else (true,s)):=by
  split
  ·exact fo_parts N N' s b a n (ad w) h1 h2
  ·exact Fo.ret _ _
 generalize (if 2<=n then s.partsR N' b a n (ad w) else (true,s))=y at h ⊢;obtain ⟨q,r⟩:=y;refine Fo.bind h ?_;dsimp only
 split
 ·exact Fo.ret _ _
 have h:=fo_read r (wrap64 (b+1));generalize r.read (wrap64 (b+1))=y at h ⊢;obtain ⟨gd,r1⟩:=y;refine Fo.bind h ?_;dsimp only;have h:=fo_read r1 (wrap64 (b+2));generalize r1.read (wrap64 (b+2))=y at h ⊢;obtain ⟨p,r2⟩:=y;refine Fo.bind h ?_;dsimp only;have h:=fo_dcss r2 gd p (Rf.ofZ 4 b) w;generalize r2.dcss gd p (Rf.ofZ 4 b) w=y at h ⊢;obtain ⟨z,r3⟩:=y;exact Fo.bind h (Fo.ret _ _)
theorem fo_renew (N N':Nat) (s:Rn) (b:Int) (h1:Lt s N) (h2:Lt s N'):Fo s (Pr.renew N b) (s.renewR N' b):=by
 unfold Pr.renew Rn.renewR;have h:=fo_read s b;generalize s.read b=y at h ⊢;obtain ⟨a,r⟩:=y;have l1:=h.lt h1;have l2:=h.lt h2;refine Fo.bind h ?_;dsimp only;have h:=fo_mark N N N' r (ad a) (fun q=>⟨l1 q,l2 q,l1 q⟩);generalize Rn.markF N' r (ad a)=y at h ⊢;obtain ⟨n,r1⟩:=y;have l1:=h.lt l1;have l2:=h.lt l2;refine Fo.bind h ?_;dsimp only;have h:=fo_read r1 (wrap64 (b+3));generalize r1.read (wrap64 (b+3))=y at h ⊢;obtain ⟨w,r2⟩:=y;have l1:=h.lt l1;have l2:=h.lt l2;refine Fo.bind h ?_;dsimp only
 by_cases ro:r2.off=true
 ·rw [if_pos (c:=r2.off=true) ro];exact Fo.dead ro _ _
 rw [if_neg (c:=r2.off=true) ro]
 split
 ·have h:=fo_top N N' r2 (ad a) n l1 l2;generalize r2.topR N' (ad a) n=y at h ⊢;obtain ⟨z,r3⟩:=y;have l1:=h.lt l1;have l2:=h.lt l2;refine Fo.bind h ?_;dsimp only
  split
  ·exact Fo.ret _ _
  have h:=fo_cas r3 (wrap64 (b+3)) 0 z.1;generalize r3.cas (wrap64 (b+3)) 0 z.1=y at h ⊢;obtain ⟨c,r4⟩:=y;have l1:=h.lt l1;have l2:=h.lt l2;refine Fo.bind h ?_;dsimp only;have h:=fo_read r4 (wrap64 (b+3));generalize r4.read (wrap64 (b+3))=y at h ⊢;obtain ⟨y,r5⟩:=y;exact Fo.bind h (fo_renewE N N' r5 b (ad a) n y (h.lt l1) (h.lt l2))
 ·exact fo_renewE N N' r2 b (ad a) n w l1 l2
end Sd
namespace Sd
theorem fo_start (N N':Nat) (s:Rn) (nd sl w:Int) (h1:Lt s N) (h2:Lt s N'):Fo s (Pr.start N nd sl w) (s.startR N' nd sl w):=by
 unfold Pr.start Rn.startR;have h:=fo_make s [w,wrap64 (nd+2),sl,0,0];generalize s.make [w,wrap64 (nd+2),sl,0,0]=y at h ⊢;obtain ⟨A,r⟩:=y;have l1:=h.lt h1;have l2:=h.lt h2;refine Fo.bind h ?_;dsimp only
 split
 ·have h:=fo_dcss r (wrap64 (nd+2)) sl w (Rf.ofZ 4 A);generalize r.dcss (wrap64 (nd+2)) sl w (Rf.ofZ 4 A)=y at h ⊢;obtain ⟨z,r1⟩:=y;refine Fo.bind h ?_;dsimp only
  split
  ·exact fo_renew N N' r1 A (h.lt l1) (h.lt l2)
  ·exact Fo.ret _ _
 ·exact Fo.ret _ _
theorem fo_tallyL:∀ (l:List En) (i:Nat) (f:Int) (s:Rn),Fo s (Pr.tallyL l i f) (Rn.tallyL l i f s)
 | [],_,_,s=>Fo.ret _ _
 | e :: l,i,f,s=>by
  by_cases ho:s.off=true
  ·rw [Rn.tallyL_off ho];exact Fo.dead ho _ _
  unfold Pr.tallyL Rn.tallyL;rw [if_neg (c:=s.off=true) ho];have h:=fo_add s (ad e.wd+3) 1;generalize s.add (ad e.wd+3) 1=y at h ⊢;obtain ⟨c,r⟩:=y;refine Fo.bind h ?_;dsimp only;have h:=fo_read r (ad e.wd+1);generalize r.read (ad e.wd+1)=y at h ⊢;obtain ⟨z,r1⟩:=y;exact Fo.bind h (fo_tallyL l (i+1) _ r1)
theorem fo_tally (N N':Nat) (s:Rn) (es:List En) (h1:Lt s N) (h2:Lt s N'):Fo s (Pr.tally N es) ((),s.tallyR N' es):=by
 unfold Pr.tally Rn.tallyR;have h:=fo_tallyL es 0 (-1) s;generalize Rn.tallyL es 0 (-1) s=y at h ⊢;obtain ⟨p,r⟩:=y;have l1:=h.lt h1;have l2:=h.lt h2;refine Fo.bind h ?_;dsimp only
 by_cases ro:r.off=true
 ·rw [if_neg (c:=0<=p/\r.off=false) (fun q=>by rw [ro] at q;cases q.2)];exact Fo.dead ro _ _
 by_cases hp:0<=p
 ·rw [if_pos hp,if_pos (c:=0<=p/\r.off=false) ⟨hp,by simpa using ro⟩];have h:=fo_start N N' r (es.getD p.toNat ⟨0,0,0⟩).nd (es.getD p.toNat ⟨0,0,0⟩).sl (es.getD p.toNat ⟨0,0,0⟩).wd l1 l2;generalize r.startR N' (es.getD p.toNat ⟨0,0,0⟩).nd (es.getD p.toNat ⟨0,0,0⟩).sl (es.getD p.toNat ⟨0,0,0⟩).wd=y at h ⊢;obtain ⟨b,r1⟩:=y;exact Fo.bind h (Fo.ret _ _)
 ·rw [if_neg hp,if_neg (c:=0<=p/\r.off=false) (fun q=>hp q.1)];exact Fo.ret _ _
theorem fo_fresh (s:Rn) (kind key value w q:Int) (leaf there:Bool):Fo s (Pr.fresh kind key value w q leaf there) (s.freshR kind key value w q leaf there):=by
 unfold Pr.fresh Rn.freshR
 split
 ·exact fo_recM _ _ _
 have h:=fo_recM s 2 [key,value];generalize s.recM 2 [key,value]=y at h ⊢;obtain ⟨y,r⟩:=y;refine Fo.bind h ?_;dsimp only
 split
 ·exact Fo.ret _ _
 ·exact fo_recM _ _ _
theorem fo_layB (N N':Nat) (s:Rn) (kind key value n sl w q:Int) (res:Rs) (leaf found:Bool) (path:List En) (h1:Lt s N) (h2:Lt s N'):Fo s (Pr.layB N kind key value n sl w q res leaf found path) (Rn.layB N' s kind key value n sl w q res leaf found path):=by
 unfold Pr.layB Rn.layB
 by_cases ho:s.off=true
 ·rw [if_pos (c:=s.off=true∨_) (.inl ho)];exact Fo.dead ho _ _
 by_cases hc:(kind=1/\found=true)∨(kind=3/\found=false)
 ·rw [if_pos hc,if_pos (c:=s.off=true∨_) (.inr hc)];exact Fo.ret _ _
 rw [if_neg hc,if_neg (c:=s.off=true∨_) (fun e=>e.elim ho hc)];have h:=fo_fresh s kind key value w q leaf found;generalize s.freshR kind key value w q leaf found=y at h ⊢;obtain ⟨x,r⟩:=y;have l1:=h.lt h1;have l2:=h.lt h2;refine Fo.bind h ?_;dsimp only
 split
 ·exact Fo.ret _ _
 have h:=fo_dcss ({ r with rc:=0 }:Rn) (wrap64 (n+2)) sl w x.1;have h0:Fo r (Pr.dcss (wrap64 (n+2)) sl w x.1) (({ r with rc:=0 }:Rn).dcss (wrap64 (n+2)) sl w x.1):=by
  refine ⟨h.left,h.off,fun e=>?_⟩;obtain ⟨q1,q2⟩:=run_eqv (Pr.dcss (wrap64 (n+2)) sl w x.1) (s:={ r with rc:=0 }) (s':=r) ⟨rfl,rfl,rfl,rfl⟩;rcases h.on e with ⟨a,r0,e1,e2,e3,e4⟩ | ⟨r0,e1,e2,e3,e4⟩
  ·rw [e1] at q1 q2;exact .inl ⟨a,(Pr.run (Pr.dcss (wrap64 (n+2)) sl w x.1) r).2,by rw [Prod.ext_iff];exact ⟨q1.symm,rfl⟩,e2,⟨e3.tape.trans q2.tape,e3.pos.trans q2.pos,e3.off.trans q2.off,e3.nx.trans q2.nx⟩,q2.off.symm.trans e4⟩
  ·rw [e1] at q1 q2;exact .inr ⟨(Pr.run (Pr.dcss (wrap64 (n+2)) sl w x.1) r).2,by rw [Prod.ext_iff];exact ⟨q1.symm,rfl⟩,q2.off.symm.trans e2,e3,e4.trans q2.nx⟩
 generalize ({ r with rc:=0 }:Rn).dcss (wrap64 (n+2)) sl w x.1=y at h0 ⊢;obtain ⟨o,r1⟩:=y;dsimp only;have h3:Fo r (Pr.dcss (wrap64 (n+2)) sl w x.1) (o,if 0 < r1.rc then { r1 with ld:=r1.rc } else r1):=by
  split
  ·exact Fo.note h0 ⟨rfl,rfl,rfl,rfl⟩
  ·exact h0
 generalize (if 0 < r1.rc then { r1 with ld:=r1.rc } else r1)=r2 at h3 ⊢;have l1:=h3.lt l1;have l2:=h3.lt l2;refine Fo.bind h3 ?_
 split
 ·exact Fo.ret _ _
 have h4:Fo r2 (if o=1/\(kind≠2∨found=false) then Pr.tally N path else Pr.ret ()) ((),if o=1/\(kind≠2∨found=false) then r2.tallyR N' path else r2):=by
  split
  ·exact fo_tally N N' r2 path l1 l2
  ·exact Fo.ret _ _
 exact Fo.bind h4 (Fo.ret _ _)
theorem fo_lay (N N':Nat) (s:Rn) (kind key value n sl w:Int) (path:List En) (h1:Lt s N) (h2:Lt s N'):Fo s (Pr.lay N kind key value n sl w path) (Rn.layR N' s kind key value n sl w path):=by
 unfold Pr.lay Rn.layR
 split
 ·have h:=fo_read s (ad w);generalize s.read (ad w)=y at h ⊢;obtain ⟨q,r⟩:=y;have l1:=h.lt h1;have l2:=h.lt h2;refine Fo.bind h ?_;dsimp only
  split
  ·have h:=fo_read r (ad w+1);generalize r.read (ad w+1)=y at h ⊢;obtain ⟨v,r1⟩:=y;exact Fo.bind h (fo_layB N N' r1 kind key value n sl w q _ true true path (h.lt l1) (h.lt l2))
  ·exact fo_layB N N' r kind key value n sl w q _ true false path l1 l2
 ·exact fo_layB N N' s kind key value n sl w 0 _ false false path h1 h2
theorem child_lt {s r:Rn} {n k w:Int} {B:Nat} (e:s.child n k=(w,r)) (h:Lt s (B+1)):Lt r B:=fun ro=>by
 have hf:=fo_child s n k;rw [e] at hf;cases so:s.off with
 | true=>have:=(hf.off so).1;rw [ro] at this;cases this
 | false=>
  have h1:=Rn.route_on s n k;have e2:(s.route n k).2=r:=congrArg Prod.snd e;rw [e2] at h1;have hle:=h1.left;rw [show (s.read n).2=(s.ask ⟨1,n,0,0,[]⟩).2 from rfl] at hle;have h3:=Rn.ask_left (s:=s) ⟨1,n,0,0,[]⟩ so
  have:=h so
  omega
theorem fo_attempt (N N':Nat) (kind key value:Int):∀ (c c':Nat) (n:Int) (es:List En) (s:Rn),Lt s N->Lt s N'->Lt s c->Lt s c'->Fo s (Pr.attempt N kind key value c n es) (Rn.attemptL N' kind key value c' n es s)
 | c,0,n,es,s,_,_,_,h=>by
  by_cases ho:s.off=true
  ·exact Fo.dead ho _ _
  ·exact absurd (h (by simpa using ho)) (by omega)
 | 0,c' + 1,n,es,s,_,_,h,_=>by
  by_cases ho:s.off=true
  ·rw [Rn.attemptL_off ho];exact Fo.dead ho _ _
  ·exact absurd (h (by simpa using ho)) (by omega)
 | c+1,c' + 1,n,es,s,h1,h2,h3,h4=>by
  by_cases ho:s.off=true
  ·rw [Rn.attemptL_off ho];exact Fo.dead ho _ _
  have so:s.off=false:=by simpa using ho
  unfold Pr.attempt;obtain ⟨z,r,e1⟩:∃ z r,s.child n key=(z,r):=⟨_,_,rfl⟩;have h:=fo_child s n key;rw [e1] at h;have l1:=h.lt h1;have l2:=h.lt h2;have l3:=child_lt e1 h3;have l4:=child_lt e1 h4;refine Fo.bind h ?_;obtain ⟨w,u,e2⟩:∃ w u,r.slot z=(w,u):=⟨_,_,rfl⟩;have hs:=fo_slot N r z l1;rw [e2] at hs;have l1:=hs.lt l1;have l2:=hs.lt l2;have l3:=hs.lt l3;have l4:=hs.lt l4;refine Fo.bind hs ?_
  by_cases k4:kd w=4
  ·rw [if_pos k4];obtain ⟨b,v,e3⟩:∃ b v,Rn.renewR N' u (ad w)=(b,v):=⟨_,_,rfl⟩;rw [Rn.attemptL_4 so e1 e2 k4 e3];have hr:=fo_renew N N' u (ad w) l1 l2;rw [e3] at hr;refine Fo.bind hr ?_;cases b with
   | true=>exact Fo.ret _ _
   | false=>exact Fo.ret _ _
  rw [if_neg k4]
  by_cases k3:kd w=3
  ·rw [if_pos k3,Rn.attemptL_3 so e1 e2 k3];exact fo_attempt N N' kind key value c c' (ad w) _ u l1 l2 l3 l4
  ·rw [if_neg k3,Rn.attemptL_0 so e1 e2 k4 k3];exact fo_lay N N' u kind key value n z w es l1 l2
theorem run_left {α:Type} (p:Pr α):∀ (s:Rn),(p.run s).2.left<=s.left:=by
 induction p with
 | ret a=>intro s;exact Nat.le_refl _
 | ask q k ih=>
  intro s;rw [run_ask]
  split
  ·exact Nat.le_refl _
  ·split
   ·refine Nat.le_trans (ih _ _) ?_;unfold Rn.left;dsimp only;omega
   ·rename_i h1 h2;unfold Rn.left;dsimp only;rw [if_pos rfl];omega
 | stop=>intro s;exact Nat.le_refl _
theorem Fo.less {α:Type} {s r:Rn} {q:Ak} {k:Int->Pr α} {w:α} {B:Nat} (h:Fo s (.ask q k) (w,r)) (hl:Lt s (B+1)):Lt r B:=fun ro=>by
 cases so:s.off with
 | true=>have:=(h.off so).1;rw [ro] at this;cases this
 | false=>
  rcases h.on so with ⟨a,r0,e1,_,e3,_⟩ | ⟨r0,_,_,e3,_⟩
  ·rw [run_ask,if_neg (by rw [so];decide)] at e1
   split at e1
   ·rename_i hp;have h1:=run_left (k (s.tape.getD s.pos 0)) { s with pos:=s.pos+1 };rw [e1] at h1;have el:r.left=r0.left:=by unfold Rn.left;rw [e3.tape,e3.pos,e3.off]
    have h2:({ s with pos:=s.pos+1 }:Rn).left < s.left:=by unfold Rn.left;dsimp only;omega
    have:=hl so
    have h1':r0.left<=({ s with pos:=s.pos+1 }:Rn).left:=h1;omega
   ·cases e1
  ·rw [ro] at e3;cases e3
theorem fo_change (N N':Nat) (kind key value:Int):∀ (c c':Nat) (s:Rn),Lt s N->Lt s N'->Lt s c->Lt s c'->Fo s (Pr.change N kind key value c) (Rn.changeL N' kind key value c' s)
 | c,0,s,_,_,_,h=>by
  by_cases ho:s.off=true
  ·exact Fo.dead ho _ _
  ·exact absurd (h (by simpa using ho)) (by omega)
 | 0,c' + 1,s,_,_,h,_=>by
  by_cases ho:s.off=true
  ·rw [Rn.changeL_off ho];exact Fo.dead ho _ _
  ·exact absurd (h (by simpa using ho)) (by omega)
 | c+1,c' + 1,s,h1,h2,h3,h4=>by
  by_cases ho:s.off=true
  ·rw [Rn.changeL_off ho];exact Fo.dead ho _ _
  have so:s.off=false:=by simpa using ho
  unfold Pr.change;have h:=fo_attempt N N' kind key value N (s.left+1) 1 [] s h1 h2 h1 (fun _=>by omega);obtain ⟨⟨x,b⟩,t,e⟩:∃ x t,Rn.attemptL N' kind key value (s.left+1) 1 [] s=(x,t):=⟨_,_,rfl⟩;rw [e] at h;obtain ⟨N0,rfl⟩:∃ N0,N=N0+1:=⟨N - 1,by have:=h1 so;omega⟩;have hq:∃ q k,Pr.attempt (N0+1) kind key value (N0+1) 1 []=.ask q k:=⟨_,_,rfl⟩;obtain ⟨q,k,ek⟩:=hq;rw [ek] at h ⊢;have l3:=h.less h3;have l4:=h.less h4;cases b with
  | true=>
   rw [Rn.changeL_end so e];exact Fo.bind h (Fo.ret _ _)
  | false=>
   rw [Rn.changeL_go so e];exact Fo.bind h (fo_change (N0+1) N' kind key value c c' t (h.lt h1) (h.lt h2) l3 l4)
end Sd
namespace Sd
def Rd (s:Rn):Prop:=s.off=true->s.nx.k=1
theorem rd_read {s:Rn} (h:Rd s) (a:Int):Rd (s.read a).2:=by
 unfold Rn.read Rn.ask
 split
 ·exact h
 ·split
  ·rename_i h1 _;intro e;exact absurd e h1
  ·intro _;rfl
theorem rd_peek {s:Rn} (h:Rd s) (a:Int):Rd (s.peek a).2:=by
 unfold Rn.peek;dsimp only
 split
 ·split
  ·exact rd_read (rd_read (rd_read h _) _) _
  ·exact rd_read (rd_read (rd_read h _) _) _
 ·exact rd_read h _
theorem rd_down (n k:Int):∀ (i:Nat) (s:Rn),Rd s->Rd (Rn.downF n k i s).2
 | 0,_,h=>h
 | i+1,s,h=>by
  unfold Rn.downF
  split
  ·split
   ·exact rd_read h _
   ·exact rd_down n k i _ (rd_read h _)
  ·exact h
theorem rd_up (n k m:Int):∀ (c:Nat) (i:Int) (s:Rn),Rd s->Rd (Rn.upF n k m c i s).2
 | 0,_,_,h=>h
 | c+1,i,s,h=>by
  unfold Rn.upF
  split
  ·split
   ·exact rd_read h _
   ·exact rd_up n k m c _ _ (rd_read h _)
  ·exact h
theorem rd_route {s:Rn} (h:Rd s) (n k:Int):Rd (s.route n k).2:=by
 unfold Rn.route;dsimp only
 split
 ·exact rd_read h _
 split
 ·exact rd_read (rd_read h _) _
 split
 ·exact rd_read (rd_read h _) _
 split
 ·exact rd_read (rd_read (rd_read h _) _) _
 split
 ·exact rd_read (rd_read (rd_read h _) _) _
 split
 ·split
  ·exact rd_down _ _ _ _ (rd_read (rd_read (rd_read (rd_read h _) _) _) _)
  ·exact rd_up _ _ _ _ _ _ (rd_read (rd_read (rd_read (rd_read h _) _) _) _)
 ·exact rd_up _ _ _ _ _ _ (rd_read (rd_read (rd_read h _) _) _)
theorem rd_child {s:Rn} (h:Rd s) (n k:Int):Rd (s.child n k).2:=rd_route h n k
theorem rd_seekL (B:Nat):∀ (s:Rn) (n k:Int),s.left<=B->Rd s->Rd (s.seekL n k).2:=by
 induction B with
 | zero=>
  intro s n k hl h
  have:s.off=true:=by
   cases ho:s.off with
   | true=>rfl
   | false=>unfold Rn.left at hl;rw [ho] at hl;simp at hl
  rw [Rn.seekL_off this];exact h
 | succ B ih=>
  intro s n k hl h
  by_cases ho:s.off=true
  ·rw [Rn.seekL_off ho];exact h
  have so:s.off=false:=by simpa using ho
  obtain ⟨c,t,e1⟩:∃ c t,s.child n k=(c,t):=⟨_,_,rfl⟩;obtain ⟨w,u,e2⟩:∃ w u,t.peek c=(w,u):=⟨_,_,rfl⟩;have ht:Rd t:=by have:=rd_child h n k;rwa [e1] at this
  have hu:Rd u:=by have:=rd_peek ht c;rwa [e2] at this
  have lt:t.off=false->t.left < s.left:=child_lt (B:=s.left) e1 (fun _=>by omega);have fp:=fo_peek t c;rw [e2] at fp;rw [Rn.seekL,dif_pos so];simp only [e1,e2]
  split
  ·split
   ·exact rd_read (rd_read hu _) _
   ·exact rd_read hu _
  split
  ·by_cases uo:u.off=true
   ·rw [Rn.seekL_off uo];exact hu
   ·refine ih u (ad w) k ?_ hu
    have:=fp.lt (B:=s.left) (fun q=>lt q) (by simpa using uo)
    omega
  split
  ·have hr:=rd_read hu (ad w);have fr:=fo_read u (ad w);obtain ⟨q,v,e3⟩:∃ q v,u.read (ad w)=(q,v):=⟨_,_,rfl⟩;rw [e3] at fr hr ⊢
   by_cases vo:v.off=true
   ·rw [Rn.seekL_off vo];exact hr
   ·refine ih v (ad q) k ?_ hr
    have:=fr.lt (fp.lt (B:=s.left) (fun q=>lt q)) (by simpa using vo)
    omega
  ·exact hu
theorem rd_again:∀ (L:List (Int × Int)) (s:Rn),Rd s->Rd (Rn.againL L s).2
 | [],_,h=>h
 | p :: L,s,h=>by
  unfold Rn.againL
  split
  ·exact h
  split
  ·exact rd_again L _ (rd_peek h _)
  ·exact rd_peek h _
theorem rd_meets {s:Rn} (h:Rd s) (k:Wk) (a:Int):Rd (s.meetsW k a).2:=by
 unfold Rn.meetsW
 split
 ·exact rd_read h _
 split
 ·exact rd_read (rd_read h _) _
 ·exact rd_read h _
theorem rd_thrL (T:Rn->Wk->Int->(Bool × Wk) × Rn) (hT:∀ s k n,Rd s->Rd (T s k n).2) (n d:Int):∀ (c:Nat) (i:Int) (k:Wk) (s:Rn),Rd s->Rd (Rn.thrL T n d c i k s).2
 | 0,_,_,_,h=>h
 | c+1,i,k,s,h=>by
  have hb:∀ (s:Rn) (k:Wk) (w:Int),Rd s->Rd (Rn.belowW T s k w).2:=fun s k w h=>by
   unfold Rn.belowW
   split
   ·exact rd_meets h _ _
   split
   ·exact hT _ _ _ h
   split
   ·exact hT _ _ _ (rd_read h _)
   ·exact h
  unfold Rn.thrL
  split
  ·exact h
  dsimp only
  split
  ·exact rd_peek h _
  have h1:=hb (s.peek (childZ n d i)).2 { k with ss:=k.ss++[(childZ n d i,(s.peek (childZ n d i)).1)] } (s.peek (childZ n d i)).1 (rd_peek h _)
  split
  ·exact h1
  split
  ·split
   ·exact h1
   split
   ·exact rd_read h1 _
   ·exact rd_thrL T hT n d c _ _ _ (rd_read h1 _)
  split
  ·exact h1
  split
  ·exact rd_read h1 _
  ·exact rd_thrL T hT n d c _ _ _ (rd_read h1 _)
theorem rd_thr:∀ (f:Nat) (s:Rn) (k:Wk) (n:Int),Rd s->Rd (Rn.thrF f s k n).2
 | 0,_,_,_,h=>h
 | f+1,_,_,_,h=>rd_thrL _ (fun _ _ _ h=>rd_thr f _ _ _ h) _ _ _ _ _ _ (rd_route h _ _)
theorem rd_query (N:Nat) (kind key value:Int):∀ (c:Nat) (s:Rn),Rd s->Rd (Rn.queryL N kind key value c s).2
 | 0,_,h=>h
 | c+1,s,h=>by
  unfold Rn.queryL
  split
  ·exact h
  dsimp only;have h1:=rd_thr N s (Wk.asked kind key value) 1 h
  split
  ·exact h1
  split
  ·exact rd_again _ _ h1
  ·exact rd_query N kind key value c _ (rd_again _ _ h1)
theorem rd_queryR (N:Nat) {s:Rn} (h:Rd s) (kind key value budget:Int):Rd (s.queryR N kind key value budget).2:=by
 unfold Rn.queryR;dsimp only
 split
 ·have:=rd_seekL s.left s 1 key (Nat.le_refl _) h
  have e:s.seek key=s.seekL 1 key:=rfl;rw [e]
  split
  ·exact this
  ·exact this
 ·exact rd_query N _ _ _ _ _ h
def Pr.res {α:Type}:Pr α->List Int->Pr α
 | p,[]=>p
 | .ask _ k,v :: T=>(k v).res T
 | _,_ :: _=>.stop
theorem res_nil {α:Type} (p:Pr α):p.res []=p:=by cases p <;> rfl
theorem res_one {α:Type} (T:List Int):∀ (p:Pr α) (q:Ak) (k:Int->Pr α) (v:Int),p.res T=.ask q k->p.res (T++[v])=k v:=by
 induction T with
 | nil=>
  intro p q k v h;cases p with
  | ask q' k'=>
   rw [res_nil] at h;cases h;exact res_nil _
  | ret a=>rw [res_nil] at h;cases h
  | stop=>rw [res_nil] at h;cases h
 | cons x T ih=>
  intro p q k v h;cases p with
  | ask q' k'=>exact ih (k' x) q k v h
  | ret a=>have h':(Pr.stop:Pr α)=.ask q k:=h;cases h'
  | stop=>have h':(Pr.stop:Pr α)=.ask q k:=h;cases h'
theorem run_none {α:Type} (p:Pr α):∀ (s r:Rn),s.off=false->p.run s=(none,r)->r.off=true->∃ q k,p.res (s.tape.drop s.pos)=.ask q k/\r.nx=q:=by
 induction p with
 | ret a=>intro s r _ h _;cases h
 | ask q k ih=>
  intro s r so h ro;rw [run_ask,if_neg (by rw [so];decide)] at h
  split at h
  ·rename_i hp;obtain ⟨q',k',e1,e2⟩:=ih (s.tape.getD s.pos 0) { s with pos:=s.pos+1 } r so h ro;refine ⟨q',k',?_,e2⟩;rw [List.drop_eq_getElem_cons hp];have eg:s.tape.getD s.pos 0=s.tape[s.pos]:=by rw [List.getD_eq_getElem?_getD,List.getElem?_eq_getElem hp];rfl
   rw [eg] at e1;exact e1
  ·rename_i hp;cases h;refine ⟨q,k,?_,rfl⟩;rw [List.drop_of_length_le (by omega)];exact res_nil _
 | stop=>
  intro s r so h ro;cases h;rw [so] at ro;cases ro
theorem Fo.next {α:Type} {s:Rn} {p:Pr α} {x:α × Rn} (h:Fo s p x) (so:s.off=false) (xo:x.2.off=true):∃ q k,p.res (s.tape.drop s.pos)=.ask q k/\x.2.nx=q:=by
 rcases h.on so with ⟨a,r,_,_,e3,e4⟩ | ⟨r,e1,e2,_,e4⟩
 ·rw [e3.off,e4] at xo;cases xo
 ·obtain ⟨q,k,q1,q2⟩:=run_none p s r so e1 e2;exact ⟨q,k,q1,e4.trans q2⟩
theorem Safe.rl {α:Type} {t:Nat} {p:Pr α} {m m':Mst} {g g':Gh} (r:Rl t m g m' g') (h:Safe t p (fun _ _ _=>True) m g):Safe t p (fun _ _ _=>True) m' g':=by
 cases p with
 | ret a=>trivial
 | ask q k=>intro m1 g1 r1;exact h m1 g1 (r.trans r1)
 | stop=>trivial
end Sd
namespace Sd
variable {m m':Mst} {g g':Gh}
def N0:Nat:=100000
def FOk (j:Nat) (p:Fp) (m:Mst) (g:Gh):Prop:=I64 p.key/\I64 p.val/\(p.done=false->p.play.2.off=true/\(p.k<=3->Safe j ((Pr.change N0 p.k p.key p.val N0).res p.tape) (fun _ _ _=>True) m g))
theorem play_settle (p:Fp):p.settle.play=p.play/\p.settle.tape=p.tape/\p.settle.k=p.k/\p.settle.key=p.key/\p.settle.val=p.val:=by
 unfold Fp.settle
 split <;> exact ⟨rfl,rfl,rfl,rfl,rfl⟩
theorem done_settle {p:Fp} (h:p.settle.done=false):p.play.2.off=true:=by
 cases e:p.play.2.off with
 | true=>rfl
 | false=>
  unfold Fp.settle at h;rw [if_neg (by rw [e];decide)] at h;cases h
theorem FOk.rl {j:Nat} {p:Fp} (r:Rl j m g m' g') (h:FOk j p m g):FOk j p m' g':=⟨h.1,h.2.1,fun e=>⟨(h.2.2 e).1,fun k=>((h.2.2 e).2 k).rl r⟩⟩
theorem frame_step {j:Nat} {p:Fp} (hI:Inv m g) (h:FOk j p m g) (hl:p.tape.length<=50000):∃ g',Gt j m g (p.step m).2 g'/\FOk j (p.step m).1 (p.step m).2 g':=by
 unfold Fp.step
 by_cases hd:p.done=true
 ·rw [if_pos hd];exact ⟨g,Gt.same ⟨hI,Ex.refl m g⟩,h⟩
 rw [if_neg hd];obtain ⟨ik,iv,h⟩:=h;obtain ⟨ho,hs⟩:=h (by simpa using hd);obtain ⟨ps1,ps2,ps3,ps4,ps5⟩:=play_settle { p with tape:=p.tape++[(m.doA p.play.2.nx).1] }
 by_cases k3:p.k<=3
 ·have hs:=hs k3;have e:p.play.2=(Rn.changeL (p.tape.length+2) p.k p.key p.val (p.tape.length+2) (Rn.start p.tape)).2:=by
   unfold Fp.play;rw [if_pos k3]
  have sl:=Rn.start_left p.tape;have fo:=fo_change N0 (p.tape.length+2) p.k p.key p.val N0 (p.tape.length+2) (Rn.start p.tape) (fun _=>by unfold N0;omega) (fun _=>by omega) (fun _=>by unfold N0;omega) (fun _=>by omega);obtain ⟨q,k,e1,e2⟩:=fo.next rfl (by rw [<- e];exact ho);have e1':(Pr.change N0 p.k p.key p.val N0).res p.tape=.ask q k:=e1;rw [e1'] at hs;obtain ⟨g2,G,hs2⟩:=hs m g (Rl.refl hI);rw [<- e] at e2;rw [<- e2] at G hs2;refine ⟨g2,G,by rw [ps4];exact ik,by rw [ps5];exact iv,fun d=>⟨by rw [ps1];exact done_settle d,fun _=>?_⟩⟩;rw [ps2,ps3,ps4,ps5];show Safe j ((Pr.change N0 p.k p.key p.val N0).res (p.tape++[(m.doA p.play.2.nx).1])) _ _ _;rw [res_one _ _ _ _ _ e1'];exact hs2
 ·have e:p.play=(Rn.start p.tape).queryR (p.tape.length+2) p.k p.key p.val p.b:=by
   unfold Fp.play;rw [if_neg k3]
  have rd:=rd_queryR (p.tape.length+2) (s:=Rn.start p.tape) (fun q=>by cases q) p.k p.key p.val p.b;rw [<- e] at rd;have k1:=rd ho;have em:(m.doA p.play.2.nx).2=m.touch p.play.2.nx.a:=by unfold Mst.doA;rw [if_pos k1]
  have st:=hI.quiet (m':=(m.doA p.play.2.nx).2) (by rw [em];exact Mst.touch_xs m _) (by rw [em];exact size_touch m _);refine ⟨g,Gt.same st,by rw [ps4];exact ik,by rw [ps5];exact iv,fun d=>⟨by rw [ps1];exact done_settle d,fun q=>absurd (by rw [ps3] at q;exact q) k3⟩⟩
def TOk (j:Nat) (q:Tp) (m:Mst) (g:Gh):Prop:=∀ p,q.fr=some p->FOk j p m g
def WI (ix:Ixp):Prop:=∃ g,Inv ix.m g/\∀ j q,ix.ts[j]? = some q->TOk j q ix.m g
theorem wi_pick {ix:Ixp} {c:Nat} (h:WI ix) (hg:ix.Gd c) (hc:c<=50000) (j:Nat):WI (ix.pickZ j).2:=by
 obtain ⟨g,hI,hT⟩:=h;unfold Ixp.pickZ
 split
 ·exact ⟨g,hI,hT⟩
 rename_i q hq
 split
 ·exact ⟨g,hI,hT⟩
 rename_i p hp
 split
 ·obtain ⟨g2,G,hF⟩:=frame_step hI (hT j q hq p hp) (Nat.le_trans (hg.tape j q p hq hp) hc);dsimp only;have em:(q.step p ix.m).2.2=(p.step ix.m).2:=by unfold Tp.step;split <;> rfl
  have ef:(q.step p ix.m).2.1.fr=some (p.step ix.m).1:=by unfold Tp.step;split <;> rfl
  have km:∀ (c i:Nat) (ix:Ixp),(Ixp.takesL c i ix).m=ix.m:=fun c=>by
   induction c with
   | zero=>intro i ix;rfl
   | succ c ih=>
    intro i ix;rw [Ixp.takesL,ih];unfold Ixp.takes1
    split
    ·split <;> rfl
    ·rfl
  refine ⟨g2,?_,fun i q' hq' p' hp'=>?_⟩
  ·show Inv (Ixp.takesL _ _ _).m g2;rw [km];show Inv (q.step p ix.m).2.2 g2;rw [em];exact G.inv
  ·show FOk i p' (Ixp.takesL _ _ _).m g2;rw [km];show FOk i p' (q.step p ix.m).2.2 g2;rw [em];obtain ⟨q1,h1,h2,_⟩:=Ixp.takesL_ts _ _ _ i q' hq';have h1':(ix.ts.set j (q.step p ix.m).2.1)[i]? = some q1:=h1;rw [List.getElem?_set] at h1'
   split at h1'
   ·rename_i e
    split at h1'
    ·cases h1';rw [h2,ef] at hp';cases hp';rw [<- e];exact hF
    ·cases h1'
   ·rename_i e;rw [h2] at hp';exact (hT i q1 h1' p' hp').rl (G.rl e)
 ·exact ⟨g,hI,hT⟩
theorem wi_do (j:Nat):∀ (n:Nat) {ix:Ixp} {c:Nat},WI ix->ix.Gd c->c+n<=50000->WI (Ixp.doZ j n ix)
 | 0,_,_,h,_,_=>h
 | n+1,ix,c,h,hg,hc=>by
  unfold Ixp.doZ
  split
  ·exact wi_pick h hg (by omega) j
  ·exact wi_do j n (wi_pick h hg (by omega) j) (Ixp.pickZ_gd hg j) (by omega)
theorem wi_invoke {ix:Ixp} (h:WI ix) (j:Nat) {k key val:Int} (ik:I64 key) (iv:I64 val):WI (ix.invokeZ j k key val):=by
 obtain ⟨g,hI,hT⟩:=h;unfold Ixp.invokeZ
 split
 ·exact ⟨g,hI,hT⟩
 rename_i q hq
 split
 ·exact ⟨g,hI,hT⟩
 refine ⟨g,hI,fun i q' hq' p' hp'=>?_⟩;have hq2:(ix.ts.set j { q.begin k key val with no:=ix.inv })[i]? = some q':=hq';rw [List.getElem?_set] at hq2
 split at hq2
 ·split at hq2
  ·cases hq2;have e:(some (Fp.make k key val q.bud).settle:Option Fp)=some p':=hp';cases e;obtain ⟨ps1,ps2,ps3,ps4,ps5⟩:=play_settle (Fp.make k key val q.bud);refine ⟨by rw [ps4];exact ik,by rw [ps5];exact iv,fun d=>⟨by rw [ps1];exact done_settle d,fun _=>?_⟩⟩;rw [ps2,ps3,ps4,ps5];show Safe i ((Pr.change N0 k key val N0).res []) _ _ _;rw [res_nil];exact Safe.mono (fun _ _ _ _=>trivial) (change_safe N0 (by unfold N0;omega) ik iv N0 ix.m g hI)
  ·cases hq2
 ·exact hT i q' hq2 p' hp'
theorem wi_act {ix:Ixp} {c:Nat} (h:WI ix) (hg:ix.Gd c) (hc:c+24<=50000) (z:Int):WI (ix.actZ z):=by
 unfold Ixp.actZ;dsimp only
 split
 ·exact wi_do _ _ h hg (by omega)
 ·have b:=op_bounds ((z.tdiv 3).tdiv 3);exact wi_invoke h _ (i64_1 (by omega) (by omega)) (i64_1 (by omega) (by omega))
theorem wi_acts:∀ (l:List Int) {ix:Ixp} {c:Nat},WI ix->ix.Gd c->c+24 * l.length<=50000->WI (l.foldl Ixp.actZ ix)
 | [],_,_,h,_,_=>h
 | z :: l,ix,c,h,hg,hc=>by
  rw [List.length_cons] at hc;exact wi_acts l (wi_act h hg (by omega) z) (Ixp.actZ_gd hg z) (by omega)
theorem wi_world (cells:Int) (keys l:List Int) (h:WI (world0 cells keys)):WI (worldZ cells keys l):=by
 have hl:(l.take 70).length<=70:=by rw [List.length_take];omega
 exact wi_acts (l.take 70) h (world0_gd cells keys).1 (by omega)
end Sd
namespace Sd
variable {m m':Mst} {g g':Gh}
def g0:Gh where
 ro:=fun c=>if c=1 then some (.fix 1) else if c=2 then some (.fix 0) else if c=3 then some .shut else if c=4 then some .chg else if c=5 then some .sum else if c=6 then some .slot else if c=7 then some (.fix 0) else none
 rb:=fun c=>if 1<=c/\c<=6 then 1 else 7
 kn:=fun c=>if c=7 then 1 else 3
 hm:=fun b=>if b=7 then some 6 else none
 ow:=fun _=>0
 lt:=fun _=>false
 pl:=fun _=>false
theorem g0_inner:IsInner g0 1 1 0:=by
 refine ⟨rfl,⟨by omega,fun j h0 h1=>?_⟩,by omega,rfl,rfl,rfl,rfl,rfl,fun i h1 h2=>absurd h2 (by omega),fun i h1 h2=>?_⟩
 ·have:j=0∨j=1∨j=2∨j=3∨j=4∨j=5:=by omega
  rcases this with rfl | rfl | rfl | rfl | rfl | rfl <;> exact ⟨rfl,by decide⟩
 ·have:i=0:=by omega
  subst this;rfl
theorem g0_one {a d n:Int} (h:IsInner g0 a d n):a=1/\d=1:=by
 have e:=h.rb (j:=0) (by omega) (by have:=h.pos;omega);rw [Int.add_zero] at e;have e2:(if 1<=a/\a<=6 then (1:Int) else 7)=a:=e;have k:(if a=7 then (1:Int) else 3)=3:=h.kn;have a1:a=1:=by
  split at e2
  ·omega
  ·rw [if_pos e2.symm] at k;omega
 subst a1;exact ⟨rfl,(h.deg g0_inner).1⟩
theorem begun_inv {s:Mst} (h1:7<=s.size) (h2:s.size<=16384):Inv (begun s) g0:=by
 have lk:∀ c,(begun s).look c=if c=1 then 1 else if c=6 then 57 else 0:=fun c=>by
  by_cases hu:1<=c/\c<=7
  ·have:c=1∨c=2∨c=3∨c=4∨c=5∨c=6∨c=7:=by omega
   rcases this with rfl | rfl | rfl | rfl | rfl | rfl | rfl <;> rfl
  ·rw [Mst.look_none (by
    cases e:(begun s).used c with
    | false=>rfl
    | true=>have:=Mst.used_iff.1 e;unfold begun at this;simp at this;omega),if_neg (by omega),if_neg (by omega)]
 have top:=Iv.top g0_inner;refine ⟨⟨?_,by show 7<=65536;omega⟩,⟨h2,by show (7:Int)<=s.size;omega⟩,fun c=>?_,fun c=>?_,⟨g0_inner,by rw [lk];decide⟩,fun a lo hi d n _ hI i h0 h1=>?_,fun a d n i hI h0 h1=>?_,fun b c e=>?_,rfl,fun b c e=>?_,fun b c e=>?_,(fun D e=>by cases e),(fun D e=>by cases e)⟩
 ·intro z hz;unfold begun at hz;simp only [List.mem_cons,List.not_mem_nil,or_false] at hz;rcases hz with rfl | rfl | rfl | rfl | rfl | rfl | rfl <;> exact i64_1 (by omega) (by omega)
 ·rw [Mst.used_iff];show _↔1<=c/\c<=7
  by_cases hu:1<=c/\c<=7
  ·have:c=1∨c=2∨c=3∨c=4∨c=5∨c=6∨c=7:=by omega
   refine ⟨fun _=>hu,fun _=>?_⟩;rcases this with rfl | rfl | rfl | rfl | rfl | rfl | rfl <;> decide
  ·refine ⟨fun e=>absurd ?_ e,fun e=>absurd e hu⟩;show (if c=1 then _ else _)=none;rw [if_neg (by omega),if_neg (by omega),if_neg (by omega),if_neg (by omega),if_neg (by omega),if_neg (by omega),if_neg (by omega)]
 ·by_cases hu:1<=c/\c<=7
  ·have:c=1∨c=2∨c=3∨c=4∨c=5∨c=6∨c=7:=by omega
   rcases this with rfl | rfl | rfl | rfl | rfl | rfl | rfl
   ·exact COk.fix rfl (by rw [lk];rfl)
   ·exact COk.fix rfl (by rw [lk];rfl)
   ·exact COk.zero (.inl rfl) (by rw [lk];rfl)
   ·exact COk.free (.inl rfl)
   ·exact COk.zero (.inr (.inl rfl)) (by rw [lk];rfl)
   ·refine COk.child rfl ?_;rw [lk];exact .inl ⟨by decide,⟨by decide,⟨by decide,fun j h0 h1=>by
     have:j=0:=by omega
     subst this;exact ⟨rfl,by decide⟩⟩,rfl⟩,by decide⟩
   ·exact COk.fix rfl (by rw [lk];rfl)
  ·have:g0.ro c=none:=by
    show (if c=1 then _ else _)=none;rw [if_neg (by omega),if_neg (by omega),if_neg (by omega),if_neg (by omega),if_neg (by omega),if_neg (by omega),if_neg (by omega)]
   unfold COk;rw [this];trivial
 ·have:=(g0_one hI).2
  omega
 ·have:=(g0_one hI).2
  omega
 ·have e':(if b=7 then some (6:Int) else none)=some c:=e
  split at e'
  ·rename_i eb;cases e';exact ⟨1,1,0,0,⟨g0_inner,by omega,by omega,by omega⟩,.inl ⟨_,_,top⟩⟩
  ·cases e'
 ·have e':(if b=7 then some (6:Int) else none)=some c:=e
  split at e'
  ·rename_i eb;subst eb;decide
  ·cases e'
 ·have e':(if b=7 then some (6:Int) else none)=some c:=e
  split at e'
  ·rename_i eb;subst eb;decide
  ·cases e'
def Pr.exec {α:Type}:Pr α->Mst->Option (α × Mst)
 | .ret a,m=>some (a,m)
 | .ask q k,m=>(k (m.doA q).1).exec (m.doA q).2
 | .stop,_=>none
theorem exec_bind {α β:Type} (p:Pr α) (f:α->Pr β):∀ m:Mst,(p.bind f).exec m=(p.exec m).bind fun x=>(f x.1).exec x.2:=by
 induction p with
 | ret a=>intro m;rfl
 | ask q k ih=>intro m;exact ih _ _
 | stop=>intro m;rfl
theorem Safe.exec {α:Type} {t:Nat} {p:Pr α} {Q:α->Mst->Gh->Prop}:∀ {m:Mst} {g:Gh} {a:α} {m':Mst},Safe t p Q m g->Inv m g->p.exec m=some (a,m')->∃ g',Q a m' g':=by
 induction p with
 | ret a=>intro m g a' m' h _ e;cases e;exact ⟨g,h⟩
 | ask q k ih=>
  intro m g a' m' h hI e;obtain ⟨g2,G,h2⟩:=h m g (Rl.refl hI);exact ih _ h2 G.inv e
 | stop=>intro m g a' m' _ _ e;cases e
theorem exec_rec (k:Int) (ws:List Int) (m:Mst) (hf:m.fits ws.length=true):(Pr.recM k ws).exec m=some (((recS m k ws).1,true),(recS m k ws).2):=by
 unfold Pr.recM;rw [exec_bind];show (some (m.next ws,m.make ws)).bind _=_;have e:m.next ws=(m.xs.length:Int)+1:=by unfold Mst.next;rw [if_pos hf]
 show some ((Rf.ofZ k (m.next ws),decide (0 < m.next ws)),m.make ws)=some ((Rf.ofZ k (m.next ws),true),m.make ws);rw [decide_eq_true (by rw [e];omega)]
theorem make_len {m:Mst} {ws:List Int} (hf:m.fits ws.length=true):(m.make ws).xs.length=m.xs.length+ws.length/\(m.make ws).size=m.size:=by
 unfold Mst.make;rw [if_pos hf];exact ⟨by simp,rfl⟩
theorem fits_of {m:Mst} {n:Nat} (h0:0 < n) (h:(m.xs.length:Int)+n<=m.size):m.fits n=true:=by
 unfold Mst.fits;simp only [Bool.and_eq_true,decide_eq_true_eq];exact ⟨h0,h⟩
def ExC (f:Nat):Prop:=∀ (ps:Ps) (m:Mst),ps.length < f->ps.length<=16384->(m.xs.length:Int)+Pt.celZ ps.length<=m.size->
 (Pr.grow f ps).exec m=some (((layF f m ps).1,true),(layF f m ps).2)/\((layF f m ps).2.xs.length:Int)=m.xs.length+Pt.celZ ps.length/\(layF f m ps).2.size=m.size
theorem exec_kids (f:Nat) (ih:ExC f) {ps:Ps} (hp:0 < Pt.degZ ps.length) (hl:ps.length < f+1) (m:Mst) (hr:(m.xs.length:Int)+Pt.celZ ps.length<=m.size):∀ i:Nat,(i:Int)<=Pt.degZ ps.length->
  (Pr.growK (Pr.grow f) ps i).exec m=some ((true,(kidF (layF f) ps m i).1),(kidF (layF f) ps m i).2)/\((kidF (layF f) ps m i).2.xs.length:Int)=m.xs.length+Pt.csZ ps.length i/\(kidF (layF f) ps m i).2.size=m.size
 | 0,_=>⟨rfl,by rw [show ((0:Nat):Int)=0 from rfl,Pt.cs_zero hp];show (m.xs.length:Int)=m.xs.length+0;omega,rfl⟩
 | i+1,hi=>by
  obtain ⟨e1,e2,e3⟩:=exec_kids f ih hp hl m hr i (by omega);have pl:=partL_len (ps:=ps) (i:=(i:Int)) (by omega) (by omega);have pb:=part_in (n:=(ps.length:Int)) (i:=(i:Int)) (by omega) (by omega);have sb:=Pt.size_bound (n:=(ps.length:Int)) (i:=(i:Int)) (by omega) (by omega);have cs:=Pt.cs_step (n:=(ps.length:Int)) (i:=(i:Int)) (by omega) (by omega);have dp:=Pt.deg_pos hp;have ce:=Pt.cs_end hp;have mono:Pt.csZ ps.length ((i:Int)+1)<=Pt.csZ ps.length (Pt.degZ ps.length):=by
   have:∀ k:Nat,(i:Int)+1+k<=Pt.degZ ps.length->Pt.csZ ps.length ((i:Int)+1)<=Pt.csZ ps.length ((i:Int)+1+k):=by
    intro k
    induction k with
    | zero=>intro _;simp
    | succ k ihk=>
     intro hk;have a1:=ihk (by omega);have a2:=Pt.cs_step (n:=(ps.length:Int)) (i:=(i:Int)+1+k) (by omega) (by omega);have a3:=Pt.cel_nat (Pt.sizeZ ps.length ((i:Int)+1+k));rw [show (i:Int)+1+((k+1:Nat):Int)=(i:Int)+1+k+1 by omega,a2];omega
   have q:=this (Pt.degZ ps.length - (i+1)).toNat (by omega)
   rwa [show (i:Int)+1+((Pt.degZ ps.length - (i+1)).toNat:Int)=Pt.degZ ps.length by omega] at q
  have dn:=Pt.deg_nat (ps.length:Int);obtain ⟨h1,h2,h3⟩:=ih (partL ps i) (kidF (layF f) ps m i).2 (by omega) (by omega) (by rw [e2,e3,pl];omega);unfold Pr.growK;rw [exec_bind,e1];show (if true=false then _ else _:Pr (Bool × List Int)).exec _=_/\_;rw [if_neg (by decide),exec_bind,h1];refine ⟨rfl,?_,?_⟩
  ·show ((layF f (kidF (layF f) ps m i).2 (partL ps i)).2.xs.length:Int)=_;rw [h2,e2,pl,show (((i+1:Nat):Int))=(i:Int)+1 by omega,cs];omega
  ·show (layF f (kidF (layF f) ps m i).2 (partL ps i)).2.size=_;rw [h3,e3]
theorem exec_grow:∀ f,ExC f
 | 0=>fun _ _ h=>absurd h (by omega)
 | f+1=>fun ps m hl hm hr=>by
  have ih:=exec_grow f;unfold Pr.grow layF
  by_cases h0:ps.length=0
  ·rw [if_pos h0,if_pos h0];have c:=Pt.cel_few (n:=(ps.length:Int)) (by omega) (by omega);have hf:m.fits [(0:Int)].length=true:=fits_of (by simp) (by simp;omega);refine ⟨exec_rec 1 [0] m hf,?_,?_⟩
   ·show ((m.make [0]).xs.length:Int)=_;rw [(make_len hf).1];simp;omega
   ·exact (make_len hf).2
  rw [if_neg h0,if_neg h0]
  by_cases h1:ps.length=1
  ·rw [if_pos h1,if_pos h1];have c:=Pt.cel_few (n:=(ps.length:Int)) (by omega) (by omega);have hf:m.fits [(ps.headD (0,0)).1,(ps.headD (0,0)).2].length=true:=fits_of (by simp) (by simp;omega);refine ⟨exec_rec 2 _ m hf,?_,?_⟩
   ·show ((m.make _).xs.length:Int)=_;rw [(make_len hf).1];simp;omega
   ·exact (make_len hf).2
  rw [if_neg h1,if_neg h1];have db:=Pt.deg_bound (n:=(ps.length:Int)) (by omega) (by omega);have hp:0 < Pt.degZ ps.length:=by omega
  obtain ⟨e1,e2,e3⟩:=exec_kids f ih hp hl m hr (Pt.degZ ps.length).toNat (by omega);rw [show (((Pt.degZ ps.length).toNat:Nat):Int)=Pt.degZ ps.length by omega] at e2;have ce:=Pt.cs_end hp;rw [exec_bind,e1];generalize hk:kidF (layF f) ps m (Pt.degZ ps.length).toNat=K at *;have hK:K.1.length=(Pt.degZ ps.length).toNat:=by rw [<- hk];exact kidF_len _ _ _ _
  have li:(innerL ps.length (lowL ps (Pt.degZ ps.length).toNat) K.1).length=2 * (Pt.degZ ps.length).toNat+4:=by
   rw [innerL_length,low_len,hK];omega
  have hf:K.2.fits (innerL ps.length (lowL ps (Pt.degZ ps.length).toNat) K.1).length=true:=fits_of (by omega) (by rw [li,e2,e3];omega);show (if true=true then _ else _:Pr (Int × Bool)).exec K.2=_/\_;rw [if_pos rfl];refine ⟨exec_rec 3 _ K.2 hf,?_,?_⟩
  ·show ((K.2.make _).xs.length:Int)=_;rw [(make_len hf).1,li,Int.natCast_add,e2];omega
  ·show (K.2.make _).size=_;rw [(make_len hf).2,e3]
theorem make_keeps (s:Mst) (ws:List Int) (c:Int) (hc:s.used c=true):(s.make ws).used c=true/\(s.make ws).look c=s.look c:=by
 obtain ⟨j,rfl,hj⟩:=Mst.used_nat hc;have h1:s.look ((j:Int)+1)=s.xs[j]:=Mst.look_succ (List.getElem?_eq_getElem hj)
 by_cases hf:s.fits ws.length=true
 ·have e:(s.make ws).xs=s.xs++ws:=by unfold Mst.make;rw [if_pos hf]
  refine ⟨?_,?_⟩
  ·rw [Mst.used_iff,e,List.length_append];omega
  ·rw [h1];refine Mst.look_succ ?_;rw [e,List.getElem?_append_left hj,List.getElem?_eq_getElem hj]
 ·have e:(s.make ws).xs=s.xs:=by unfold Mst.make;rw [if_neg hf]
  exact ⟨(used_same e _).trans hc,look_same e _⟩
theorem kidF_keeps {L:Mst->List (Int × Int)->Int × Mst} (hL:∀ s ps c,s.used c=true->(L s ps).2.used c=true/\(L s ps).2.look c=s.look c) (ps:List (Int × Int)) (s:Mst) (c:Int) (hc:s.used c=true):∀ n,(kidF L ps s n).2.used c=true/\(kidF L ps s n).2.look c=s.look c
 | 0=>⟨hc,rfl⟩
 | n+1=>by
  obtain ⟨u,e⟩:=kidF_keeps hL ps s c hc n;obtain ⟨u2,e2⟩:=hL _ (partL ps (n:Int)) c u;exact ⟨u2,e2.trans e⟩
theorem layF_keeps:∀ (f:Nat) (s:Mst) (ps:List (Int × Int)) (c:Int),s.used c=true->(layF f s ps).2.used c=true/\(layF f s ps).2.look c=s.look c
 | 0,s,_,_,hc=>⟨hc,rfl⟩
 | f+1,s,ps,c,hc=>by
  rw [layF_succ]
  split
  ·exact make_keeps s _ c hc
  ·split
   ·exact make_keeps s _ c hc
   ·obtain ⟨u,e⟩:=kidF_keeps (fun s ps c h=>layF_keeps f s ps c h) ps s c hc (Pt.degZ ps.length).toNat;obtain ⟨u2,e2⟩:=make_keeps (kidF (layF f) ps s (Pt.degZ ps.length).toNat).2 (innerL ps.length (lowL ps (Pt.degZ ps.length).toNat) (kidF (layF f) ps s (Pt.degZ ps.length).toNat).1) c u;exact ⟨u2,e2.trans e⟩
theorem load_inv {m:Mst} {ps:Ps} (h:Inv m g) (h6:kd (m.look 6)≠5) (hu:Up ps) (hi:∀ p ∈ ps,I64 p.1/\I64 p.2) (hb:(buildS m ps).1.2=true):∃ g',Inv ((buildS m ps).2.write 6 (buildS m ps).1.1) g':=by
 unfold buildS at hb ⊢
 split at hb
 ·rename_i hc;rw [if_pos hc];have hl:ps.length<=16384:=by
   have q:=hc.1;unfold ascB at q;exact (of_decide_eq_true q).1
  obtain ⟨e1,_,_⟩:=exec_grow (ps.length+1) ps m (by omega) hl (by omega);obtain ⟨g1,hG⟩:=Safe.exec (grow_safe 0 (ps.length+1) m g ps h hu hi hl) h e1;obtain ⟨pv,_,iw⟩:=hG.ok rfl;have hI:=hG.rl.inv;have ht:=hI.top;have hs:Slot g1 6 1 1 0 0:=⟨ht.1,by omega,by omega,by omega⟩;obtain ⟨g2,G,ok⟩:=link_prv hI pv hs (Iv.top ht.1) (fun p hp=>by
   have:=(hi p hp).1
   unfold gl gu;rw [if_pos rfl,if_neg (by omega)];exact this)
  have hs2:=G.ex.sl hs;have hv2:=G.ex.iv (Iv.top ht.1);have u0:m.used 6=true:=(h.used 6).1 (by rw [(show Slot g 6 1 1 0 0 from ⟨h.top.1,by omega,by omega,by omega⟩).ro];exact (fun e=>by cases e));have u6:(layF (ps.length+1) m ps).2.used 6=true:=(G.inv.used 6).1 (by rw [hs2.ro];exact (fun e=>by cases e));have hp:=write_put G.inv.ok u6 (x:=(layF (ps.length+1) m ps).1) iw;have st:=step_slot G.inv hs2 hv2 ok.ne.1 (fun w hz=>by
   exfalso;obtain ⟨a,d,n,i,hs',q,_⟩:=hz;obtain ⟨rfl,_⟩:=hs'.fn hs2;have c:=G.inv.cell (1+2);unfold COk at c;rw [hs'.1.c2,hs'.1.rb (j:=2) (by omega) (by have:=hs'.1.pos;omega)] at c;rcases c with c | ⟨_,c,_⟩
   ·exact q c
   ·exact c rfl) (fun e=>by omega) hp (fun _ _ _ k _=>(h6 (by rw [<- (layF_keeps (ps.length+1) m ps 6 u0).2];exact k)).elim) (fun hE=>.inl (hE.okW (fun _ _ e=>hE.back ⟨_,_,hs2.siv hv2⟩ e) ok))
  exact ⟨g2,st.1⟩
 ·cases hb
theorem wi_world0 (cells:Int) (keys:List Int):WI (world0 cells keys):=by
 have hn:150<=150+cells % 650/\150+cells % 650<=800:=by omega
 have hB:Inv (begun (Mst.new (150+cells % 650))) g0:=begun_inv (by show 7<=150+cells % 650;omega) (by show 150+cells % 650<=16384;omega);have idle:∀ (j:Nat) (q:Tp),(List.replicate 3 (Tp.idle 2))[j]? = some q->q.fr=none:=fun j q e=>by
  have:=(List.mem_replicate.1 (List.mem_of_getElem? e)).2
  rw [this];rfl
 have wi:∀ (ix:Ixp) (g:Gh),Inv ix.m g->ix.ts=List.replicate 3 (Tp.idle 2)->WI ix:=fun ix g h e=>⟨g,h,fun j q hq p hp=>by
  rw [e] at hq;rw [idle j q hq] at hp;cases hp⟩
 unfold world0 Ixp.loadZ
 split
 ·exact wi _ g0 hB rfl
 split
 ·exact wi _ g0 hB rfl
 split
 ·exact wi _ g0 hB rfl
 rename_i ha _;have hu:Up (Mp.pairsP (keys.take 20)):=by
  have q:ascB (Mp.pairsP (keys.take 20))=true:=by
   cases e:ascB (Mp.pairsP (keys.take 20)) with
   | true=>rfl
   | false=>exact absurd e ha
  unfold ascB at q;have h1:=(of_decide_eq_true q).2;rw [List.pairwise_map] at h1;exact h1
 have hi:=Mp.pairsP_i64 (keys.take 20)
 split
 ·refine wi _ g0 ?_ rfl;rename_i hb;show Inv (buildS _ _).2 g0
  have:(buildS (begun (Mst.new (150+cells % 650))) (Mp.pairsP (keys.take 20))).2=begun (Mst.new (150+cells % 650)):=by
   have hb':(buildS (begun (Mst.new (150+cells % 650))) (Mp.pairsP (keys.take 20))).1.2=false:=hb;unfold buildS at hb' ⊢
   split
   ·rename_i hc;rw [if_pos hc] at hb';cases hb'
   ·rfl
  show Inv (buildS (begun (Mst.new (150+cells % 650))) (Mp.pairsP (keys.take 20))).2 g0;rw [this];exact hB
 ·rename_i hb;obtain ⟨g',h'⟩:=load_inv hB (by show kd 57≠5;decide) hu hi (by
   cases e:(buildS (begun (Mst.new (150+cells % 650))) (Mp.pairsP (keys.take 20))).1.2 with
   | true=>rfl
   | false=>exact absurd e hb)
  exact wi _ g' h' rfl
end Sd
namespace Sd
variable {m m':Mst} {g g':Gh}
def Sl (m:Mst) (g:Gh) (p:Int × Int):Prop:=m.look p.2≠0/\(p.1≠1->Compl m g p.1)/\∃ d n i lo hi,Slot g p.2 p.1 d n i/\Iv g p.1 lo hi
theorem own_okI (h:Inv m g) {f:Nat} (ih:∀ (c x lo hi:Int),SIv g c lo hi->OkW m g c x->∀ p ∈ ownF m f x,Sl m g p) {c x lo hi:Int} (sv:SIv g c lo hi) (q:OkI m g c x):∀ p ∈ ownF m (f+1) x,Sl m g p:=by
 intro p hp;have k3:=q.1;obtain ⟨d,n,N,d2⟩:=q.nd sv;have e0:tgt m x=x:=by rw [tgt,if_neg (by rw [k3];decide)]
 have e1:m.look (ad x)=d:=h.fix N.inn.c0;have ar:=ad_range x;have ea:((atN m x:Nat):Int)=ad x:=by unfold atN;rw [e0];omega
 have ed:((degN m x:Nat):Int)=d:=by unfold degN;rw [e0,e1];omega
 rw [ownF_succ,List.mem_flatMap] at hp;obtain ⟨y,hy,hp⟩:=hp;rw [slotsL,if_pos (by rw [e0];exact k3),List.mem_map] at hy;obtain ⟨i,hi',rfl⟩:=hy;rw [List.mem_range] at hi';have ec:childS (atN m x) (degN m x) i=ad x+4+d+i:=by unfold childS;rw [ea,ed]
 rw [ec] at hp;have sl:Slot g (ad x+4+d+i) (ad x) d n i:=⟨N.inn,by omega,by omega,rfl⟩;have c0:=N.cm d n i N.inn (by omega) (by omega);unfold oneO at hp;rw [ea] at hp;rcases List.mem_cons.1 hp with e | e
 ·rw [e];exact ⟨c0,fun _=>N.cm,d,n,i,lo,hi,sl,N.iv⟩
 ·exact ih _ _ _ _ (sl.siv N.iv) (h.logic sl c0).1 p e
theorem own_okW (h:Inv m g):∀ (f:Nat) (c x lo hi:Int),SIv g c lo hi->OkW m g c x->∀ p ∈ ownF m f x,Sl m g p
 | 0,_,_,_,_,_,_,p,hp=>by cases hp
 | f+1,c,x,lo,hi,sv,q,p,hp=>by
  have ih:=own_okW h f;rcases q with ⟨k,_⟩ | ⟨k,_⟩ | q | ⟨k,t,gd,hr,_,q⟩
  ·rw [ownF_none (by rw [tgt,if_neg (by rw [k];decide),k];decide)] at hp;cases hp
  ·rw [ownF_none (by rw [tgt,if_neg (by rw [k];decide),k];decide)] at hp;cases hp
  ·exact own_okI h ih sv q p hp
  ·have e0:tgt m x=t:=by rw [tgt,if_pos k];exact h.fix hr.c0
   have k3:kd (tgt m x)=3:=by rw [e0];exact q.1
   rw [<- ownF_tgt k3,e0] at hp;exact own_okI h ih sv q p hp
theorem own_sl (h:Inv m g) {p:Int × Int} (hp:p ∈ ownL m):Sl m g p:=by
 have sl:Slot g 6 1 1 0 0:=⟨h.top.1,by omega,by omega,by omega⟩;rcases List.mem_cons.1 hp with e | e
 ·rw [e];exact ⟨h.top.2,fun e=>absurd rfl e,1,0,0,_,_,sl,Iv.top h.top.1⟩
 ·exact own_okW h _ 6 _ _ _ (sl.siv (Iv.top h.top.1)) (h.logic sl h.top.2).1 p e
end Sd
section
open Go.Shelf
variable {X:Nat->Prop}
structure YOk (m:Mst) (ix:Ixp) (c:Nat):Prop where
 xs:m.xs=ix.m.xs
 size:m.size=ix.m.size
 wi:Sd.WI ix
 gd:ix.Gd c
 len:ix.ts.length=3
 big:7<=ix.m.xs.length
theorem YOk.sound {m:Mst} {ix:Ixp} {c:Nat} (h:YOk m ix c):soundB ix.m=true:=by
 obtain ⟨g,hI,_⟩:=h.wi;exact hI.sound
theorem YOk.ok {m:Mst} {ix:Ixp} {c:Nat} (h:YOk m ix c):ix.m.ok/\m.ok:=by
 obtain ⟨g,hI,_⟩:=h.wi;exact ⟨hI.ok,by rw [h.xs];exact hI.ok.1,by rw [h.xs];exact hI.ok.2⟩
def Yd (X:Nat->Prop) (w W:World) (y:Nat) (m:Mst) (ix:Ixp):Prop:=∃ b x mb tb v mv tv lv pz,YdIs X W w.heap.size y b x mb tb v mv tv lv pz m ix/\Kept w W
theorem acts_gd:∀ (L:List Int) {ix:Ixp} {c:Nat},ix.Gd c->(L.foldl Ixp.actZ ix).Gd (c+24 * L.length)
 | [],_,_,h=>h
 | z :: L,ix,c,h=>(acts_gd L (Ixp.actZ_gd h z)).le (by simp;omega)
theorem worldZ_gd (cells:Int) (keys l:List Int):(worldZ cells keys l).Gd 1680:=by
 have:=acts_gd (l.take 70) (world0_gd cells keys).1
 exact this.le (by rw [List.length_take];omega)
set_option maxRecDepth 100000 in
set_option maxHeartbeats 2000000 in
theorem ynew_r (w:World) (cells:Int) (a1:Option Addr) (keys:List Int) (c1:Nat) (a2:Option Addr) (l:List Int) (c2:Nat) (hr1:Reads w a1 keys) (hc1:keys.length<=c1) (hm1:c1<=maxLen) (hr2:Reads w a2 l) (hc2:l.length<=c2) (hm2:c2<=maxLen) (hi:∀ z ∈ l,I64 z) :
  Calls Tryz.prog 9 #[.int .i64 cells,.slice a1 keys.length c1,.slice a2 l.length c2] w fun e W=>∃ y m ix,e=.returned (.pointer (some ⟨y,0,none⟩))/\Yd NoP w W y m ix/\YOk m ix 1680:=by
 have WR:=world_r w cells a1 keys c1 a2 l c2 hr1 hc1 hm1 hr2 hc2 hm2 hi;obtain ⟨M1,hM1⟩:∃ M,keys.length=M:=⟨_,rfl⟩;obtain ⟨M2,hM2⟩:∃ M,l.length=M:=⟨_,rfl⟩;rw [hM1,hM2] at WR;rw [hM1,hM2];have HW:=gh WR;clear WR hr1 hc1 hm1 hr2 hc2 hm2 hi hM1 hM2;go_enter Tryz.func9,Tryz.ntmps9;go_wp2_with (fail);refine HW.o.mono ?_;rintro e W1 ⟨x,rfl,mb,tb,wr⟩;obtain ⟨mv,tv,lv,pz,I⟩:=wr.ixs;have cx:=I.cells.1.1;have hk:=gh wr.kept;have hln:=gh wr.len;have HI:=gh I;have GZ:=gh (worldZ_grew cells keys l);clear wr I HW;go_wp2_with (fail);refine (copy_c W1 _ mb mv _ HI.o.mem (by have:=GZ.o.1;omega)).mono ?_;rintro e W2 ⟨bm,rfl,⟨v,hm⟩,k2⟩;obtain ⟨V,hV⟩:∃ V,W2.alloc (.cells #[.pointer (some ⟨bm,0,none⟩),.pointer (some ⟨x,0,none⟩)] 39)=V:=⟨_,rfl⟩;have HM:=gh hm;have K2:=gh k2;have HV:=gh hV;clear hm k2 cx hV;go_wp2;rw [HV.o];go_ret;have kV:Kept W2 V:=by rw [<- HV.o];exact Td.alloc _ _ _
 have bV:V.heap[W2.heap.size]? = some (.cells #[.pointer (some ⟨bm,0,none⟩),.pointer (some ⟨x,0,none⟩)] 39):=by rw [<- HV.o];exact heap_new _ _
 have I2:=HI.o.kept K2.o;have KW:=hk.o.trans K2.o;have IP:IxIs (fun k=>v.ownBlock=some k∨NoP k) W2 w.heap.size x (worldZ cells keys l) mb mv tb tv lv pz:=I2.other (fun k e=>e.elim (fun e=>⟨(HM.o.row.typed k e).elim (fun c hc=>⟨c,2,hc,.inl rfl⟩),HI.o.lts (HM.o.lt k (.inr e)).1⟩) (fun e=>e.elim));refine ⟨W2.heap.size,cp (worldZ cells keys l).m,worldZ cells keys l,rfl,⟨bm,x,mb,tb,v,mv,tv,lv,pz,⟨KW.size,bV,(HM.o.low hk.o.size).kept kV,IP.kept kV,fun _ e=>e.elim⟩,KW.trans kV⟩,cp_xs HI.o.mem.room,cp_size _,?_,?_,hln.o,GZ.o.2⟩
 ·exact Sd.wi_world cells keys l (Sd.wi_world0 cells keys)
 ·exact worldZ_gd cells keys l
theorem same_y (w W:World) (y:Nat) (m:Mst) (ix:Ixp) (c:Nat) (h:Yd X w W y m ix) (o:YOk m ix c):Calls Tryz.prog 15 #[.pointer (some ⟨y,0,none⟩)] W fun e W'=>e=.returned (.bool true)/\Kept W W':=by
 obtain ⟨b,x,mb,tb,v,mv,tv,lv,pz,h,hk⟩:=h;have HK:=gh hk;have H:=gh h;have hb:=h.box;have c2:=h.ixs.cells.1.1;obtain ⟨V,hV⟩:∃ V,W.drew=V:=⟨_,rfl⟩;have kV:Kept W V:=by rw [<- hV];exact Kept.drew _
 have x0:∀ u:Wd (Kept W),u.w.cell? ⟨y,0,none⟩=some (.pointer (some ⟨b,0,none⟩)):=fun u=>u.ok.cell (by simp [World.cell?,hb]) id;have x1:∀ u:Wd (Kept W),u.w.cell? ⟨y,1,none⟩=some (.pointer (some ⟨x,0,none⟩)):=fun u=>u.ok.cell (by simp [World.cell?,hb]) id;have x2:∀ u:Wd (Kept W),u.w.cell? ⟨x,3,none⟩=some (.pointer (some ⟨mb,0,none⟩)):=fun u=>u.ok.cell c2 id;have L:=like_c w V b m ⟨⟨v,h.pm.kept kV⟩,hk.trans kV⟩ _ mb mv ix.m (h.ixs.kept kV).mem o.xs.symm o.size.symm;have HL:=gh L;have HV:=gh hV;have KV:=gh kV;clear h hk hb c2 hV kV L;go_enter Tryz.func15,Tryz.ntmps15;go_wp2_with (fail);refine region_wide [0,1,2,3,4,5,6,7,8,9,10,11,12] (Kept W) (by kernel_rfl) (by kernel_rfl) (by rw [HV.o];exact KV.o) (fun _=>?_);rw [HV.o]
 repeat (refine pq rfl rfl ?_;go_big_quiet_step (fail);refine wpQuiet_nil ?_)
 refine pl rfl rfl ?_;gi_wp2_with (fail);refine ⟨trivial,?_⟩;refine (callsIn_wide.2 HL.o).mono ?_;rintro e W2 ⟨rfl,k2⟩;have K2:=gh (KV.o.trans k2);clear k2 x0 x1 x2;gi_wp2_with (fail);refine ⟨Wd.mem K2.o,?_⟩
 repeat (refine pq rfl rfl ?_;go_big_quiet_step (fail);refine wpQuiet_nil ?_)
 refine perm_done ?_;go_wp2;go_ret;exact ⟨rfl,K2.o⟩
end
section
open Go.Shelf
variable {X:Nat->Prop}
theorem make_ok {m:Mst} (h:m.ok) {ws:List Int} (hw:∀ z ∈ ws,I64 z) (ht:m.size<=65536):(m.make ws).ok:=by
 unfold Mst.make
 split
 ·rename_i hf;unfold Mst.fits at hf;simp at hf;refine ⟨fun z hz=>?_,by show (m.xs++ws).length<=65536;rw [List.length_append];omega⟩;rcases List.mem_append.1 hz with h1 | h1
  ·exact h.1 z h1
  ·exact hw z h1
 ·exact h
end
section
set_option maxRecDepth 20000
theorem Mst.look_i64 {s:Mst} (h:∀ z ∈ s.xs,I64 z) (a:Int):I64 (s.look a):=by
 unfold Mst.look
 split
 ·rename_i hu;cases hx:s.xs[(a - 1).toNat]? with
  | none=>rw [List.getD_eq_getElem?_getD,hx];exact ⟨by decide,by decide⟩
  | some z=>
   rw [List.getD_eq_getElem?_getD,hx];exact h z (List.mem_of_getElem? hx)
 ·exact ⟨by decide,by decide⟩
def allI (l:List Int):Bool:=l.all fun z=>decide (-9223372036854775808<=z) && decide (z<=9223372036854775807)
theorem allI_ok {s:Mst} (h:allI s.xs=true):∀ a,I64 (s.look a):=Mst.look_i64 (fun z hz=>by
 have:=List.all_eq_true.1 h z hz
 simp only [Bool.and_eq_true,decide_eq_true_eq] at this;exact this)
end
section
theorem region_quiet {P:Program} {l:List Oper} {Q:Exit->Act->World->Prop} {id:Nat} {a:Act} {w:World} (S:World->Prop) (hm:P.follows .mixedOrders=true) (hB:Region.lexB .any l.toArray=true) (hS:S w.drew)
  (h:Nonempty (Wd S)->wpQuiet P l.toArray (fun w'=>∃ x:Wd S,w'=x.w) (fun a'=>∀ x:Wd S,Q .normal a' x.w) l a):(Code.region id l.toArray true).wp P Q a w:=by
 refine wp_region_quiet (C:=fun w'=>∃ x:Wd S,w'=x.w) hm hB (Wd.mem hS) ?_
 have:=h ⟨⟨_,hS⟩⟩
 have e:∀ (l:List Oper) (a:Act),wpQuiet P l.toArray (fun w'=>∃ x:Wd S,w'=x.w) (fun a'=>∀ x:Wd S,Q .normal a' x.w) l a->True:=fun _ _ _=>trivial;have q:(fun a'=>∀ x:Wd S,Q .normal a' x.w)=(fun a'=>∀ w',(∃ x:Wd S,w'=x.w)->Q .normal a' w'):=by
  funext a';exact propext ⟨fun h w' ⟨x,e⟩=>by rw [e];exact h x,fun h x=>h _ ⟨x,rfl⟩⟩
 rw [q] at this;simpa using this
end
section
open Go.Shelf
variable {X:Nat->Prop}
def Yx (X:Nat->Prop) (w W:World) (y b x mb:Nat) (m:Mst) (ix:Ixp):Prop:=∃ tb v mv tv lv pz,YdIs X W w.heap.size y b x mb tb v mv tv lv pz m ix/\Kept w W
theorem Yd.sees {w W:World} {y:Nat} {m:Mst} {ix:Ixp} (h:Yd X w W y m ix):∃ b x mb,Yx X w W y b x mb m ix:=by
 obtain ⟨b,x,mb,tb,v,mv,tv,lv,pz,h⟩:=h;exact ⟨b,x,mb,tb,v,mv,tv,lv,pz,h⟩
namespace Yx
variable {w W W':World} {y b x mb:Nat} {m m':Mst} {ix:Ixp}
theorem yd (h:Yx X w W y b x mb m ix):Yd X w W y m ix:=by
 obtain ⟨tb,v,mv,tv,lv,pz,h⟩:=h;exact ⟨b,x,mb,tb,v,mv,tv,lv,pz,h⟩
theorem since (h:Yx X w W y b x mb m ix):Kept w W:=by
 obtain ⟨tb,v,mv,tv,lv,pz,_,h⟩:=h;exact h
theorem kept (h:Yx X w W y b x mb m ix) (k:Kept W W'):Yx X w W' y b x mb m ix:=by
 obtain ⟨tb,v,mv,tv,lv,pz,h1,h2⟩:=h;exact ⟨tb,v,mv,tv,lv,pz,h1.kept k,h2.trans k⟩
theorem cells (h:Yx X w W y b x mb m ix):W.cell? ⟨y,0,none⟩=some (.pointer (some ⟨b,0,none⟩))/\W.cell? ⟨y,1,none⟩=some (.pointer (some ⟨x,0,none⟩))/\W.cell? ⟨x,3,none⟩=some (.pointer (some ⟨mb,0,none⟩)):=by
 obtain ⟨tb,v,mv,tv,lv,pz,h1,_⟩:=h;have hb:=h1.box;exact ⟨by simp [World.cell?,hb],by simp [World.cell?,hb],h1.ixs.cells.1.1⟩
theorem dm (h:Yx X w W y b x mb m ix):DM W mb ix.m:=by
 obtain ⟨tb,v,mv,tv,lv,pz,h1,_⟩:=h;exact ⟨_,mv,ix.m,rfl,h1.ixs.mem⟩
end Yx
theorem YOk.le {m:Mst} {ix:Ixp} {c c':Nat} (h:YOk m ix c) (hc:c<=c'):YOk m ix c':=⟨h.xs,h.size,h.wi,h.gd.le hc,h.len,h.big⟩
end
section
open Go.Shelf
variable {X:Nat->Prop}
set_option maxRecDepth 20000
def pickY (ix:Ixp) (n:Int):Ixp:=((ix.invokeZ (n % (ix.ts.length:Int)).toNat (opK (n.tdiv 3)) (opKey (n.tdiv 3)) (opVal (n.tdiv 3))).pickZ (n % (ix.ts.length:Int)).toNat).2
theorem invokeZ_busy (ix:Ixp) (j:Nat) (hj:j < ix.ts.length) (k key val:Int):∃ q,(ix.invokeZ j k key val).ts[j]? = some q/\q.busy=true:=by
 obtain ⟨q,hq⟩:∃ q,ix.ts[j]? = some q:=⟨_,List.getElem?_eq_getElem hj⟩;unfold Ixp.invokeZ;rw [hq];dsimp only
 by_cases hb:q.busy=true
 ·rw [if_pos hb];exact ⟨q,hq,hb⟩
 ·rw [if_neg hb];unfold Ixp.invoke;exact ⟨_,by rw [List.getElem?_set_self hj],rfl⟩
theorem invokeZ_ts (ix:Ixp) (j:Nat) (k key val:Int):(ix.invokeZ j k key val).ts.length=ix.ts.length:=by
 unfold Ixp.invokeZ
 split
 ·rfl
 ·split
  ·rfl
  ·unfold Ixp.invoke;exact List.length_set ..
theorem pickY_ok {m:Mst} {ix:Ixp} {c:Nat} (o:YOk m ix c) (hc:c<=6000) (n:Int):Sd.WI (pickY ix n)/\(pickY ix n).Gd (c+2)/\(pickY ix n).ts.length=3/\7<=(pickY ix n).m.xs.length/\ix.m.xs.length<=(pickY ix n).m.xs.length/\(pickY ix n).m.size=ix.m.size:=by
 have ob:=op_bounds (n.tdiv 3);have w1:=Sd.wi_invoke o.wi (n % (ix.ts.length:Int)).toNat (k:=opK (n.tdiv 3)) (key:=opKey (n.tdiv 3)) (val:=opVal (n.tdiv 3)) ⟨by omega,by omega⟩ ⟨by omega,by omega⟩;have g1:=Ixp.invokeZ_gd o.gd (n % (ix.ts.length:Int)).toNat (opK (n.tdiv 3)) (opKey (n.tdiv 3)) (opVal (n.tdiv 3));have gr:=Ixp.pickZ_grew (ix.invokeZ (n % (ix.ts.length:Int)).toNat (opK (n.tdiv 3)) (opKey (n.tdiv 3)) (opVal (n.tdiv 3))) (n % (ix.ts.length:Int)).toNat;have em:=Ixp.invokeZ_m ix (n % (ix.ts.length:Int)).toNat (opK (n.tdiv 3)) (opKey (n.tdiv 3)) (opVal (n.tdiv 3));have hl:=gr.len;have hs:=gr.size;rw [em] at hl hs;have ob:=o.big;refine ⟨Sd.wi_pick w1 g1 (by omega) _,Ixp.pickZ_gd g1 _,?_,Nat.le_trans ob hl,hl,hs⟩;unfold pickY;rw [Ixp.pickZ_len,invokeZ_ts];exact o.len
theorem YdIs.idx {W W':World} {n₀ y b x mb tb:Nat} {v mv mv':Value} {tv lv lv':Sl} {pz pz':List Pt} {m:Mst} {ix ix':Ixp} (h:YdIs X W n₀ y b x mb tb v mv tv lv pz m ix) (t:Td (Mine (fun k=>v.ownBlock=some k∨X k) W n₀) W W') (hi:IxIs (fun k=>v.ownBlock=some k∨X k) W' n₀ x ix' mb mv' tb tv lv' pz'):YdIs X W' n₀ y b x mb tb v mv' tv lv' pz' m ix':=by
 refine ⟨h.le,t.mine h.box (by decide),h.pm.turned t (fun k hk e=>?_),hi,h.xv⟩;rcases hk with rfl | hk
 ·have:=e.2.2 _ _ h.pm.box
  revert this
  decide
 ·exact e.2.1 (.inl hk)
def Others (X:Nat->Prop) (W W':World):Prop:=∀ (k:Nat) (c:Array Value) (T:TypeId),W.heap[k]? = some (.cells c T)->X k∨¬ (T=35∨T=102∨T=65∨T=2∨T=126∨T=145)->T≠118->W'.heap[k]? = some (.cells c T)
theorem Others.trans {A B C:World} (h:Others X A B) (k:Others X B C):Others X A C:=fun i c T e h1 h2=>k i c T (h i c T e h1 h2) h1 h2
theorem Others.kept {A B:World} (h:Kept A B):Others X A B:=fun _ _ _ e _ _=>h.heap e id
end
end Go.Proofs.YtoaicedkepcalaaGreat
