/-
  What the proof of YtibnlaihiahjpaaGreatRoot goes by, part 9 of 10: contracts and plain facts; each part begins with its own sentence. No conditions beyond each theorem's own.
-/
import Derived.Test.YtibnlaihiahjpaaGreatY8
namespace Go.Proofs.YtibnlaihiahjpaaGreat
open Go.RowKit
namespace Sd
inductive Pr (α:Type) where
 | ret (a:α)
 | ask (q:Ak) (k:Int->Pr α)
 | stop
namespace Pr
variable {α β:Type}
def bind:Pr α->(α->Pr β)->Pr β
 | ret a,f=>f a
 | ask q k,f=>ask q (fun z=>(k z).bind f)
 | stop,_=>stop
def read (a:Int):Pr Int:=ask ⟨1,a,0,0,[]⟩ ret
def write (a x:Int):Pr Unit:=ask ⟨2,a,x,0,[]⟩ (fun _=>ret ())
def cas (a old x:Int):Pr Bool:=ask ⟨3,a,old,x,[]⟩ (fun z=>ret (z == 1))
def add (a d:Int):Pr Int:=ask ⟨4,a,d,0,[]⟩ ret
def make (w:List Int):Pr Int:=ask ⟨5,0,0,0,w⟩ ret
end Pr
section
variable {α β:Type}
def Safe (t:Nat):Pr α->(α->Mst->Gh->Prop)->Mst->Gh->Prop
 | .ret a,Q,m,g=>Q a m g
 | .ask q k,Q,m,g=>∀ m1 g1,Rl t m g m1 g1->∃ g2,Gt t m1 g1 (m1.doA q).2 g2/\Safe t (k (m1.doA q).1) Q (m1.doA q).2 g2
 | .stop,_,_,_=>True
variable {t:Nat} {m:Mst} {g:Gh}
theorem Safe.mono {p:Pr α} {Q Q':α->Mst->Gh->Prop} (h:∀ a m g,Q a m g->Q' a m g):∀ {m:Mst} {g:Gh},Safe t p Q m g->Safe t p Q' m g:=by
 induction p with
 | ret a=>intro m g hs;exact h a m g hs
 | ask q k ih=>
  intro m g hs m1 g1 hr;obtain ⟨g2,h1,h2⟩:=hs m1 g1 hr;exact ⟨g2,h1,ih _ h2⟩
 | stop=>intro m g _;trivial
theorem Safe.bind {p:Pr α} {f:α->Pr β} {Q:β->Mst->Gh->Prop}:∀ {m:Mst} {g:Gh},Safe t p (fun a m g=>Safe t (f a) Q m g) m g->Safe t (p.bind f) Q m g:=by
 induction p with
 | ret a=>intro m g hs;exact hs
 | ask q k ih=>
  intro m g hs m1 g1 hr;obtain ⟨g2,h1,h2⟩:=hs m1 g1 hr;exact ⟨g2,h1,ih _ h2⟩
 | stop=>intro m g _;trivial
theorem Gt.rl' {m':Mst} (h:Inv m' g/\Ex m g m' g):Rl t m g m' g:=⟨h.1,h.2,fun _ _=>⟨rfl,fun _=>⟨rfl,rfl⟩⟩⟩
theorem look_same {m m':Mst} (h:m'.xs=m.xs) (c:Int):m'.look c=m.look c:=by unfold Mst.look Mst.used;rw [h]
theorem used_same {m m':Mst} (h:m'.xs=m.xs) (c:Int):m'.used c=m.used c:=by unfold Mst.used;rw [h]
theorem Inv.quiet (h:Inv m g) {m':Mst} (hx:m'.xs=m.xs) (hz:m'.size=m.size):Inv m' g/\Ex m g m' g:=by
 have r:=h.top.1.c0;have hp:Put1 m m' 1 1:=⟨fun c=>by
  rw [look_same hx]
  split
  ·rename_i e;rw [e];exact h.fix r
  ·rfl,used_same hx,by have:=h.ok;unfold Mst.ok at this ⊢;rw [hx];exact this,hz,by rw [hx]⟩
 refine h.put_plain hp (by rw [r];exact fun e=>by cases e) (fun z=>by rw [r];exact fun e=>by cases e) (fun e=>by rw [r] at e;cases e) (fun e=>by rw [r] at e;rcases e with e | e | e <;> cases e) (fun _=>COk.fix r hp.eq)
theorem Safe.read {a:Int} {Q:Int->Mst->Gh->Prop} (h:∀ m1 g1,Rl t m g m1 g1->Q (m1.look a) m1 g1):Safe t (Pr.read a) Q m g:=by
 intro m1 g1 hr;have e:m1.doA ⟨1,a,0,0,[]⟩=(m1.look a,m1.touch a):=rfl;rw [e];have q:=hr.inv.quiet (Mst.touch_xs m1 a) (size_touch m1 a);refine ⟨g1,Gt.same q,?_⟩
 have:=h (m1.touch a) g1 (hr.trans (Gt.rl' q))
 rwa [look_same (Mst.touch_xs m1 a)] at this
theorem Safe.write {a x:Int} {Q:Unit->Mst->Gh->Prop} (h:∀ m1 g1,Rl t m g m1 g1->∃ g2,Gt t m1 g1 (m1.write a x) g2/\Q () (m1.write a x) g2):Safe t (Pr.write a x) Q m g:=by
 intro m1 g1 hr;exact h m1 g1 hr
theorem Safe.add {a d:Int} {Q:Int->Mst->Gh->Prop} (h:∀ m1 g1,Rl t m g m1 g1->∃ g2,Gt t m1 g1 (m1.write a (wrap64 (m1.look a+d))) g2/\Q (m1.look a) (m1.write a (wrap64 (m1.look a+d))) g2):Safe t (Pr.add a d) Q m g:=by
 intro m1 g1 hr;exact h m1 g1 hr
theorem Safe.cas {a old x:Int} {Q:Bool->Mst->Gh->Prop} (h1:∀ m1 g1,Rl t m g m1 g1->m1.used a=true->m1.look a=old->∃ g2,Gt t m1 g1 (m1.write a x) g2/\Q true (m1.write a x) g2)
  (h0:∀ m1 g1,Rl t m g m1 g1->¬ (m1.used a=true/\m1.look a=old)->Q false m1 g1):Safe t (Pr.cas a old x) Q m g:=by
 intro m1 g1 hr;have e:m1.doA ⟨3,a,old,x,[]⟩=(if m1.did a old=true then 1 else 0,m1.cas a old x):=rfl;rw [e]
 by_cases hd:m1.did a old=true
 ·have hd':=hd;unfold Mst.did at hd';rw [Bool.and_eq_true,beq_iff_eq] at hd';rw [if_pos hd,Mst.cas,if_pos hd];exact h1 m1 g1 hr hd'.1 hd'.2
 ·rw [if_neg hd,Mst.cas,if_neg hd];have q:=hr.inv.quiet (Mst.touch_xs m1 a) (size_touch m1 a);refine ⟨g1,Gt.same q,?_⟩;refine h0 (m1.touch a) g1 (hr.trans (Gt.rl' q)) ?_;rw [used_same (Mst.touch_xs m1 a),look_same (Mst.touch_xs m1 a)];rintro ⟨u1,u2⟩;exact hd (by unfold Mst.did;rw [u1,u2];simp)
theorem make_more (h:Inv m g) {ws:List Int} (hw:∀ z ∈ ws,I64 z) (hf:m.fits ws.length=true):More m (m.make ws) ws:=by
 have e:(m.make ws).xs=m.xs++ws:=by unfold Mst.make;rw [if_pos hf]
 have hz:=h.sz;have es:(m.make ws).size=m.size:=by unfold Mst.make;rw [if_pos hf]
 refine more_of e ⟨fun z hz=>?_,?_⟩ es (by
  rw [e,es,List.length_append];unfold Mst.fits at hf;simp only [Bool.and_eq_true,decide_eq_true_eq] at hf;omega)
 ·rw [e] at hz;rcases List.mem_append.1 hz with hz | hz
  ·exact h.ok.1 z hz
  ·exact hw z hz
 ·rw [e,List.length_append];unfold Mst.fits at hf;simp only [Bool.and_eq_true,decide_eq_true_eq] at hf;omega
theorem Safe.make {ws:List Int} {Q:Int->Mst->Gh->Prop} (hw:∀ z ∈ ws,I64 z)
  (h1:∀ m1 g1 m2,Rl t m g m1 g1->More m1 m2 ws->∃ g2,Gt t m1 g1 m2 g2/\Q ((m1.xs.length:Int)+1) m2 g2) (h0:∀ m1 g1,Rl t m g m1 g1->Q 0 m1 g1):Safe t (Pr.make ws) Q m g:=by
 intro m1 g1 hr;have e:m1.doA ⟨5,0,0,0,ws⟩=(m1.next ws,m1.make ws):=rfl;rw [e]
 by_cases hf:m1.fits ws.length=true
 ·obtain ⟨g2,q1,q2⟩:=h1 m1 g1 (m1.make ws) hr (make_more hr.inv hw hf);refine ⟨g2,q1,?_⟩;show Q (m1.next ws) (m1.make ws) g2;unfold Mst.next;rw [if_pos hf];exact q2
 ·have e2:(m1.make ws).xs=m1.xs:=by unfold Mst.make;rw [if_neg hf]
  have e3:(m1.make ws).size=m1.size:=by unfold Mst.make;rw [if_neg hf]
  have q:=hr.inv.quiet e2 e3;refine ⟨g1,Gt.same q,?_⟩;show Q (m1.next ws) (m1.make ws) g1;unfold Mst.next;rw [if_neg hf];exact h0 _ g1 (hr.trans (Gt.rl' q))
end
end Sd
namespace Sd
namespace Pr
def peek (a:Int):Pr Int:=(read a).bind fun w=>if kd w=5 then (read (ad w+4)).bind fun o=>if o=1 then read (ad w+3) else read (ad w+2) else ret w
def help (a:Int):Pr Unit:=
 (read a).bind fun p=>(read p).bind fun gd=>(cas (a+4) 0 (if gd=0 then 1 else 2)).bind fun _=>(read (a+4)).bind fun o=>(read (a+1)).bind fun s=>
 (if o=1 then read (a+3) else read (a+2)).bind fun v=>(cas s (Rf.ofZ 5 a) v).bind fun _=>ret ()
def slotL:Nat->Int->Int->Pr Int
 | 0,_,_=>stop
 | n+1,a,z=>if kd z=5 then (help (ad z)).bind fun _=>(read a).bind fun y=>slotL n a y else ret z
def slot (n:Nat) (a:Int):Pr Int:=(read a).bind fun z=>slotL n a z
def dcss (gd p old x:Int):Pr Int:=
 (make [gd,p,old,x,0]).bind fun A=>if 0 < A then (cas p old (Rf.ofZ 5 A)).bind fun c=>
  if c=true then (read gd).bind fun q=>(cas (wrap64 (A+4)) 0 (if q=0 then 1 else 2)).bind fun _=>(read (wrap64 (A+4))).bind fun o=>
   if o=1 then (cas p (Rf.ofZ 5 A) x).bind fun _=>ret 1 else (cas p (Rf.ofZ 5 A) old).bind fun _=>ret 2
  else ret 0
 else ret 3
end Pr
variable {t:Nat} {m m':Mst} {g g':Gh} {c0 w0:Int}
theorem of5 {D:Int} (h1:1<=D) (h2:D<=65536):kd (Rf.ofZ 5 D)=5/\ad (Rf.ofZ 5 D)=D/\Rf.ofZ 5 D≠0:=by
 have e:Rf.ofZ 5 D=8 * D+5:=by unfold Rf.ofZ Rf.may;rw [if_pos (by simp;omega)]
 have r:Rf.rt (8 * D+5)=true:=by unfold Rf.rt;simp;omega
 rw [e];refine ⟨?_,?_,by omega⟩
 ·unfold kd Rf.kindZ;rw [if_pos r];omega
 ·unfold ad Rf.atZ;rw [if_pos r];omega
theorem OkW.knd {c w:Int} (h:OkW m g c w):1<=kd w/\kd w<=4:=by
 rcases h with ⟨k,_⟩ | ⟨k,_⟩ | ⟨k,_⟩ | ⟨k,_⟩ <;> omega
theorem OkW.ne {c w:Int} (h:OkW m g c w):w≠0/\kd w≠5:=by
 have:=h.knd
 refine ⟨fun e=>?_,by omega⟩;rw [e] at this;exact absurd this.1 (by decide)
theorem Inv.dc (h:Inv m g) {D gd p o x:Int} (hD:IsDc g D gd p o x):OkW m g p o/\OkW m g p x/\At g gd p/\(g.lt D=true->m.look gd≠0)/\(m.look (D+4)=0∨((m.look (D+4)=1∨m.look (D+4)=2)/\g.pl D=true))/\(g.lt D=true->m.look (D+4)≠1):=by
 have q:=h.cell (D+4);unfold COk at q;rw [hD.c4,(hD.rc.2 4 (by omega) (by omega)).1] at q;obtain ⟨⟨gd2,p2,o2,x2,q1,q2,q3,q4,q5⟩,q6,q7⟩:=q;obtain ⟨rfl,rfl,rfl,rfl⟩:=hD.fn q1;exact ⟨q2,q3,q4,q5,q6,q7⟩
theorem Inv.dcB (h:Inv m g) {D gd p o x:Int} (hD:IsDc g D gd p o x):1<=D/\D+4<=65536/\D+4<=(m.xs.length:Int):=by
 have h1:=h.lt (c:=D+4) (by rw [hD.c4];exact fun e=>by cases e);have h2:=h.ok.2;have h3:=hD.rc.1;omega
theorem step_take (h:Inv m g) {D gd p o x v:Int} (hD:IsDc g D gd p o x) (hl:m.look p=Rf.ofZ 5 D) (hv:v=if m.look (D+4)=1 then x else o):Gt t m g (m.write p v) g:=by
 obtain ⟨q1,q2,q3,q4,q5,q6⟩:=h.dc hD;have b:=h.dcB hD;obtain ⟨k1,k2,k3⟩:=of5 b.1 (by omega);have sv:=q3.siv;obtain ⟨a,d,n,i,lo,hi,hs,eg,hv'⟩:=q3;have ov:OkW m g p v:=by rw [hv];split;exact q2;exact q1
 have hu:m.used p=true:=(h.used p).1 (by rw [hs.ro];exact fun e=>by cases e);have iv:I64 v:=by
  rw [hv]
  split
  ·rw [<- h.fix hD.c3];exact h.ok.look _
  ·rw [<- h.fix hD.c2];exact h.ok.look _
 have hp:=write_put h.ok hu iv;refine Gt.same (step_slot h hs hv' ov.ne.1 (fun w q=>?_) (fun i1=>?_) hp (fun hE=>.inl (hE.okW (fun _ _ e=>hE.back sv e) ov)))
 ·obtain ⟨a',d',n',i',hs',r1,r2,r3,r4⟩:=q;obtain ⟨rfl,rfl,rfl,rfl⟩:=hs'.fn hs;have e2:a' + 2≠p:=fun e=>by have e3:=hs.1.c2;rw [e,hs.ro] at e3;cases e3
  refine ⟨a',d',n',i',hs,by rw [hp.ne e2];exact r1,r2,r3,.inl ?_⟩;rw [hp.eq];rw [hl] at r4;rcases r4 with r4 | ⟨_,_,r5,gd',x',hD'⟩
  ·rw [<- r4] at r3;exact absurd k1 r3
  ·rw [k2] at r5 hD';obtain ⟨_,_,rfl,_⟩:=hD.fn hD';rw [hv,if_neg (q6 r5)]
 ·have ep:=hs.2.2.2;exact h.kin a d n i hs.1 i1 hs.2.2.1 (by rw [<- ep,hl];exact k3)
structure Pd (g:Gh) (D gd p o x:Int):Prop where
 dc:IsDc g D gd p o x
 pl:g.pl D=true
theorem Rl.pd (h:Rl t m g m' g') {D gd p o x:Int} (q:Pd g D gd p o x):Pd g' D gd p o x:=⟨h.ex.dc q.dc,(h.ex.pl _ q.pl).1⟩
theorem settle_safe {A D gd p o x q:Int} (hD:Pd g D gd p o x) (eA:A=D+4) (hq:q=0->g.lt D=false):Safe t (Pr.cas A 0 (if q=0 then 1 else 2)) (fun _ m' g'=>Rl t m g m' g'/\m'.look (D+4)≠0) m g:=by
 subst eA;refine Safe.cas (fun m1 g1 hr hu h0=>?_) (fun m1 g1 hr hn=>?_)
 ·have hD1:=hr.pd hD;have lt1:=(hr.ex.pl _ hD.pl).2;have hp:=write_put hr.inv.ok hu (x:=if q=0 then 1 else 2) (by split <;> exact ⟨by decide,by decide⟩);have st:=step_out hr.inv hD1.dc hD1.pl h0 (x:=if q=0 then 1 else 2) (by
   by_cases e:q=0
   ·rw [if_pos e];exact .inl ⟨rfl,by rw [lt1];exact hq e⟩
   ·rw [if_neg e];exact .inr rfl) hp
  refine ⟨g1,Gt.same st,hr.trans (Gt.rl' st),?_⟩;rw [hp.eq]
  split <;> decide
 ·have hD1:=hr.pd hD;refine ⟨hr,fun e=>hn ⟨(hr.inv.used _).1 (by rw [hD1.dc.c4];exact fun e=>by cases e),e⟩⟩
theorem take_safe {D gd p o x v:Int} (hD:Pd g D gd p o x) (h4:m.look (D+4)≠0) (hv:v=if m.look (D+4)=1 then x else o):Safe t (Pr.cas p (Rf.ofZ 5 D) v) (fun _ m' g'=>Rl t m g m' g') m g:=by
 refine Safe.cas (fun m1 g1 hr _ hl=>?_) (fun m1 g1 hr _=>hr);have hD1:=hr.pd hD;have e4:=hr.ex.stay _ (.inr (.inr hD.dc.c4)) h4;have st:=step_take (t:=t) (v:=v) hr.inv hD1.dc hl (by rw [e4];exact hv);exact ⟨g1,st,hr.trans ⟨st.inv,st.ex,fun _ _=>⟨rfl,fun _=>⟨rfl,rfl⟩⟩⟩⟩
theorem help_safe {D gd p o x:Int} (hD:Pd g D gd p o x):Safe t (Pr.help D) (fun _ m' g'=>Rl t m g m' g') m g:=by
 unfold Pr.help;refine Safe.bind (Safe.read fun m1 g1 r1=>?_);have hD1:=r1.pd hD;rw [r1.inv.fix hD1.dc.c0];refine Safe.bind (Safe.read fun m2 g2 r2=>?_);have R2:=r1.trans r2;have hD2:=R2.pd hD;obtain ⟨_,_,_,q4,_,_⟩:=R2.inv.dc hD2.dc;generalize hq:m2.look gd=q;refine Safe.bind (Safe.mono ?_ (settle_safe (q:=q) hD2 rfl (fun e=>by
  cases el:g2.lt D with
  | false=>rfl
  | true=>exact absurd (hq.trans e) (q4 el))))
 rintro _ m3 g3 ⟨r3,n3⟩;have R3:=R2.trans r3;refine Safe.bind (Safe.read fun m4 g4 r4=>?_);have R4:=R3.trans r4;have hD3:=R3.pd hD;have hD4:=R4.pd hD;have n4:m4.look (D+4)≠0:=by rw [r4.ex.stay _ (.inr (.inr hD3.dc.c4)) n3];exact n3
 refine Safe.bind (Safe.read fun m5 g5 r5=>?_);have R5:=R4.trans r5;have hD5:=R5.pd hD;have e5:=r5.ex.stay _ (.inr (.inr hD4.dc.c4)) n4;rw [R5.inv.fix hD5.dc.c1,<- e5];have n5:m5.look (D+4)≠0:=by rw [e5];exact n4
 refine Safe.bind (Safe.mono (Q:=fun v m6 g6=>Rl t m5 g5 m6 g6/\v=if m5.look (D+4)=1 then x else o) ?_ ?_)
 ·rintro v m6 g6 ⟨r6,ev⟩;have R6:=R5.trans r6;have e6:=r6.ex.stay _ (.inr (.inr hD5.dc.c4)) n5;refine Safe.bind (Safe.mono ?_ (take_safe (R6.pd hD) (by rw [e6];exact n5) (by rw [e6];exact ev)));intro _ m7 g7 r7;exact R6.trans r7
 ·split
  ·exact Safe.read fun m6 g6 r6=>⟨r6,r6.inv.fix (r6.pd hD5).dc.c3⟩
  ·exact Safe.read fun m6 g6 r6=>⟨r6,r6.inv.fix (r6.pd hD5).dc.c2⟩
theorem Inv.sees (h:Inv m g) {c:Int} (hs:g.ro c=some .slot):m.look c=0∨OkW m g c (m.look c)∨(kd (m.look c)=5/\∃ gd o x,Pd g (ad (m.look c)) gd c o x):=by
 have q:=h.cell c;unfold COk at q;rw [hs] at q;rcases q with q | q | ⟨q1,q2,gd,o,x,q3⟩
 ·exact .inl q
 ·exact .inr (.inl q)
 ·exact .inr (.inr ⟨q1,gd,o,x,q3,q2⟩)
theorem slot_safe (n:Nat) {c:Int} (hs:g.ro c=some .slot):Safe t (Pr.slot n c) (fun w m' g'=>Rl t m g m' g'/\m'.look c=w/\kd w≠5) m g:=by
 have loop:∀ (n:Nat) (m1:Mst) (g1:Gh),Rl t m g m1 g1->Safe t (Pr.slotL n c (m1.look c)) (fun w m' g'=>Rl t m g m' g'/\m'.look c=w/\kd w≠5) m1 g1:=by
  intro n
  induction n with
  | zero=>intro m1 g1 _;trivial
  | succ n ih=>
   intro m1 g1 r1;unfold Pr.slotL
   split
   ·rename_i k5;have hs1:=r1.ex.so hs;rcases r1.inv.sees hs1 with q | q | ⟨_,gd,o,x,hD⟩
    ·rw [q] at k5;exact absurd k5 (by decide)
    ·exact absurd k5 q.ne.2
    ·refine Safe.bind (Safe.mono ?_ (help_safe hD));intro _ m2 g2 r2;refine Safe.bind (Safe.read fun m3 g3 r3=>?_);exact ih m3 g3 ((r1.trans r2).trans r3)
   ·rename_i k5;exact ⟨r1,rfl,k5⟩
 unfold Pr.slot;exact Safe.bind (Safe.read fun m1 g1 r1=>loop n m1 g1 r1)
structure Fw (m:Mst) (g:Gh) (m':Mst) (g':Gh):Prop where
 inv:Inv m' g'
 ex:Ex m g m' g'
theorem Rl.fw (h:Rl t m g m' g'):Fw m g m' g':=⟨h.inv,h.ex⟩
theorem Gt.fw (h:Gt t m g m' g'):Fw m g m' g':=⟨h.inv,h.ex⟩
theorem Fw.trans {m1 m2 m3:Mst} {g1 g2 g3:Gh} (h:Fw m1 g1 m2 g2) (h':Fw m2 g2 m3 g3):Fw m1 g1 m3 g3:=⟨h'.inv,h.ex.trans h'.ex⟩
def Can (t:Nat) (m:Mst) (g:Gh) (c w:Int):Prop:=∀ m1 g1,Rl t m g m1 g1->∃ g2,Gt t m1 g1 m1 g2/\OkW m1 g2 c w
theorem OkW.can (h:OkW m g c0 w0) (hs:∃ lo hi,SIv g c0 lo hi):Can t m g c0 w0:=fun _ _ hr=>⟨_,Gt.same ⟨hr.inv,Ex.refl _ _⟩,hr.ex.okW (fun _ _ e=>hr.ex.back hs e) h⟩
theorem step_in (h:Inv m g) {D gd p o x:Int} (hD:IsDc g D gd p o x) (h0:g.pl D=false) (hl:m.look p=o):∃ g',Gt (g.ow D) m g (m.write p (Rf.ofZ 5 D)) g'/\Pd g' D gd p o x:=by
 obtain ⟨q1,q2,q3,q4,q5,q6⟩:=h.dc hD;have b:=h.dcB hD;obtain ⟨k1,k2,k3⟩:=of5 b.1 (by omega);obtain ⟨s1,s2⟩:=step_pl h hD h0 (decide (m.look gd≠0)) (fun e=>by simpa using e);have f:=g.put_e0 D (decide (m.look gd≠0));obtain ⟨a,d,n,i,lo,hi,hs,eg,hv'⟩:=q3;have hu:m.used p=true:=(h.used p).1 (by rw [hs.ro];exact fun e=>by cases e);have hp:=write_put h.ok hu (x:=Rf.ofZ 5 D) (i64_of 5 D);have plD:(g.put D (decide (m.look gd≠0))).pl D=true:=by show (if D=D then true else _)=true;rw [if_pos rfl]
 have ltD:(g.put D (decide (m.look gd≠0))).lt D=decide (m.look gd≠0):=by show (if D=D then _ else _)=_;rw [if_pos rfl]
 have st:=step_slot s1 (f.sl hs) (f.iv hv') k3 (fun w q=>by
  obtain ⟨a',d',n',i',hs',r1,r2,r3,r4⟩:=q;obtain ⟨rfl,rfl,rfl,rfl⟩:=hs'.fn (f.sl hs);have e2:a' + 2≠p:=fun e=>by have e3:=hs.1.c2;rw [e,hs.ro] at e3;cases e3
  refine ⟨a',d',n',i',hs',by rw [hp.ne e2];exact r1,r2,r3,.inr ?_⟩;rw [hp.eq,k2];refine ⟨k1,plD,by rw [ltD,eg];simpa using r1,gd,x,?_⟩;rcases r4 with r4 | ⟨r4,_⟩
  ·rw [<- r4,hl];exact f.dc hD
  ·rw [hl] at r4;exact absurd r4 q1.ne.2) (fun i1=>by
  have ep:=hs.2.2.2;exact s1.kin a d n i (f.inner hs.1) i1 hs.2.2.1 (by rw [<- ep,hl];exact q1.ne.1)) hp (fun _=>.inr ⟨k1,by rw [k2];exact plD,gd,o,x,by rw [k2];exact f.dc hD⟩)
 refine ⟨_,⟨st.1,s2.trans st.2,fun b _=>⟨rfl,fun e=>⟨rfl,?_⟩⟩⟩,f.dc hD,plD⟩;show (if b=D then true else g.pl b)=_;rw [if_neg (fun q=>e (by rw [q]))]
theorem dcss_safe {gd p o x:Int} (ho:OkW m g p o) (hx:Can t m g p x) (hat:At g gd p) (ig:I64 gd) (ip:I64 p) (io:I64 o) (ix:I64 x):Safe t (Pr.dcss gd p o x) (fun z m' g'=>Fw m g m' g'/\(z≠3->OkW m' g' p x)) m g:=by
 have sv:=hat.siv;unfold Pr.dcss;refine Safe.bind (Safe.make (by
  intro z hz;simp only [List.mem_cons,List.not_mem_nil,or_false] at hz;rcases hz with rfl | rfl | rfl | rfl | rfl
  all_goals first | assumption | exact ⟨by decide,by decide⟩) (fun m1 g1 m2 r1 hm=>?_) (fun m1 g1 r1=>?_))
 ·obtain ⟨g1',c1,c2⟩:=hx m1 g1 r1;have R1:=r1.fw.trans c1.fw;obtain ⟨g2,d1,hD,hpl,how⟩:=mk_dc (t:=t) c1.inv rfl (R1.ex.okW (fun _ _ e=>R1.ex.back sv e) ho) c2 (R1.ex.at hat) hm;refine ⟨g2,c1.trans d1,?_⟩;have R2:=R1.trans d1.fw;have fin:∀ {z:Int} {m':Mst} {g':Gh},Fw m2 g2 m' g'->Fw m g m' g'/\(z≠3->OkW m' g' p x):=fun {z m' g'} r=>⟨R2.trans r,fun _=>by
   have e:=d1.ex.trans r.ex;exact e.okW (fun _ _ q=>e.back (R1.ex.at hat).siv q) c2⟩
  have b2:=d1.inv.dcB hD;generalize hA:(m1.xs.length:Int)+1=A at hD hpl how b2 ⊢;have ew:wrap64 (A+4)=A+4:=Pt.wrap_same (by omega) (by omega);rw [if_pos (by omega)];refine Safe.bind (Safe.cas (fun m3 g3 r3 _ hl=>?_) (fun m3 g3 r3 _=>?_))
  ·have hro:g2.ro A≠none:=by rw [hD.c0];exact fun e=>by cases e
   have ow3:=r3.own A hro;have hD3:=r3.ex.dc hD;obtain ⟨g4,i1,hP⟩:=step_in r3.inv hD3 (by rw [(ow3.2 how).2];exact hpl) hl;rw [ow3.1,how] at i1;refine ⟨g4,i1,?_⟩;have R4:=r3.fw.trans i1.fw;rw [if_pos rfl];refine Safe.bind (Safe.read fun m5 g5 r5=>?_);have hP5:=r5.pd hP;obtain ⟨_,_,_,q4,_,_⟩:=r5.inv.dc hP5.dc;generalize hq:m5.look gd=q;rw [ew];refine Safe.bind (Safe.mono ?_ (settle_safe (q:=q) hP5 rfl (fun e=>by
    cases el:g5.lt A with
    | false=>rfl
    | true=>exact absurd (hq.trans e) (q4 el))))
   rintro _ m6 g6 ⟨r6,n6⟩;refine Safe.bind (Safe.read fun m7 g7 r7=>?_);have hP6:=r6.pd hP5;have hP7:=r7.pd hP6;have e7:=r7.ex.stay _ (.inr (.inr hP6.dc.c4)) n6;have R7:=((R4.trans r5.fw).trans r6.fw).trans r7.fw
   split
   ·rename_i e1;refine Safe.bind (Safe.mono ?_ (take_safe hP7 (by rw [e7];exact n6) (by rw [if_pos e1])));intro _ m8 g8 r8;exact fin (R7.trans r8.fw)
   ·rename_i e1;refine Safe.bind (Safe.mono ?_ (take_safe hP7 (by rw [e7];exact n6) (by rw [if_neg e1])));intro _ m8 g8 r8;exact fin (R7.trans r8.fw)
  ·rw [if_neg (by decide)];exact fin r3.fw
 ·rw [if_neg (by decide)];exact ⟨r1.fw,fun e=>absurd rfl e⟩
end Sd
namespace Sd
theorem guess_in {a b k n:Int} (h:2<=n/\n<=65536/\a<=k/\k < b):1<=Pb.guessZ a b k n/\Pb.guessZ a b k n<=n - 1:=by
 have e:Pb.guessZ a b k n=1+(k - a) * (n - 1) / (b - a):=by
  unfold Pb.guessZ;rw [if_pos h];have e1:Pb.gapZ a k=k - a:=by simp only [Pb.gapZ];rw [if_neg (by omega)]
  have e2:Pb.gapZ a b=b - a:=by simp only [Pb.gapZ];rw [if_neg (by omega)]
  rw [e1,e2];unfold Pb.shareZ;rw [if_pos (by omega),show min (k - a) (b - a)=k - a by omega]
 rw [e];have h1:0<=(k - a) * (n - 1):=Int.mul_nonneg (by omega) (by omega);have h2:(k - a) * (n - 1) < (n - 1) * (b - a):=by
  rw [Int.mul_comm (n - 1)];exact Int.mul_lt_mul_of_pos_right (by omega) (by omega)
 have h3:=Int.ediv_nonneg h1 (show 0<=b - a by omega);have h4:=(Int.ediv_lt_iff_lt_mul (show 0 < b - a by omega)).2 h2;omega
namespace Pr
def downT (n k:Int):Nat->Pr Int
 | 0=>ret 1
 | i+1=>if 1<=i then (read (keyZ n ((i:Int)+1))).bind fun y=>if y<=k then ret ((i:Int)+1) else downT n k i else ret 1
def upT (n k m:Int):Nat->Int->Pr Int
 | 0,_=>ret (m - 1)
 | c+1,i=>(read (keyZ n i)).bind fun y=>if k < y then ret (i - 1) else upT n k m c (i+1)
def route (n k:Int):Pr (Int × Int):=
 (read n).bind fun d=>
 if wrap64 (d - 1) < 1 then ret (d,0) else (read (keyZ n 1)).bind fun f=>
 if k < f then ret (d,0) else if wrap64 (d - 1)=1 then ret (d,1) else (read (keyZ n (wrap64 (d - 1)))).bind fun l=>
 if l<=k then ret (d,wrap64 (d - 1)) else
 if Pb.guessZ f l k (wrap64 (d - 1)) < 1 then ret (d,0) else
 if 1 < Pb.guessZ f l k (wrap64 (d - 1)) then (read (keyZ n (Pb.guessZ f l k (wrap64 (d - 1))))).bind fun y=>
  if k < y then (downT n k (Pb.guessZ f l k (wrap64 (d - 1)) - 1).toNat).bind fun c=>ret (d,c)
  else (upT n k (wrap64 (d - 1)) (wrap64 (d - 1) - (Pb.guessZ f l k (wrap64 (d - 1))+1)).toNat (Pb.guessZ f l k (wrap64 (d - 1))+1)).bind fun c=>ret (d,c)
 else (upT n k (wrap64 (d - 1)) (wrap64 (d - 1) - (Pb.guessZ f l k (wrap64 (d - 1))+1)).toNat (Pb.guessZ f l k (wrap64 (d - 1))+1)).bind fun c=>ret (d,c)
def child (n k:Int):Pr Int:=(route n k).bind fun p=>ret (childZ n p.1 p.2)
end Pr
variable {t:Nat} {m m':Mst} {g g':Gh}
theorem IsInner.far (h:Inv m g) {n d sz:Int} (hI:IsInner g n d sz):1<=n/\n+2 * d+3<=65536:=by
 have h1:=h.lt (c:=n+(2 * d+3)) (hI.rc.2 (2 * d+3) (by have:=hI.pos;omega) (by omega)).2;have h2:=h.ok.2
 have:=hI.rc.1
 omega
theorem key_at (h:Inv m g) {n d sz i:Int} (hI:IsInner g n d sz) (hc:Compl m g n) (r:Rl t m g m' g') (i1:1<=i) (i2:i < d):m'.look (keyZ n i)=gk g n i:=by
 have f:=hI.far h;rw [keyZ_in (by omega) (by omega) (by omega) (by omega),<- r.ex.gk hI i1 i2];exact r.inv.kin n d sz i (r.ex.inner hI) i1 i2 (r.ex.compl hI hc d sz i (r.ex.inner hI) (by omega) i2)
theorem down_safe {m0:Mst} {g0:Gh} (h:Inv m0 g0) {n d sz k:Int} (hI:IsInner g0 n d sz) (hc:Compl m0 g0 n) (h1:gk g0 n 1<=k):∀ (i:Nat),(i:Int)+1 < d->k < gk g0 n (i+1)->1<=i->∀ (m:Mst) (g:Gh),Rl t m0 g0 m g->
  Safe t (Pr.downT n k i) (fun c m' g'=>Rl t m0 g0 m' g'/\1<=c/\c+1 < d/\gk g0 n c<=k/\k < gk g0 n (c+1)) m g
 | 0,_,_,h0,_,_,_=>absurd h0 (by omega)
 | i+1,hi,hk,_,m,g,r=>by
  unfold Pr.downT
  split
  ·rename_i i1;refine Safe.bind (Safe.read fun m1 g1 r1=>?_);have R:=r.trans r1;rw [key_at h hI hc R (by omega) (by omega)]
   split
   ·rename_i e;exact ⟨R,by omega,by omega,e,by have:=hk;rwa [show (((i+1:Nat):Int)+1)=(i:Int)+1+1 by omega] at this⟩
   ·rename_i e;exact down_safe h hI hc h1 i (by omega) (by omega) i1 m1 g1 R
  ·rename_i i1;have e0:i=0:=by omega
   subst e0;exact ⟨r,by omega,by omega,h1,by simpa using hk⟩
theorem up_safe {m0:Mst} {g0:Gh} (h:Inv m0 g0) {n d sz k:Int} (hI:IsInner g0 n d sz) (hc:Compl m0 g0 n) (hl:k < gk g0 n (d - 1)):∀ (c:Nat) (i:Int),2<=i->i+c=d - 1->gk g0 n (i - 1)<=k->∀ (m:Mst) (g:Gh),Rl t m0 g0 m g->
  Safe t (Pr.upT n k (d - 1) c i) (fun c m' g'=>Rl t m0 g0 m' g'/\1<=c/\c+1 < d/\gk g0 n c<=k/\k < gk g0 n (c+1)) m g
 | 0,i,i2,ic,hk,m,g,r=>by
  unfold Pr.upT;have e:i=d - 1:=by omega
  subst e;exact ⟨r,by omega,by omega,hk,by rw [show d - 1 - 1+1=d - 1 by omega];exact hl⟩
 | c+1,i,i2,ic,hk,m,g,r=>by
  unfold Pr.upT;refine Safe.bind (Safe.read fun m1 g1 r1=>?_);have R:=r.trans r1;rw [key_at h hI hc R (by omega) (by omega)]
  split
  ·rename_i e;exact ⟨R,by omega,by omega,hk,by rw [show i - 1+1=i by omega];exact e⟩
  ·rename_i e;exact up_safe h hI hc hl c (i+1) (by omega) (by omega) (by rw [show i+1 - 1=i by omega];omega) m1 g1 R
theorem route_safe (h:Inv m g) {n d sz lo hi k:Int} (hI:IsInner g n d sz) (hc:Compl m g n) (hk:lo<=k/\k<=hi) :
  Safe t (Pr.route n k) (fun p m' g'=>Rl t m g m' g'/\p.1=d/\0<=p.2/\p.2 < d/\gl g n lo p.2<=k/\k<=gu g n d hi p.2) m g:=by
 have f:=hI.far h;have p:=hI.pos;have ew:wrap64 (d - 1)=d - 1:=Pt.wrap_same (by omega) (by omega);have lo0:gl g n lo 0<=k:=by unfold gl;rw [if_pos rfl];exact hk.1
 have mid:∀ c:Int,1<=c->c+1 < d->gk g n c<=k->k < gk g n (c+1)->gl g n lo c<=k/\k<=gu g n d hi c:=fun c c1 c2 q1 q2=>by
  unfold gl gu;rw [if_neg (by omega),if_pos c2];omega
 unfold Pr.route;refine Safe.bind (Safe.read fun m1 g1 r1=>?_);rw [r1.inv.fix (r1.ex.inner hI).c0,ew]
 split
 ·rename_i d1;exact ⟨r1,rfl,by simp,by simp;omega,lo0,by unfold gu;rw [if_neg (by simp;omega)];exact hk.2⟩
 rename_i d1;refine Safe.bind (Safe.read fun m2 g2 r2=>?_);have R2:=r1.trans r2;rw [key_at h hI hc R2 (by omega) (by omega)]
 split
 ·rename_i e;exact ⟨R2,rfl,by simp,by simp;omega,lo0,by unfold gu;rw [if_pos (by simp;omega)];simp;omega⟩
 rename_i e1
 split
 ·rename_i e2;exact ⟨R2,rfl,by simp,by simp;omega,by unfold gl;rw [if_neg (by simp)];simp;omega,by unfold gu;rw [if_neg (by simp;omega)];exact hk.2⟩
 rename_i e2;refine Safe.bind (Safe.read fun m3 g3 r3=>?_);have R3:=R2.trans r3;rw [key_at h hI hc R3 (by omega) (by omega)]
 split
 ·rename_i e3;exact ⟨R3,rfl,by simp;omega,by show d - 1 < d;omega,by unfold gl;rw [if_neg (by simp;omega)];exact e3,by unfold gu;rw [if_neg (by simp)];exact hk.2⟩
 rename_i e3;obtain ⟨j1,j2⟩:=guess_in (a:=gk g n 1) (b:=gk g n (d - 1)) (k:=k) (n:=d - 1) ⟨by omega,by omega,by omega,by omega⟩;generalize Pb.guessZ (gk g n 1) (gk g n (d - 1)) k (d - 1)=j at j1 j2 ⊢;rw [if_neg (by omega)];have fin:∀ (pp:Pr Int) (m4:Mst) (g4:Gh),Safe t pp (fun c m' g'=>Rl t m g m' g'/\1<=c/\c+1 < d/\gk g n c<=k/\k < gk g n (c+1)) m4 g4->Safe t (pp.bind fun c=>Pr.ret (d,c)) (fun p m' g'=>Rl t m g m' g'/\p.1=d/\0<=p.2/\p.2 < d/\gl g n lo p.2<=k/\k<=gu g n d hi p.2) m4 g4:=fun pp m4 g4 hs=>by
  refine Safe.bind (Safe.mono ?_ hs);rintro c m5 g5 ⟨q1,q2,q3,q4,q5⟩;exact ⟨q1,rfl,by simp;omega,by simp;omega,mid c q2 q3 q4 q5⟩
 split
 ·rename_i e4;refine Safe.bind (Safe.read fun m4 g4 r4=>?_);have R4:=R3.trans r4;rw [key_at h hI hc R4 (by omega) (by omega)]
  split
  ·rename_i e5;refine fin _ _ _ (down_safe h hI hc (by omega) (j - 1).toNat (by omega) (by rw [show (((j - 1).toNat:Nat):Int)+1=j by omega];exact e5) (by omega) m4 g4 R4)
  ·rename_i e5;exact fin _ _ _ (up_safe h hI hc (by omega) _ _ (by omega) (by omega) (by rw [show j+1 - 1=j by omega];omega) m4 g4 R4)
 ·rename_i e4;have ej:j=1:=by omega
  subst ej;exact fin _ _ _ (up_safe h hI hc (by omega) _ _ (by omega) (by omega) (by rw [show (1:Int)+1 - 1=1 by omega];omega) m3 g3 R3)
theorem child_safe (h:Inv m g) {n d sz lo hi k:Int} (hI:IsInner g n d sz) (hc:Compl m g n) (hk:lo<=k/\k<=hi) :
  Safe t (Pr.child n k) (fun s m' g'=>Rl t m g m' g'/\∃ i,Slot g s n d sz i/\gl g n lo i<=k/\k<=gu g n d hi i) m g:=by
 have f:=hI.far h;unfold Pr.child;refine Safe.bind (Safe.mono ?_ (route_safe h hI hc hk));rintro ⟨d',c⟩ m1 g1 ⟨q1,q2,q3,q4,q5,q6⟩;simp only at q2 q3 q4 q5 q6;subst q2;exact ⟨q1,c,⟨hI,q3,q4,childZ_in (by omega) (by omega) (by omega) (by omega) (by omega) (by omega)⟩,q5,q6⟩
end Sd
namespace Sd
variable {t:Nat} {m m':Mst} {g g':Gh}
theorem Fz.okW (h:Inv m g) {c w:Int} (q:Fz m g c w):OkW m g c w:=by
 obtain ⟨a,d,n,i,hs,_,w0,k5,q⟩:=q;rcases q with q | ⟨_,_,_,gd,x,hD⟩
 ·rcases h.sees hs.ro with e | e | ⟨e,_⟩
  ·rw [q] at e;exact absurd e w0
  ·rwa [q] at e
  ·rw [q] at e;exact absurd e k5
 ·exact (h.dc hD).1
def Up (ps:Ps):Prop:=ps.Pairwise fun p q=>p.1 < q.1
theorem pre_up (h:Inv m g) {a lo hi d n:Int} (hv:Iv g a lo hi) (hI:IsInner g a d n) (q:Nat->Ps):∀ k:Nat,(k:Int)<=d->(∀ i:Nat,i < k->(∀ p ∈ q i,gl g a lo i<=p.1/\p.1<=gu g a d hi i/\∃ b,IsLeaf g b p.1 p.2)/\Up (q i))->
  (∀ p ∈ (List.range k).flatMap q,lo<=p.1/\p.1<=hi/\(∃ b,IsLeaf g b p.1 p.2)/\∃ i:Nat,i < k/\p.1<=gu g a d hi i)/\Up ((List.range k).flatMap q)
 | 0,_,_=>⟨by simp,by simp [Up]⟩
 | k+1,hk,one=>by
  obtain ⟨i1,i2⟩:=pre_up h hv hI q k (by omega) (fun i hi'=>one i (by omega));obtain ⟨o1,o2⟩:=one k (by omega);have w:=h.within hv hI (i:=(k:Int)) (by omega) (by omega);rw [List.range_succ,List.flatMap_append];simp only [List.flatMap_cons,List.flatMap_nil,List.append_nil];refine ⟨fun p hp=>?_,?_⟩
  ·rcases List.mem_append.1 hp with hp | hp
   ·obtain ⟨a1,a2,a3,i,a4,a5⟩:=i1 p hp;exact ⟨a1,a2,a3,i,by omega,a5⟩
   ·obtain ⟨a1,a2,a3⟩:=o1 p hp;exact ⟨by omega,by omega,a3,k,by omega,a2⟩
  ·unfold Up;rw [List.pairwise_append];refine ⟨i2,o2,fun p hp p' hp'=>?_⟩;obtain ⟨_,_,_,i,a4,a5⟩:=i1 p hp;have b1:=(o1 p' hp').1
   have:=h.order hv hI (i:=(i:Int)) (j:=(k:Int)) (by omega) (by omega) (by omega)
   omega
theorem one_up (h:Inv m g) {F:Int->Ps->Prop} (hF:∀ {a lo hi:Int} {ps:Ps},Iv g a lo hi->F a ps->(∀ p ∈ ps,lo<=p.1/\p.1<=hi/\∃ b,IsLeaf g b p.1 p.2)/\Up ps) {c lo hi:Int} {ps:Ps} (sv:SIv g c lo hi) (hq:FS m g F c ps) :
  (∀ p ∈ ps,lo<=p.1/\p.1<=hi/\∃ b,IsLeaf g b p.1 p.2)/\Up ps:=by
 obtain ⟨w,hz,hw⟩:=hq;have ok:=hz.okW h;rcases hw with ⟨_,e⟩ | ⟨k,u,v,hl,e⟩ | ⟨k,e,_⟩ | ⟨k,tg,gd,p,hR,e,_⟩
 ·rw [e];exact ⟨by simp,List.Pairwise.nil⟩
 ·rcases ok with ⟨k',_⟩ | ⟨_,u',v',hl',hb⟩ | ⟨k',_⟩ | ⟨k',_⟩
  ·omega
  ·have e1:=hl.c0.symm.trans hl'.c0;cases e1;rw [e];refine ⟨fun p hp=>?_,List.pairwise_singleton _ _⟩;rw [List.mem_singleton] at hp;rw [hp];exact ⟨(hb _ _ sv).1,(hb _ _ sv).2,_,hl⟩
  ·omega
  ·omega
 ·rcases ok with ⟨k',_⟩ | ⟨k',_⟩ | ⟨_,d',n',_,_,hb,hm,_⟩ | ⟨k',_⟩
  ·omega
  ·omega
  ·exact hF (Iv.slot sv hb hm) e
  ·omega
 ·rcases ok with ⟨k',_⟩ | ⟨k',_⟩ | ⟨k',_⟩ | ⟨_,t',gd',hR',_,_,d',n',_,_,hb,hm,_⟩
  ·omega
  ·omega
  ·omega
  ·obtain ⟨rfl,_⟩:=hR.fn hR';exact hF (Iv.slot sv hb hm) e
theorem FTf.up (h:Inv m g):∀ {f:Nat} {a lo hi:Int} {ps:Ps},Iv g a lo hi->FTf m g f a ps->(∀ p ∈ ps,lo<=p.1/\p.1<=hi/\∃ b,IsLeaf g b p.1 p.2)/\Up ps
 | 0,_,_,_,_,_,q=>q.elim
 | f+1,a,lo,hi,ps,hv,⟨d,n,q,hI,_,hq,e⟩=>by
  obtain ⟨a1,a2⟩:=pre_up h hv hI q d.toNat (by have:=hI.pos;omega) (fun i hi'=>one_up h (fun q1 q2=>FTf.up h q1 q2) (Slot.siv ⟨hI,by omega,by omega,rfl⟩ hv) (hq i (by omega)));rw [e];exact ⟨fun p hp=>⟨(a1 p hp).1,(a1 p hp).2.1,(a1 p hp).2.2.1⟩,a2⟩
theorem FT.up (h:Inv m g) {a lo hi:Int} {ps:Ps} (hv:Iv g a lo hi) (q:FT m g a ps):(∀ p ∈ ps,lo<=p.1/\p.1<=hi/\∃ b,IsLeaf g b p.1 p.2)/\Up ps:=by
 obtain ⟨f,q⟩:=q;exact q.up h hv
theorem few_nat:∀ (N:Nat) (l:List Nat),l.Nodup->(∀ x ∈ l,x < N)->l.length<=N
 | 0,l,_,h=>by
  cases l with
  | nil=>simp
  | cons x l=>exact absurd (h x (by simp)) (by omega)
 | N+1,l,hn,h=>by
  by_cases e:N ∈ l
  ·have h1:=few_nat N (l.erase N) (hn.erase N) (fun x hx=>by
    have:=(hn.mem_erase_iff).1 hx
    have h2:=h x this.2;have h3:=this.1;omega)
   rw [List.length_erase_of_mem e] at h1;omega
  ·have:=few_nat N l hn (fun x hx=>by
    have h2:=h x hx
    have:x≠N:=fun q=>e (q ▸ hx)
    omega)
   omega
theorem up_few (h:Inv m g):∀ {ps:Ps},(∀ p ∈ ps,∃ b,IsLeaf g b p.1 p.2)->Up ps->ps.length<=16384:=by
 intro ps hl hu
 have:∃ l:List Nat,l.length=ps.length/\l.Nodup/\∀ x ∈ l,x < m.xs.length/\∃ p ∈ ps,IsLeaf g ((x:Int)+1) p.1 p.2:=by
  induction ps with
  | nil=>exact ⟨[],rfl,List.nodup_nil,by simp⟩
  | cons p ps ih=>
   unfold Up at hu;rw [List.pairwise_cons] at hu;obtain ⟨l,l1,l2,l3⟩:=ih (fun p hp=>hl p (by simp [hp])) hu.2;obtain ⟨b,hb⟩:=hl p (by simp);have bb:=h.lt (c:=b) (by rw [hb.c0];exact fun e=>by cases e);refine ⟨(b - 1).toNat :: l,by simp [l1],List.nodup_cons.2 ⟨fun hx=>?_,l2⟩,fun x hx=>?_⟩
   ·obtain ⟨_,p',hp',hq⟩:=l3 _ hx;rw [show (((b - 1).toNat:Nat):Int)+1=b by omega] at hq;have e:=Ro.fix.inj (Option.some.inj (hb.c0.symm.trans hq.c0))
    have:=hu.1 p' hp'
    omega
   ·rcases List.mem_cons.1 hx with rfl | hx
    ·exact ⟨by omega,p,by simp,by rw [show (((b - 1).toNat:Nat):Int)+1=b by omega];exact hb⟩
    ·obtain ⟨a1,p',hp',a2⟩:=l3 x hx;exact ⟨a1,p',by simp [hp'],a2⟩
 obtain ⟨l,l1,l2,l3⟩:=this;rw [<- l1]
 have:=few_nat m.xs.length l l2 (fun x hx=>(l3 x hx).1)
 have:=h.sz
 omega
theorem FT.few (h:Inv m g) {a lo hi:Int} {ps:Ps} (hv:Iv g a lo hi) (q:FT m g a ps):ps.length<=16384:=by
 obtain ⟨h1,h2⟩:=q.up h hv;exact up_few h (fun p hp=>(h1 p hp).2.2) h2
theorem FS.mono {F F':Int->Ps->Prop} (hF:∀ a ps,F a ps->F' a ps) {c:Int} {ps:Ps} (q:FS m g F c ps):FS m g F' c ps:=by
 obtain ⟨w,h1,h2⟩:=q;refine ⟨w,h1,?_⟩;rcases h2 with e | e | ⟨k,e,e2⟩ | ⟨k,t,gd,p,e0,e,e2⟩
 ·exact .inl e
 ·exact .inr (.inl e)
 ·exact .inr (.inr (.inl ⟨k,hF _ _ e,e2⟩))
 ·exact .inr (.inr (.inr ⟨k,t,gd,p,e0,hF _ _ e,e2⟩))
theorem FTf.succ:∀ (f:Nat) (a:Int) (ps:Ps),FTf m g f a ps->FTf m g (f+1) a ps
 | 0,_,_,h=>h.elim
 | f+1,_,_,⟨d,n,q,h1,h2,h3,h4⟩=>⟨d,n,q,h1,h2,fun i hi=>FS.mono (FTf.succ f) (h3 i hi),h4⟩
theorem FTf.le {f f':Nat} (h:f<=f') {a:Int} {ps:Ps} (q:FTf m g f a ps):FTf m g f' a ps:=by
 induction h with
 | refl=>exact q
 | step _ ih=>exact FTf.succ _ _ _ ih
theorem FS.fuel {c:Int} {ps:Ps} (q:FS m g (FT m g) c ps):∃ f,FS m g (FTf m g f) c ps:=by
 obtain ⟨w,h1,h2⟩:=q;rcases h2 with e | e | ⟨k,⟨f,e⟩,e2⟩ | ⟨k,t,gd,p,e0,⟨f,e⟩,e2⟩
 ·exact ⟨0,w,h1,.inl e⟩
 ·exact ⟨0,w,h1,.inr (.inl e)⟩
 ·exact ⟨f,w,h1,.inr (.inr (.inl ⟨k,e,e2⟩))⟩
 ·exact ⟨f,w,h1,.inr (.inr (.inr ⟨k,t,gd,p,e0,e,e2⟩))⟩
theorem ft_mk {a d n:Int} (hI:IsInner g a d n) (h2:m.look (a+2)≠0) (q:Nat->Ps) (hq:∀ i:Nat,(i:Int) < d->FS m g (FT m g) (a+4+d+i) (q i)):FT m g a ((List.range d.toNat).flatMap q):=by
 have:∀ k:Nat,(k:Int)<=d->∃ f,∀ i:Nat,i < k->FS m g (FTf m g f) (a+4+d+i) (q i):=by
  intro k
  induction k with
  | zero=>intro _;exact ⟨0,fun i hi=>absurd hi (by omega)⟩
  | succ k ih=>
   intro hk;obtain ⟨f,hf⟩:=ih (by omega);obtain ⟨f',hf'⟩:=(hq k (by omega)).fuel;refine ⟨max f f',fun i hi=>?_⟩
   by_cases e:i=k
   ·subst e;exact FS.mono (fun _ _=>FTf.le (by omega)) hf'
   ·exact FS.mono (fun _ _=>FTf.le (by omega)) (hf i (by omega))
 obtain ⟨f,hf⟩:=this d.toNat (by have:=hI.pos;omega);exact ⟨f+1,d,n,q,hI,h2,fun i hi=>hf i (by omega),rfl⟩
theorem Ex.fsT (h:Ex m g m' g') {c:Int} {ps:Ps} (q:FS m g (FT m g) c ps):FS m' g' (FT m' g') c ps:=
 h.fs (fun _ _ e=>h.ft e) (fun _ _ ⟨_,e⟩=>FTf.inner e) q
end Sd
namespace Sd
namespace Pr
def markK (g:Int->Pr Int) (N:Nat) (n d:Int):Nat->Int->Int->Pr Int
 | 0,_,y=>ret y
 | c+1,i,y=>(slot N (childZ n d i)).bind fun w=>
  if kd w=2 then markK g N n d c (i+1) (wrap64 (y+1))
  else if kd w=3 then (g (ad w)).bind fun z=>markK g N n d c (i+1) (wrap64 (y+z))
  else if kd w=4 then (read (ad w)).bind fun q=>(g (ad q)).bind fun z=>markK g N n d c (i+1) (wrap64 (y+z))
  else markK g N n d c (i+1) y
def mark (N:Nat):Nat->Int->Pr Int
 | 0=>fun _=>stop
 | f+1=>fun n=>(read (wrap64 (n+4))).bind fun s=>
  if s=0 then (write (wrap64 (n+2)) 1).bind fun _=>(read n).bind fun d=>(markK (mark N f) N n d d.toNat 0 0).bind fun y=>(write (wrap64 (n+4)) (wrap64 (y+1))).bind fun _=>ret y
  else ret (wrap64 (s - 1))
end Pr
variable {t:Nat} {m m':Mst} {g g':Gh}
structure Nd (m:Mst) (g:Gh) (a d n lo hi:Int):Prop where
 inn:IsInner g a d n
 ne:a≠1
 cm:Compl m g a
 iv:Iv g a lo hi
theorem Ex.nd (h:Ex m g m' g') {a d n lo hi:Int} (q:Nd m g a d n lo hi):Nd m' g' a d n lo hi:=⟨h.inner q.inn,q.ne,h.compl q.inn q.cm,h.iv q.iv⟩
theorem OkI.nd {c w lo hi:Int} (q:OkI m g c w) (sv:SIv g c lo hi):∃ d n,Nd m g (ad w) d n lo hi/\2<=d:=by
 obtain ⟨_,d,n,h1,h2,h3,h4,h5⟩:=q;exact ⟨d,n,⟨h1,h3,h5,Iv.slot sv h3 h4⟩,h2⟩
structure Mk (t:Nat) (m:Mst) (g:Gh) (a:Int) (z:Int) (m':Mst) (g':Gh):Prop where
 rl:Rl t m g m' g'
 ft:∃ ps,FT m' g' a ps/\z=ps.length/\m'.look (a+4)=ps.length+1
def MarkC (t N f:Nat):Prop:=∀ (m:Mst) (g:Gh) (a d n lo hi:Int),Inv m g->Nd m g a d n lo hi->Safe t (Pr.mark N f a) (fun z m' g'=>Mk t m g a z m' g') m g
theorem sumLen (q:Nat->Ps) (k:Nat):(((List.range (k+1)).flatMap q).length:Int)=(((List.range k).flatMap q).length:Int)+(q k).length:=by
 rw [List.range_succ,List.flatMap_append];simp
structure Kd (t:Nat) (m0:Mst) (g0:Gh) (m:Mst) (g:Gh) (a d:Int) (q:Nat->Ps) (k:Nat):Prop where
 rl:Rl t m0 g0 m g
 shut:m.look (a+2)≠0
 fs:∀ i:Nat,i < k->FS m g (FT m g) (a+4+d+i) (q i)
theorem Kd.on {m0:Mst} {g0:Gh} {a d n:Int} {q:Nat->Ps} {k:Nat} (h:Kd t m0 g0 m g a d q k) (hI:IsInner g a d n) (r:Rl t m g m' g'):Kd t m0 g0 m' g' a d q k:=
 ⟨h.rl.trans r,r.ex.shut _ hI.c2 h.shut,fun i hi=>r.ex.fsT (h.fs i hi)⟩
theorem Kd.few {m0:Mst} {g0:Gh} {a d n lo hi:Int} {q:Nat->Ps} {k:Nat} (h:Kd t m0 g0 m g a d q k) (hN:Nd m g a d n lo hi) (hk:(k:Int)<=d):((List.range k).flatMap q).length<=16384:=by
 obtain ⟨a1,a2⟩:=pre_up h.rl.inv hN.iv hN.inn q k hk (fun i hi'=>one_up h.rl.inv (fun q1 q2=>FT.up h.rl.inv q1 q2) (Slot.siv ⟨hN.inn,by omega,by omega,rfl⟩ hN.iv) (h.fs i hi'));exact up_few h.rl.inv (fun p hp=>(a1 p hp).2.2.1) a2
theorem Kd.more {m0:Mst} {g0:Gh} {a d:Int} {q:Nat->Ps} {k:Nat} (h:Kd t m0 g0 m g a d q k) {ps:Ps} (hp:FS m g (FT m g) (a+4+d+k) ps):Kd t m0 g0 m g a d (fun i=>if i=k then ps else q i) (k+1):=
 ⟨h.rl,h.shut,fun i hi=>by
  by_cases e:i=k
  ·show FS m g _ _ (if i=k then ps else q i);rw [if_pos e,e];exact hp
  ·show FS m g _ _ (if i=k then ps else q i);rw [if_neg e];exact h.fs i (by omega)⟩
theorem pre_same (q:Nat->Ps) (k:Nat) (ps:Ps):(List.range k).flatMap (fun i=>if i=k then ps else q i)=(List.range k).flatMap q:=by
 have:∀ l:List Nat,(∀ i ∈ l,i≠k)->l.flatMap (fun i=>if i=k then ps else q i)=l.flatMap q:=by
  intro l
  induction l with
  | nil=>intro _;rfl
  | cons i l ih=>
   intro hl;rw [List.flatMap_cons,List.flatMap_cons,if_neg (hl i (by simp)),ih (fun j hj=>hl j (by simp [hj]))]
 exact this _ (fun i hi=>by have:=List.mem_range.1 hi;omega)
theorem kids_safe (t N f:Nat) (ih:MarkC t N f) {m0:Mst} {g0:Gh} {a d n lo hi:Int} (hN:Nd m0 g0 a d n lo hi) (hI0:Inv m0 g0):∀ (c k:Nat) (y:Int) (q:Nat->Ps) (m:Mst) (g:Gh),(k:Int)+c=d->Kd t m0 g0 m g a d q k->y=((List.range k).flatMap q).length->
  Safe t (Pr.markK (Pr.mark N f) N a d c k y) (fun z m' g'=>∃ q',Kd t m0 g0 m' g' a d q' d.toNat/\z=((List.range d.toNat).flatMap q').length) m g
 | 0,k,y,q,m,g,hk,h,hy=>by
  unfold Pr.markK
  have:d.toNat=k:=by omega
  exact ⟨q,by rw [this];exact h,by rw [this];exact hy⟩
 | c+1,k,y,q,m,g,hk,h,hy=>by
  unfold Pr.markK;have f0:=hN.inn.far hI0;have hs0:Slot g0 (a+4+d+k) a d n k:=⟨hN.inn,by omega,by omega,rfl⟩;have hN1:=h.rl.ex.nd hN;have cz:childZ a d k=a+4+d+k:=childZ_in (by omega) (by omega) (by have:=hN.inn.pos;omega) (by omega) (by omega) (by omega);rw [cz];refine Safe.bind (Safe.mono ?_ (slot_safe N (h.rl.ex.sl hs0).ro));rintro w m1 g1 ⟨r1,ew,k5⟩;have h1:=h.on hN1.inn r1;have hN2:=r1.ex.nd hN1;have hs1:Slot g1 (a+4+d+k) a d n k:=⟨hN2.inn,by omega,by omega,rfl⟩;have sv1:=hs1.siv hN2.iv;have w0:w≠0:=by rw [<- ew];exact hN2.cm d n k hN2.inn (by omega) (by omega)
  have hz:Fz m1 g1 (a+4+d+k) w:=⟨a,d,n,k,hs1,h1.shut,w0,k5,.inl ew⟩;have ok:=hz.okW r1.inv;have next:∀ (ps:Ps) (m2:Mst) (g2:Gh) (y':Int),Kd t m0 g0 m2 g2 a d q k->FS m2 g2 (FT m2 g2) (a+4+d+k) ps->y'=wrap64 (y+ps.length)->Safe t (Pr.markK (Pr.mark N f) N a d c ((k:Int)+1) y') (fun z m' g'=>∃ q',Kd t m0 g0 m' g' a d q' d.toNat/\z=((List.range d.toNat).flatMap q').length) m2 g2:=fun ps m2 g2 y' h2 hp hy'=>by
   have h3:=h2.more hp;have b:=h3.few (h2.rl.ex.nd hN) (by omega);have e:=sumLen (fun i=>if i=k then ps else q i) k;rw [pre_same,if_pos rfl] at e
   have:=kids_safe t N f ih hN hI0 c (k+1) y' _ m2 g2 (by omega) h3 (by rw [hy',Pt.wrap_same (by omega) (by omega)];omega)
   rwa [show ((k+1:Nat):Int)=(k:Int)+1 by omega] at this
  split
  ·rename_i k2;rcases ok with ⟨k',_⟩ | ⟨_,u,v,hl,_⟩ | ⟨k',_⟩ | ⟨k',_⟩
   ·omega
   ·exact next [(u,v)] m1 g1 _ h1 ⟨w,hz,.inr (.inl ⟨k2,u,v,hl,rfl⟩)⟩ rfl
   ·omega
   ·omega
  ·rename_i k2
   split
   ·rename_i k3;rcases ok with ⟨k',_⟩ | ⟨k',_⟩ | hO | ⟨k',_⟩
    ·omega
    ·omega
    ·obtain ⟨d',n',hN',_⟩:=hO.nd sv1;refine Safe.bind (Safe.mono ?_ (ih m1 g1 (ad w) d' n' _ _ r1.inv hN'));rintro z m2 g2 ⟨r2,ps,hp,ez,e4⟩;exact next ps m2 g2 _ (h1.on hN2.inn r2) ⟨w,r2.ex.fz _ _ hz,.inr (.inr (.inl ⟨k3,hp,e4⟩))⟩ (by rw [ez])
    ·omega
   ·rename_i k3
    split
    ·rename_i k4;rcases ok with ⟨k',_⟩ | ⟨k',_⟩ | ⟨k',_⟩ | ⟨_,tg,gd,hR,_,hO⟩
     ·omega
     ·omega
     ·omega
     ·refine Safe.bind (Safe.read fun m2 g2 r2=>?_);have hR2:=r2.ex.reb hR;rw [r2.inv.fix hR2.c0];have h2:=h1.on hN2.inn r2;have hN3:=r2.ex.nd hN2;obtain ⟨d',n',hN',_⟩:=(r2.ex.okI hO).nd (r2.ex.siv sv1);refine Safe.bind (Safe.mono ?_ (ih m2 g2 (ad tg) d' n' _ _ r2.inv hN'));rintro z m3 g3 ⟨r3,ps,hp,ez,e4⟩;exact next ps m3 g3 _ (h2.on hN3.inn r3) ⟨w,r3.ex.fz _ _ (r2.ex.fz _ _ hz),.inr (.inr (.inr ⟨k4,tg,gd,_,r3.ex.reb hR2,hp,e4⟩))⟩ (by rw [ez])
    ·rename_i k4;have k1:=ok.knd
     have:=next [] m1 g1 y h1 ⟨w,hz,.inl ⟨by omega,rfl⟩⟩ (by
      have b:=h.few hN1 (by omega);rw [Pt.wrap_same (by simp;omega) (by simp;omega)];simp)
     exact this
theorem mark_safe (t N:Nat):∀ f,MarkC t N f
 | 0=>fun _ _ _ _ _ _ _ _ _=>trivial
 | f+1=>fun m g a d n lo hi h hN=>by
  have ih:=mark_safe t N f;have f0:=hN.inn.far h;have p0:=hN.inn.pos;have e4:wrap64 (a+4)=a+4:=Pt.wrap_same (by omega) (by omega);have e2:wrap64 (a+2)=a+2:=Pt.wrap_same (by omega) (by omega);unfold Pr.mark;rw [e4,e2];refine Safe.bind (Safe.read fun m1 g1 r1=>?_);have hN1:=r1.ex.nd hN
  split
  ·refine Safe.bind (Safe.write fun m2 g2 r2=>?_);have R2:=r1.trans r2;have hN2:=R2.ex.nd hN;have hu:m2.used (a+2)=true:=(r2.inv.used _).1 (by rw [hN2.inn.c2];exact fun e=>by cases e);have hp:=write_put r2.inv.ok hu (x:=1) ⟨by decide,by decide⟩;have st:=step_shut r2.inv hN2.inn hN2.ne hN2.cm hp;refine ⟨g2,Gt.same st,?_⟩;have R3:=R2.trans (Gt.rl' st);refine Safe.bind (Safe.read fun m4 g4 r4=>?_);have R4:=R3.trans r4;have hN4:=R4.ex.nd hN;rw [r4.inv.fix hN4.inn.c0];have sh:m4.look (a+2)≠0:=r4.ex.shut _ hN2.inn.c2 (by rw [hp.eq];decide);refine Safe.bind (Safe.mono ?_ (kids_safe t N f ih hN h d.toNat 0 0 (fun _=>[]) m4 g4 (by omega) ⟨R4,sh,fun i hi'=>absurd hi' (by omega)⟩ (by simp)));rintro z m5 g5 ⟨q,hK,ez⟩;have hN5:=hK.rl.ex.nd hN;have b:=hK.few hN5 (by omega);refine Safe.bind (Safe.write fun m6 g6 r6=>?_);have R6:=hK.rl.trans r6;have hN6:=R6.ex.nd hN;have hK6:=hK.on hN5.inn r6;have hF:=ft_mk hN6.inn hK6.shut q (fun i hi'=>hK6.fs i (by omega));have ew:wrap64 (z+1)=(((List.range d.toNat).flatMap q).length:Int)+1:=by rw [ez];exact Pt.wrap_same (by omega) (by omega)
   rw [ew];have hu6:m6.used (a+4)=true:=(r6.inv.used _).1 (by rw [hN6.inn.c4];exact fun e=>by cases e);have hp6:=write_put r6.inv.ok hu6 (x:=(((List.range d.toNat).flatMap q).length:Int)+1) ⟨by omega,by omega⟩;have st6:=step_sum r6.inv hN6.inn hF hp6;refine ⟨g6,Gt.same st6,?_⟩;exact ⟨R6.trans (Gt.rl' st6),_,st6.2.ft hF,ez,hp6.eq⟩
  ·rename_i e;have c:=r1.inv.cell (a+4);unfold COk at c;rw [hN1.inn.c4,hN1.inn.rb (j:=4) (by omega) (by omega)] at c;rcases c with c | ⟨ps,c1,c2⟩
   ·exact absurd c e
   ·have b:=c1.few r1.inv hN1.iv;exact ⟨r1,ps,c1,by rw [c2,Pt.wrap_same (by omega) (by omega)];omega,c2⟩
end Sd
namespace Sd
namespace Pr
def gatherK (g:Int->Int->Int->Ps->Pr Ps) (n d f tu:Int):Nat->Int->Int->Ps->Pr Ps
 | 0,_,_,ys=>ret ys
 | c+1,i,rk,ys=>
  if tu<=rk then ret ys else (peek (childZ n d i)).bind fun x=>
  if kd x=2 then
   if f<=rk then (read (ad x)).bind fun k=>(read (ad x+1)).bind fun v=>gatherK g n d f tu c (i+1) (wrap64 (rk+1)) (ys++[(k,v)])
   else gatherK g n d f tu c (i+1) (wrap64 (rk+1)) ys
  else if kd x=3 then (read (ad x+4)).bind fun q=>
   if f < wrap64 (rk+wrap64 (q - 1)) then (g (ad x) (wrap64 (f - rk)) (wrap64 (tu - rk)) ys).bind fun y=>gatherK g n d f tu c (i+1) (wrap64 (rk+wrap64 (q - 1))) y
   else gatherK g n d f tu c (i+1) (wrap64 (rk+wrap64 (q - 1))) ys
  else if kd x=4 then (read (ad x)).bind fun b=>(read (ad b+4)).bind fun q=>
   if f < wrap64 (rk+wrap64 (q - 1)) then (g (ad b) (wrap64 (f - rk)) (wrap64 (tu - rk)) ys).bind fun y=>gatherK g n d f tu c (i+1) (wrap64 (rk+wrap64 (q - 1))) y
   else gatherK g n d f tu c (i+1) (wrap64 (rk+wrap64 (q - 1))) ys
  else gatherK g n d f tu c (i+1) rk ys
def gather:Nat->Int->Int->Int->Ps->Pr Ps
 | 0=>fun _ _ _ _=>stop
 | F+1=>fun n f tu xs=>(read n).bind fun d=>gatherK (gather F) n d f tu d.toNat 0 0 xs
end Pr
variable {t:Nat} {m m':Mst} {g g':Gh}
def sel (ps:Ps) (f tu:Int):Ps:=(ps.take tu.toNat).drop f.toNat
theorem sel_append (A B:Ps) (f tu:Int):sel (A++B) f tu=sel A f tu++sel B (f - A.length) (tu - A.length):=by
 unfold sel;rw [List.take_append,List.drop_append,show tu.toNat - A.length=(tu - A.length).toNat by omega];congr 1
 by_cases h:A.length<=tu.toNat
 ·rw [List.length_take,Nat.min_eq_right h,show f.toNat - A.length=(f - A.length).toNat by omega]
 ·rw [show (tu - (A.length:Int)).toNat=0 by omega];simp
theorem sel_none {ps:Ps} {f tu:Int} (h:tu<=0∨(ps.length:Int)<=f):sel ps f tu=[]:=by
 unfold sel;rcases h with h | h
 ·rw [show tu.toNat=0 by omega];simp
 ·apply List.drop_of_length_le;rw [List.length_take];omega
theorem sel_one {p:Int × Int} {f tu:Int} (h:f<=0) (h2:0 < tu):sel [p] f tu=[p]:=by
 unfold sel;rw [show f.toNat=0 by omega,List.drop_zero,List.take_of_length_le (by simp;omega)]
theorem peek_fz {c w:Int} (hz:Fz m g c w):Safe t (Pr.peek c) (fun z m' g'=>Rl t m g m' g'/\z=w) m g:=by
 unfold Pr.peek;refine Safe.bind (Safe.read fun m1 g1 r1=>?_);obtain ⟨a,d,n,i,hs,_,_,k5,q⟩:=r1.ex.fz _ _ hz;rcases q with q | ⟨q5,q1,q2,gd,x,hD⟩
 ·rw [q,if_neg k5];exact ⟨r1,rfl⟩
 ·rw [if_pos q5];refine Safe.bind (Safe.read fun m2 g2 r2=>?_);have hD2:=r2.ex.dc hD;have lt2:=(r2.ex.pl _ q1).2.trans q2;rw [if_neg ((r2.inv.dc hD2).2.2.2.2.2 lt2)];refine Safe.read fun m3 g3 r3=>⟨(r1.trans r2).trans r3,r3.inv.fix (r3.ex.dc hD2).c2⟩
def GatherC (t F:Nat):Prop:=∀ (m:Mst) (g:Gh) (a f tu lo hi:Int) (ps xs:Ps),Inv m g->Iv g a lo hi->FT m g a ps->-4000000000000000000+65536 * (F:Int)<=f->f<=1000000->-4000000000000000000+65536 * (F:Int)<=tu->tu<=1000000->Safe t (Pr.gather F a f tu xs) (fun ys m' g'=>Rl t m g m' g'/\ys=xs++sel ps f tu) m g
theorem FT.parts {a:Int} {ps:Ps} (h:FT m g a ps):∃ (d n:Int) (q:Nat->Ps),IsInner g a d n/\m.look (a+2)≠0/\(∀ i:Nat,(i:Int) < d->FS m g (FT m g) (a+4+d+i) (q i))/\ps=(List.range d.toNat).flatMap q:=by
 obtain ⟨f,h⟩:=h;cases f with
 | zero=>exact h.elim
 | succ f=>
  obtain ⟨d,n,q,h1,h2,h3,h4⟩:=h;exact ⟨d,n,q,h1,h2,fun i hi=>FS.mono (fun _ _ e=>⟨f,e⟩) (h3 i hi),h4⟩
theorem range_split (q:Nat->Ps) {k D:Nat} (h:k<=D):∃ R:Ps,(List.range D).flatMap q=(List.range k).flatMap q++R:=by
 induction h with
 | refl=>exact ⟨[],by simp⟩
 | @step D _ ih=>
  obtain ⟨R,e⟩:=ih;exact ⟨R++q D,by rw [List.range_succ,List.flatMap_append,e];simp⟩
theorem gatherK_safe (t F:Nat) (ih:GatherC t F) {m0:Mst} {g0:Gh} {a d n lo hi f tu:Int} {q:Nat->Ps} (h0:Inv m0 g0) (hv:Iv g0 a lo hi) (hI:IsInner g0 a d n) (hF:FT m0 g0 a ((List.range d.toNat).flatMap q)) (hq:∀ i:Nat,(i:Int) < d->FS m0 g0 (FT m0 g0) (a+4+d+i) (q i)) (xs:Ps)
  (b1:-4000000000000000000+65536 * ((F+1:Nat):Int)<=f) (b2:f<=1000000) (b3:-4000000000000000000+65536 * ((F+1:Nat):Int)<=tu) (b4:tu<=1000000):∀ (c k:Nat) (rk:Int) (ys:Ps) (m:Mst) (g:Gh),(k:Int)+c=d->Rl t m0 g0 m g->rk=((List.range k).flatMap q).length->ys=xs++sel ((List.range k).flatMap q) f tu->
  Safe t (Pr.gatherK (Pr.gather F) a d f tu c k rk ys) (fun ys m' g'=>Rl t m0 g0 m' g'/\ys=xs++sel ((List.range d.toNat).flatMap q) f tu) m g
 | 0,k,rk,ys,m,g,hk,r,hr,hy=>by
  unfold Pr.gatherK
  have:d.toNat=k:=by omega
  rw [this];exact ⟨r,hy⟩
 | c+1,k,rk,ys,m,g,hk,r,hr,hy=>by
  have f0:=hI.far h0;have p0:=hI.pos;have tot:=hF.few h0 hv;obtain ⟨R,eR⟩:=range_split q (k:=k+1) (D:=d.toNat) (by omega);have eS:(List.range (k+1)).flatMap q=(List.range k).flatMap q++q k:=by rw [List.range_succ,List.flatMap_append];simp
  have lS:=sumLen q k;have lT:((List.range (k+1)).flatMap q).length<=65536:=by
   rw [eR,List.length_append] at tot;omega
  unfold Pr.gatherK
  split
  ·rename_i e;refine ⟨r,?_⟩;obtain ⟨R',eR'⟩:=range_split q (k:=k) (D:=d.toNat) (by omega);rw [hy,eR',sel_append,sel_none (ps:=R') (.inl (by omega))];simp
  rename_i lt;have next:∀ (m2:Mst) (g2:Gh) (rk':Int) (ys':Ps),Rl t m0 g0 m2 g2->rk'=rk+(q k).length->ys'=ys++sel (q k) (f - rk) (tu - rk)->Safe t (Pr.gatherK (Pr.gather F) a d f tu c ((k:Int)+1) rk' ys') (fun ys m' g'=>Rl t m0 g0 m' g'/\ys=xs++sel ((List.range d.toNat).flatMap q) f tu) m2 g2:=fun m2 g2 rk' ys' r2 e1 e2=>by
   have:=gatherK_safe t F ih h0 hv hI hF hq xs b1 b2 b3 b4 c (k+1) rk' ys' m2 g2 (by omega) r2 (by rw [e1];omega) (by rw [e2,hy,eS,sel_append,List.append_assoc,<- hr])
   rwa [show ((k+1:Nat):Int)=(k:Int)+1 by omega] at this
  have hfs:=r.ex.fsT (hq k (by omega));have hs:Slot g (a+4+d+k) a d n k:=⟨r.ex.inner hI,by omega,by omega,rfl⟩;have sv:=hs.siv (r.ex.iv hv);obtain ⟨w,hz,hw⟩:=hfs;have ok:=hz.okW r.inv;rw [show childZ a d k=a+4+d+k from childZ_in (by omega) (by omega) (by omega) (by omega) (by omega) (by omega)];refine Safe.bind (Safe.mono ?_ (peek_fz hz));rintro z m1 g1 ⟨r1,rfl⟩;have R1:=r.trans r1;have sub:∀ (x:Int) (m2:Mst) (g2:Gh) (l u:Int),Rl t m0 g0 m2 g2->Iv g2 x l u->FT m2 g2 x (q k)->m2.look (x+4)=(q k).length+1->Safe t ((Pr.read (x+4)).bind fun q1=>if f < wrap64 (rk+wrap64 (q1 - 1)) then (Pr.gather F x (wrap64 (f - rk)) (wrap64 (tu - rk)) ys).bind fun y=>Pr.gatherK (Pr.gather F) a d f tu c ((k:Int)+1) (wrap64 (rk+wrap64 (q1 - 1))) y else Pr.gatherK (Pr.gather F) a d f tu c ((k:Int)+1) (wrap64 (rk+wrap64 (q1 - 1))) ys) (fun ys m' g'=>Rl t m0 g0 m' g'/\ys=xs++sel ((List.range d.toNat).flatMap q) f tu) m2 g2:=fun x m2 g2 l u r2 hx hf e4=>by
   obtain ⟨d2,n2,_,hI2,_⟩:=hf.parts;refine Safe.bind (Safe.read fun m3 g3 r3=>?_);have e5:=r3.ex.stay _ (.inl hI2.c4) (by rw [e4];omega);rw [e5,e4,show wrap64 (((q k).length:Int)+1 - 1)=(q k).length by rw [Pt.wrap_same (by omega) (by omega)];omega,show wrap64 (rk+((q k).length:Int))=rk+(q k).length from Pt.wrap_same (by omega) (by omega)];have R3:=r2.trans r3
   split
   ·rw [show wrap64 (f - rk)=f - rk from Pt.wrap_same (by omega) (by omega),show wrap64 (tu - rk)=tu - rk from Pt.wrap_same (by omega) (by omega)];refine Safe.bind (Safe.mono ?_ (ih m3 g3 x (f - rk) (tu - rk) l u (q k) ys r3.inv (r3.ex.iv hx) (r3.ex.ft hf) (by omega) (by omega) (by omega) (by omega)));rintro y m4 g4 ⟨r4,ey⟩;exact next m4 g4 _ y (R3.trans r4) rfl ey
   ·rename_i e;exact next m3 g3 _ ys R3 rfl (by rw [sel_none (.inr (by omega))];simp)
  split
  ·rename_i k2;rcases hw with ⟨k',_⟩ | ⟨_,u,v,hl,eq⟩ | ⟨k',_⟩ | ⟨k',_⟩
   ·omega
   ·have hl1:=r1.ex.leaf hl;have e1:wrap64 (rk+1)=rk+(q k).length:=by rw [eq,Pt.wrap_same (by omega) (by omega)];rfl
    rw [e1]
    split
    ·rename_i e;refine Safe.bind (Safe.read fun m2 g2 r2=>?_);rw [r2.inv.fix (r2.ex.leaf hl1).c0];refine Safe.bind (Safe.read fun m3 g3 r3=>?_);rw [r3.inv.fix (r3.ex.leaf (r2.ex.leaf hl1)).c1];exact next m3 g3 _ _ ((R1.trans r2).trans r3) rfl (by rw [eq,sel_one (by omega) (by omega)])
    ·rename_i e;exact next m1 g1 _ ys R1 rfl (by rw [eq,sel_none (.inr (by simp;omega))];simp)
   ·omega
   ·omega
  rename_i k2
  split
  ·rename_i k3;rcases hw with ⟨k',_⟩ | ⟨k',_⟩ | ⟨_,hf,e4⟩ | ⟨k',_⟩
   ·omega
   ·omega
   ·rcases ok with ⟨k',_⟩ | ⟨k',_⟩ | hO | ⟨k',_⟩
    ·omega
    ·omega
    ·obtain ⟨d',n',hN,_⟩:=hO.nd sv;exact sub _ m1 g1 _ _ R1 (r1.ex.iv hN.iv) (r1.ex.ft hf) (by rw [r1.ex.stay _ (.inl hN.inn.c4) (by rw [e4];omega)];exact e4)
    ·omega
   ·omega
  rename_i k3
  split
  ·rename_i k4;rcases hw with ⟨k',_⟩ | ⟨k',_⟩ | ⟨k',_⟩ | ⟨_,tg,gd,p,hR,hf,e4⟩
   ·omega
   ·omega
   ·omega
   ·rcases ok with ⟨k',_⟩ | ⟨k',_⟩ | ⟨k',_⟩ | ⟨_,tg',gd',hR',_,hO⟩
    ·omega
    ·omega
    ·omega
    ·obtain ⟨rfl,_⟩:=hR.fn hR';obtain ⟨d',n',hN,_⟩:=hO.nd sv;refine Safe.bind (Safe.read fun m2 g2 r2=>?_);rw [r2.inv.fix (r2.ex.reb (r1.ex.reb hR)).c0];have x12:=r1.ex.trans r2.ex;exact sub _ m2 g2 _ _ (R1.trans r2) (x12.iv hN.iv) (x12.ft hf) (by rw [x12.stay _ (.inl hN.inn.c4) (by rw [e4];omega)];exact e4)
  ·rename_i k4;rcases hw with ⟨_,eq⟩ | ⟨k',_⟩ | ⟨k',_⟩ | ⟨k',_⟩
   ·exact next m1 g1 _ ys R1 (by rw [eq];simp) (by rw [eq];simp [sel])
   ·omega
   ·omega
   ·omega
theorem gather_safe (t:Nat):∀ F,GatherC t F
 | 0=>fun _ _ _ _ _ _ _ _ _ _ _ _ _ _ _ _=>trivial
 | F+1=>fun m g a f tu lo hi ps xs h hv hF b1 b2 b3 b4=>by
  obtain ⟨d,n,q,hI,_,hq,e⟩:=hF.parts;subst e;unfold Pr.gather;refine Safe.bind (Safe.read fun m1 g1 r1=>?_);rw [r1.inv.fix (r1.ex.inner hI).c0]
  have:=hI.pos
  exact gatherK_safe t F (gather_safe t F) h hv hI hF hq xs b1 b2 b3 b4 d.toNat 0 0 xs m1 g1 (by omega) r1 (by simp) (by simp [sel])
end Sd
namespace Sd
namespace Pr
def recM (k:Int) (ws:List Int):Pr (Int × Bool):=(make ws).bind fun a=>ret (Rf.ofZ k a,decide (0 < a))
def growK (L:Ps->Pr (Int × Bool)) (ps:Ps):Nat->Pr (Bool × List Int)
 | 0=>ret (true,[])
 | i+1=>(growK L ps i).bind fun r=>if r.1=false then ret r else (L (partL ps (i:Int))).bind fun z=>ret (z.2,r.2++[z.1])
def grow:Nat->Ps->Pr (Int × Bool)
 | 0,_=>ret (0,false)
 | f+1,ps=>if ps.length=0 then recM 1 [0] else if ps.length=1 then recM 2 [(ps.headD (0,0)).1,(ps.headD (0,0)).2]
  else (growK (grow f) ps (Pt.degZ ps.length).toNat).bind fun r=>if r.1=true then recM 3 (innerL ps.length (lowL ps (Pt.degZ ps.length).toNat) r.2) else ret (0,false)
end Pr
variable {t:Nat} {m m':Mst} {g g':Gh}
theorem ofk {k D:Int} (h0:1<=k) (h3:k<=5) (h1:1<=D) (h2:D<=65536):kd (Rf.ofZ k D)=k/\ad (Rf.ofZ k D)=D:=by
 have e:Rf.ofZ k D=8 * D+k:=by unfold Rf.ofZ Rf.may;rw [if_pos (by simp;omega)]
 have r:Rf.rt (8 * D+k)=true:=by unfold Rf.rt;simp;omega
 rw [e];refine ⟨?_,?_⟩
 ·unfold kd Rf.kindZ;rw [if_pos r];omega
 ·unfold ad Rf.atZ;rw [if_pos r];omega
def Prv (t:Nat) (m:Mst) (g:Gh) (w:Int) (l:Ps):Prop:=
 (kd w=1/\l=[]/\IsEmpty g (ad w)/\g.hm (ad w)=none/\g.ow (ad w)=t/\ad w≠1)∨
 (kd w=2/\∃ k v,IsLeaf g (ad w) k v/\l=[(k,v)])∨
 (kd w=3/\ad w≠1/\g.hm (ad w)=none/\g.ow (ad w)=t/\Compl m g (ad w)/\∃ d n,IsInner g (ad w) d n/\2<=d/\∃ f,∀ lo hi,(∀ p ∈ l,lo<=p.1/\p.1<=hi)->PTf m g f (ad w) lo hi)
theorem unlinked {b:Int} (h1:b≠1) (h2:g.hm b=none):∀ lo hi,¬ Iv g b lo hi:=fun lo hi e=>by
 cases e with
 | top _=>exact h1 rfl
 | sub _ _ _ _ _ e2=>rw [h2] at e2;cases e2
theorem below {b c a d n i:Int} (hb:b≠1) (hm:g.hm b=some c) (hs:Slot g c a d n i) (hu:∀ lo hi,¬ Iv g a lo hi):∀ lo hi,¬ Iv g b lo hi:=fun lo hi e=>by
 cases e with
 | top _=>exact hb rfl
 | @sub a' l' u' d' n' i' _ q1 q2 q3 q4 _ e2=>
  rw [hm] at e2;have ec:=Option.some.inj e2;obtain ⟨rfl,_⟩:=hs.fn (⟨q2,q3,q4,ec⟩:Slot g c a' d' n' i');exact hu _ _ q1
theorem IsLeaf.fn {a k v k' v':Int} (h:IsLeaf g a k v) (h':IsLeaf g a k' v'):k=k'/\v=v':=
 ⟨Ro.fix.inj (Option.some.inj (h.c0.symm.trans h'.c0)),Ro.fix.inj (Option.some.inj (h.c1.symm.trans h'.c1))⟩
theorem PTf.on (h:Inv m g) (hE:Ex m g m' g'):∀ {f:Nat} {b d n lo hi:Int},IsInner g b d n->(∀ lo hi,¬ Iv g' b lo hi)->PTf m g f b lo hi->PTf m' g' f b lo hi
 | 0,_,_,_,_,_,_,_,q=>q.elim
 | f+1,b,d,n,lo,hi,hI,hu,q=>by
  intro d' n' hI';obtain ⟨rfl,rfl⟩:=(hE.inner hI).deg hI';obtain ⟨q1,q2⟩:=q d n hI;refine ⟨fun i h1 h2=>?_,fun i h1 h2=>?_⟩
  ·rw [hE.gl hI h1 (by omega),hE.gk hI (by omega) h2];exact q1 i h1 h2
  ·have hs:Slot g (b+4+d+i) b d n i:=⟨hI,h1,h2,rfl⟩;have e:=hE.still _ b d n i hs hu;rw [e,hE.gl hI h1 h2,hE.gu hI h1];rcases q2 i h1 h2 with q2 | ⟨q2,q3,q4⟩
   ·exact .inl q2
   ·generalize hw:m.look (b+4+d+i)=w at *
    by_cases w0:w=0
    ·exact .inl w0
    have ok:OkW m g (b+4+d+i) w:=by
     rcases h.sees hs.ro with e | e | ⟨e,_⟩
     ·rw [hw] at e;exact absurd e w0
     ·rwa [hw] at e
     ·rw [hw] at e;exact absurd e q2
    refine .inr ⟨q2,fun k v hl=>?_,fun d2 n2 hI2=>?_⟩
    ·rcases ok with ⟨_,e1,_⟩ | ⟨_,k',v',e1,_⟩ | ⟨_,_,_,e1,_⟩ | ⟨_,_,_,e1,_⟩
     ·have:=(hE.empty e1).kn.symm.trans hl.kn;omega
     ·obtain ⟨rfl,rfl⟩:=(hE.leaf e1).fn hl;exact q3 _ _ e1
     ·have:=(hE.inner e1).kn.symm.trans hl.kn;omega
     ·have:=(hE.reb e1).kn.symm.trans hl.kn;omega
    ·rcases ok with ⟨_,e1,_⟩ | ⟨_,k',v',e1,_⟩ | ⟨_,d3,n3,e1,_,e2,e3,_⟩ | ⟨_,_,_,e1,_⟩
     ·have:=(hE.empty e1).kn.symm.trans hI2.kn;omega
     ·have:=(hE.leaf e1).kn.symm.trans hI2.kn;omega
     ·exact PTf.on h hE e1 (below e2 (hE.hm _ _ e3) (hE.sl hs) hu) (q4 d3 n3 e1)
     ·have:=(hE.reb e1).kn.symm.trans hI2.kn;omega
theorem Rl.own1 (h:Rl t m g m' g') {b:Int} (hu:g.ro b≠none) (ho:g.ow b=t) (hm:g.hm b=none):g'.hm b=none/\g'.ow b=t:=by
 obtain ⟨e1,e2⟩:=h.own b hu;exact ⟨(e2 ho).1.trans hm,e1.trans ho⟩
theorem Prv.on (h:Inv m g) (r:Rl t m g m' g') {w:Int} {l:Ps} (q:Prv t m g w l):Prv t m' g' w l:=by
 rcases q with ⟨k,e,h1,h2,h3,h4⟩ | ⟨k,u,v,h1,e⟩ | ⟨k,h1,h2,h3,h4,d,n,h5,h6,f,h7⟩
 ·obtain ⟨a1,a2⟩:=r.own1 (by rw [h1.c0];exact fun e=>by cases e) h3 h2;exact .inl ⟨k,e,r.ex.empty h1,a1,a2,h4⟩
 ·exact .inr (.inl ⟨k,u,v,r.ex.leaf h1,e⟩)
 ·obtain ⟨a1,a2⟩:=r.own1 (by rw [h5.c0];exact fun e=>by cases e) h3 h2;exact .inr (.inr ⟨k,h1,a1,a2,r.ex.compl h5 h4,d,n,r.ex.inner h5,h6,f,fun lo hi e=>(h7 lo hi e).on h r.ex h5 (unlinked h1 a1)⟩)
theorem part_ix {ps:Ps} {i:Int} (h0:0<=i) (h1:i < Pt.degZ ps.length) {p:Int × Int} (hp:p ∈ partL ps i):∃ x:Nat,ps[x]? = some p/\Pt.aheadZ ps.length i<=x/\(x:Int) < Pt.aheadZ ps.length (i+1):=by
 have a1:=Pt.from_some h0 h1;have a2:=Pt.ahead_step h0 h1;obtain ⟨b1,b2,b3⟩:=part_in h0 h1;obtain ⟨j,hj⟩:=List.getElem?_of_mem hp;unfold partL at hj;rw [List.getElem?_take,List.getElem?_drop] at hj
 split at hj
 ·exact ⟨_,hj,by omega,by omega⟩
 ·cases hj
theorem ahead_le {n i j:Int} (h0:0<=i) (hj:j<=Pt.degZ n):∀ k:Nat,i+k=j->Pt.aheadZ n i<=Pt.aheadZ n j
 | 0,e=>by rw [show j=i by omega];exact Int.le_refl _
 | k+1,e=>by
  have a1:=Pt.ahead_step (n:=n) (i:=i) h0 (by omega);have a2:=(part_in (n:=n) (i:=i) h0 (by omega)).2.1
  have:=ahead_le (n:=n) (i:=i+1) (by omega) hj k (by omega)
  omega
theorem part_lt {ps:Ps} (hu:Up ps) {i j:Int} (h0:0<=i) (h1:i < j) (h2:j < Pt.degZ ps.length) {p p':Int × Int} (hp:p ∈ partL ps i) (hp':p' ∈ partL ps j):p.1 < p'.1:=by
 obtain ⟨x,e1,_,x1⟩:=part_ix h0 (by omega) hp;obtain ⟨y,e2,y1,_⟩:=part_ix (by omega) h2 hp'
 have:=ahead_le (n:=(ps.length:Int)) (i:=i+1) (j:=j) (by omega) (by omega) (j - i - 1).toNat (by omega)
 obtain ⟨hx,rfl⟩:=List.getElem?_eq_some_iff.1 e1;obtain ⟨hy,rfl⟩:=List.getElem?_eq_some_iff.1 e2;exact List.pairwise_iff_getElem.1 hu x y hx hy (by omega)
theorem part_mem {ps:Ps} {i:Int} {p:Int × Int} (hp:p ∈ partL ps i):p ∈ ps:=List.mem_of_mem_drop (List.mem_of_mem_take hp)
theorem part_up {ps:Ps} (hu:Up ps) (i:Int):Up (partL ps i):=(List.Pairwise.sublist (List.drop_sublist _ _) hu).sublist (List.take_sublist _ _)
theorem part_head {ps:Ps} {i:Int} (h0:0<=i) (h1:i < Pt.degZ ps.length):(partL ps i).headD (0,0) ∈ partL ps i/\(Up ps->∀ p ∈ partL ps i,((partL ps i).headD (0,0)).1<=p.1):=by
 have hl:=partL_len h0 h1;have b2:=(part_in h0 h1).2.1;have hu:=fun q:Up ps=>part_up q i;cases e:partL ps i with
 | nil=>rw [e] at hl;simp at hl;omega
 | cons a l=>
  refine ⟨by simp,fun q p hp=>?_⟩
  have:=hu q
  rw [e] at this;unfold Up at this;rw [List.pairwise_cons] at this;rcases List.mem_cons.1 hp with rfl | hp
  ·exact Int.le_refl _
  ·have:=this.1 p hp
   simp;omega
theorem low_len (ps:Ps):∀ D,(lowL ps D).length=D - 1
 | 0=>rfl
 | n+1=>by
  rw [lowL]
  split
  ·rename_i h;subst h;rfl
  ·rw [List.length_append,low_len ps n,List.length_singleton];omega
theorem low_at (ps:Ps):∀ (D i:Nat),1<=i->i < D->(lowL ps D).getD (i - 1) 0=((partL ps (i:Int)).headD (0,0)).1
 | 0,_,_,h=>absurd h (by omega)
 | D+1,i,h1,h2=>by
  rw [lowL,if_neg (by omega)]
  by_cases e:i=D
  ·subst e;rw [List.getD_eq_getElem?_getD,List.getElem?_append_right (by rw [low_len];omega),low_len,Nat.sub_self];rfl
  ·rw [List.getD_eq_getElem?_getD,List.getElem?_append_left (by rw [low_len];omega),<- List.getD_eq_getElem?_getD];exact low_at ps D i h1 (by omega)
end Sd
namespace Sd
variable {t:Nat} {m m':Mst} {g g':Gh}
theorem recM_safe {k:Int} {ws:List Int} (hw:∀ z ∈ ws,I64 z) (h0:ws≠[]) {Q:Int × Bool->Mst->Gh->Prop}
  (h1:∀ m1 g1 m2 A,Rl t m g m1 g1->A=(m1.xs.length:Int)+1->A<=65536->More m1 m2 ws->∃ g2,Gt t m1 g1 m2 g2/\Q (Rf.ofZ k A,true) m2 g2) (hn:∀ m1 g1,Rl t m g m1 g1->Q (Rf.ofZ k 0,false) m1 g1):Safe t (Pr.recM k ws) Q m g:=by
 unfold Pr.recM;refine Safe.bind (Safe.make hw (fun m1 g1 m2 r1 hm=>?_) (fun m1 g1 r1=>?_))
 ·have hl:0 < ws.length:=List.length_pos_iff.2 h0;have hu:=(hm.used ((m1.xs.length:Int)+1)).2 (.inr ⟨by omega,by omega⟩);have b:=Mst.used_iff.1 hu;have b2:=hm.ok.2;obtain ⟨g2,q1,q2⟩:=h1 m1 g1 m2 _ r1 rfl (by omega) hm;refine ⟨g2,q1,?_⟩;show Q (Rf.ofZ k _,decide _) m2 g2;rw [decide_eq_true (by omega)];exact q2
 ·show Q (Rf.ofZ k 0,decide _) m1 g1;exact hn m1 g1 r1
structure Gw (t:Nat) (m:Mst) (g:Gh) (ps:Ps) (z:Int × Bool) (m':Mst) (g':Gh):Prop where
 rl:Rl t m g m' g'
 ok:z.2=true->Prv t m' g' z.1 ps/\(kd z.1≠2->g.ro (ad z.1)=none)/\I64 z.1
def GrowC' (t f:Nat):Prop:=∀ (m:Mst) (g:Gh) (ps:Ps),Inv m g->Up ps->(∀ p ∈ ps,I64 p.1/\I64 p.2)->ps.length<=16384->Safe t (Pr.grow f ps) (fun z m' g'=>Gw t m g ps z m' g') m g
structure Gk (t:Nat) (m0:Mst) (g0:Gh) (ps:Ps) (i:Nat) (r:Bool × List Int) (m:Mst) (g:Gh):Prop where
 rl:Rl t m0 g0 m g
 len:r.1=true->r.2.length=i
 kid:r.1=true->∀ (j:Nat) (w:Int),r.2[j]? = some w->Prv t m g w (partL ps j)/\g.ro (ad w)≠none/\(kd w≠2->g0.ro (ad w)=none)/\I64 w
 dis:r.1=true->∀ i j:Nat,∀ v w,r.2[i]? = some v->r.2[j]? = some w->kd v=3->kd w=3->ad v=ad w->i=j
theorem Prv.used {w:Int} {l:Ps} (q:Prv t m g w l):g.ro (ad w)≠none/\w≠0/\(1<=kd w/\kd w<=3):=by
 rcases q with ⟨k,e,h1,_⟩ | ⟨k,u,v,h1,e⟩ | ⟨k,_,_,_,_,d,n,h5,_⟩
 ·exact ⟨(by rw [h1.c0];exact (fun e=>by cases e)),fun e=>by rw [e] at k;exact absurd k (by decide),by omega⟩
 ·exact ⟨(by rw [h1.c0];exact (fun e=>by cases e)),fun e=>by rw [e] at k;exact absurd k (by decide),by omega⟩
 ·exact ⟨(by rw [h5.c0];exact (fun e=>by cases e)),fun e=>by rw [e] at k;exact absurd k (by decide),by omega⟩
theorem growK_safe (f:Nat) (ih:GrowC' t f) {m0:Mst} {g0:Gh} {ps:Ps} (hI:Inv m0 g0) (hu:Up ps) (hi:∀ p ∈ ps,I64 p.1/\I64 p.2) (hl:ps.length<=16384):∀ i:Nat,(i:Int)<=Pt.degZ ps.length->Safe t (Pr.growK (Pr.grow f) ps i) (fun r m g=>Gk t m0 g0 ps i r m g) m0 g0
 | 0,_=>⟨Rl.refl hI,fun _=>rfl,fun _ j w e=>by simp at e,fun _ i j v w e=>by simp at e⟩
 | i+1,hd=>by
  unfold Pr.growK;refine Safe.bind (Safe.mono ?_ (growK_safe f ih hI hu hi hl i (by omega)));intro r m1 g1 hk
  split
  ·rename_i e;exact ⟨hk.rl,fun e2=>(by rw [e] at e2;cases e2),fun e2=>(by rw [e] at e2;cases e2),fun e2=>(by rw [e] at e2;cases e2)⟩
  ·rename_i e;have er:r.1=true:=by simpa using e
   have pl:=partL_len (ps:=ps) (i:=(i:Int)) (by omega) (by omega);have sz:(partL ps i).length<=ps.length:=by unfold partL;rw [List.length_take,List.length_drop];omega
   refine Safe.bind (Safe.mono ?_ (ih m1 g1 (partL ps i) hk.rl.inv (part_up hu _) (fun p hp=>hi p (part_mem hp)) (by omega)));rintro ⟨w,b⟩ m2 g2 hg;have R:=hk.rl.trans hg.rl;refine ⟨R,fun e2=>by simp [hk.len er],fun e2 j v ev=>?_,fun e2 j1 j2 v1 v2 ev1 ev2 k1 k2 ea=>?_⟩
   ·have e3:b=true:=e2;obtain ⟨q1,q2,q3⟩:=hg.ok e3
    by_cases hj:j < i
    ·rw [List.getElem?_append_left (by rw [hk.len er];exact hj)] at ev;obtain ⟨a1,a2,a3,a4⟩:=hk.kid er j v ev;exact ⟨a1.on hk.rl.inv hg.rl,by rw [(hg.rl.ex.ro _ a2).1];exact a2,a3,a4⟩
    ·rw [List.getElem?_append_right (by rw [hk.len er];omega),hk.len er] at ev;have hj2:j - i=0:=by
      have:=(List.getElem?_eq_some_iff.1 ev).1
      simp at this;omega
     rw [hj2] at ev;simp only [List.getElem?_cons_zero,Option.some.injEq] at ev;subst ev;rw [show j=i by omega];refine ⟨q1,q1.used.1,fun k=>?_,q3⟩;have hn:=q2 k;cases e0:g0.ro (ad w) with
     | none=>rfl
     | some r0=>
      have:=(hk.rl.ex.ro (ad w) (by rw [e0];exact fun e=>by cases e)).1
      rw [hn,e0] at this;cases this
   ·have e3:b=true:=e2;obtain ⟨q1,q2,q3⟩:=hg.ok e3;have old:∀ (j:Nat) (v:Int),(r.2++[w])[j]? = some v->kd v=3->(r.2[j]? = some v/\g1.ro (ad v)≠none)∨(j=i/\g1.ro (ad v)=none):=fun j v ev kv=>by
     by_cases hj:j < i
     ·rw [List.getElem?_append_left (by rw [hk.len er];exact hj)] at ev;exact .inl ⟨ev,(hk.kid er j v ev).2.1⟩
     ·rw [List.getElem?_append_right (by rw [hk.len er];omega),hk.len er] at ev;have hj2:j - i=0:=by
       have:=(List.getElem?_eq_some_iff.1 ev).1
       simp at this;omega
      rw [hj2] at ev;simp only [List.getElem?_cons_zero,Option.some.injEq] at ev;subst ev;exact .inr ⟨by omega,q2 (by show kd w≠2;omega)⟩
    rcases old j1 v1 ev1 k1 with ⟨b1,b2⟩ | ⟨b1,b2⟩
    ·rcases old j2 v2 ev2 k2 with ⟨c1,c2⟩ | ⟨c1,c2⟩
     ·exact hk.dis er j1 j2 v1 v2 b1 c1 k1 k2 ea
     ·rw [ea] at b2;exact absurd c2 b2
    ·rcases old j2 v2 ev2 k2 with ⟨c1,c2⟩ | ⟨c1,c2⟩
     ·rw [ea] at b2;exact absurd b2 c2
     ·omega
theorem PTf.succ:∀ (f:Nat) (b lo hi:Int),PTf m g f b lo hi->PTf m g (f+1) b lo hi
 | 0,_,_,_,h=>h.elim
 | f+1,b,lo,hi,h=>fun d n hI=>by
  obtain ⟨h1,h2⟩:=h d n hI;refine ⟨h1,fun i i1 i2=>?_⟩;rcases h2 i i1 i2 with e | ⟨e1,e2,e3⟩
  ·exact .inl e
  ·exact .inr ⟨e1,e2,fun d' n' q=>PTf.succ f _ _ _ (e3 d' n' q)⟩
theorem PTf.le {f f':Nat} (h:f<=f') {b lo hi:Int} (q:PTf m g f b lo hi):PTf m g f' b lo hi:=by
 induction h with
 | refl=>exact q
 | step _ ih=>exact PTf.succ _ _ _ _ ih
theorem prv_inner (h:Inv m g) (hG:Gt t m g m' g') {A d size:Int} {cs:List Int} {l:Ps} (pt:Int->Ps) (hA:A<=65536) (h1:A≠1) (hI:IsInner g' A d size) (h2:2<=d) (hm:g'.hm A=none) (ho:g'.ow A=t) (hd:(cs.length:Int)=d)
  (hl:∀ i:Nat,(i:Int) < d->m'.look (A+4+d+i)=cs.getD i 0) (hk:∀ (j:Nat) w,cs[j]? = some w->Prv t m g w (pt j))
  (hp:∀ i:Nat,(i:Int) < d->∃ p,p ∈ pt i/\(∀ q ∈ pt i,p.1<=q.1/\q ∈ l)/\(1<=i->gk g' A i=p.1)) (hlt:∀ i j:Nat,i < j->(j:Int) < d->∀ p ∈ pt i,∀ q ∈ pt j,p.1 < q.1):Prv t m' g' (Rf.ofZ 3 A) l:=by
 have hA1:=hI.rc.1;obtain ⟨k3,ea⟩:=ofk (k:=3) (by omega) (by omega) hA1 hA;have kid:∀ i:Nat,(i:Int) < d->∃ w,cs[i]? = some w/\m'.look (A+4+d+i)=w/\Prv t m g w (pt i):=fun i hi=>by
  have e:cs[i]? = some cs[i]:=List.getElem?_eq_getElem (by omega);refine ⟨cs[i],e,?_,hk i _ e⟩;rw [hl i hi,List.getD_eq_getElem?_getD,e];rfl
 refine .inr (.inr ⟨k3,by rw [ea];exact h1,by rw [ea];exact hm,by rw [ea];exact ho,?_,d,size,by rw [ea];exact hI,h2,?_⟩)
 ·rw [ea];intro d' n' i hI' i0 i1;obtain ⟨rfl,rfl⟩:=hI.deg hI';obtain ⟨w,_,e2,e3⟩:=kid i.toNat (by omega);rw [show ((i.toNat:Nat):Int)=i by omega] at e2;rw [e2];exact e3.used.2.1
 ·rw [ea];have fu:∀ k:Nat,(k:Int)<=d->∃ F,∀ i:Nat,i < k->∀ w,cs[i]? = some w->kd w=3->∀ lo hi,(∀ p ∈ pt i,lo<=p.1/\p.1<=hi)->PTf m g F (ad w) lo hi:=by
   intro k
   induction k with
   | zero=>intro _;exact ⟨0,fun i hi=>absurd hi (by omega)⟩
   | succ k ih=>
    intro hk';obtain ⟨F,hF⟩:=ih (by omega);obtain ⟨w,e1,_,e3⟩:=kid k (by omega)
    have:∃ F',kd w=3->∀ lo hi,(∀ p ∈ pt k,lo<=p.1/\p.1<=hi)->PTf m g F' (ad w) lo hi:=by
     rcases e3 with ⟨k',_⟩ | ⟨k',_⟩ | ⟨_,_,_,_,_,_,_,_,_,F',q⟩
     ·exact ⟨0,fun e=>by omega⟩
     ·exact ⟨0,fun e=>by omega⟩
     ·exact ⟨F',fun _=>q⟩
    obtain ⟨F',hF'⟩:=this;refine ⟨max F F',fun i hi w' ew k3' lo hi' hb=>?_⟩
    by_cases e:i=k
    ·subst e;rw [e1] at ew;cases ew;exact (hF' k3' lo hi' hb).le (by omega)
    ·exact (hF i (by omega) w' ew k3' lo hi' hb).le (by omega)
  obtain ⟨F,hF⟩:=fu d.toNat (by omega);refine ⟨F+1,fun lo hi hb d' n' hI'=>?_⟩;obtain ⟨rfl,rfl⟩:=hI.deg hI';have unA:=unlinked h1 hm;refine ⟨fun i i0 i1=>?_,fun i i0 i1=>?_⟩
  ·obtain ⟨i,rfl⟩:∃ j:Nat,i=(j:Int):=⟨i.toNat,by omega⟩;obtain ⟨p,p1,p2,p3⟩:=hp i (by omega);obtain ⟨q,q1,q2,q3⟩:=hp (i+1) (by omega);have lt:=hlt i (i+1) (by omega) (by omega) p p1 q q1;have e:=q3 (by omega);rw [show ((i+1:Nat):Int)=(i:Int)+1 by omega] at e;rw [e];have b1:=hb p (p2 p p1).2;have b2:=hb q (q2 q q1).2;refine ⟨?_,b2.2⟩;unfold gl
   split
   ·omega
   ·rw [p3 (by omega)];exact lt
  ·obtain ⟨i,rfl⟩:∃ j:Nat,i=(j:Int):=⟨i.toNat,by omega⟩;obtain ⟨w,e1,e2,e3⟩:=kid i (by omega);obtain ⟨p,p1,p2,p3⟩:=hp i (by omega);have bd:∀ q ∈ pt i,gl g' A lo i<=q.1/\q.1<=gu g' A d hi i:=fun q hq=>by
    have b:=hb q (p2 q hq).2;refine ⟨?_,?_⟩
    ·unfold gl
     split
     ·exact b.1
     ·rw [p3 (by omega)];exact (p2 q hq).1
    ·unfold gu
     split
     ·obtain ⟨q',q1,q2,q3⟩:=hp (i+1) (by omega);have lt:=hlt i (i+1) (by omega) (by omega) q hq q' q1;have e:=q3 (by omega);rw [show ((i+1:Nat):Int)=(i:Int)+1 by omega] at e;omega
     ·exact b.2
   rw [e2];have u:=e3.used;refine .inr ⟨by omega,fun k v hlf=>?_,fun d2 n2 hI2=>?_⟩
   ·rcases e3 with ⟨_,_,c1,_⟩ | ⟨_,k',v',c1,c2⟩ | ⟨_,_,_,_,_,_,_,c1,_⟩
    ·have:=(hG.ex.empty c1).kn.symm.trans hlf.kn;omega
    ·obtain ⟨rfl,rfl⟩:=(hG.ex.leaf c1).fn hlf;exact bd (k',v') (by rw [c2];simp)
    ·have:=(hG.ex.inner c1).kn.symm.trans hlf.kn;omega
   ·rcases e3 with ⟨_,_,c1,_⟩ | ⟨_,k',v',c1,c2⟩ | ⟨k3',c0,_,_,_,d3,n3,c1,_⟩
    ·have:=(hG.ex.empty c1).kn.symm.trans hI2.kn;omega
    ·have:=(hG.ex.leaf c1).kn.symm.trans hI2.kn;omega
    ·have pf:=hF i (by omega) w e1 k3' _ _ bd;refine pf.on h hG.ex c1 ?_;have hs:Slot g' (A+4+d+i) A d size i:=⟨hI,by omega,by omega,rfl⟩;have q:=hG.inv.cell (A+4+d+i);unfold COk at q;rw [hs.ro] at q;simp only at q;rw [e2] at q;rcases q with q | q | ⟨q,_⟩
     ·exact absurd q u.2.1
     ·rcases q with ⟨k',_⟩ | ⟨k',_⟩ | ⟨_,_,_,_,_,_,q,_⟩ | ⟨k',_⟩
      ·omega
      ·omega
      ·exact below c0 q hs unA
      ·omega
     ·omega
end Sd
namespace Sd
variable {t:Nat} {m m':Mst} {g g':Gh}
theorem Gt.made (h:Gt t m g m' g') (hh:∀ b,g.ro b≠none->g'.hm b=g.hm b) (hp:g'.pl=g.pl):Rl t m g m' g':=
 ⟨h.inv,h.ex,fun b hb=>⟨(h.own b hb).1,fun _=>⟨hh b hb,by rw [hp]⟩⟩⟩
theorem Rl.fresh (h:Rl t m g m' g') {b:Int} (hb:g'.ro b=none):g.ro b=none:=by
 cases e:g.ro b with
 | none=>rfl
 | some r=>
  have:=(h.ex.ro b (by rw [e];exact fun e=>by cases e)).1
  rw [hb,e] at this;cases this
theorem i64_1 {z:Int} (h:-1000000<=z) (h2:z<=1000000):I64 z:=⟨by omega,by omega⟩
theorem grow_safe (t:Nat):∀ f,GrowC' t f
 | 0=>fun m g ps h _ _ _=>⟨Rl.refl h,fun e=>by cases e⟩
 | f+1=>fun m g ps h hu hi hl=>by
  have ih:=grow_safe t f;unfold Pr.grow
  split
  ·rename_i e0;refine recM_safe (by intro z hz;simp at hz;rw [hz];exact i64_1 (by omega) (by omega)) (by simp) (fun m1 g1 m2 A r1 hA hA2 hm=>?_) (fun m1 g1 r1=>⟨r1,fun e=>by cases e⟩);obtain ⟨g2,q1,q2,q3,q4,q5,q6⟩:=mk_empty (t:=t) r1.inv hA hm;obtain ⟨k1,ea⟩:=ofk (k:=1) (D:=A) (by omega) (by omega) (by omega) hA2;have hno:g1.ro A=none:=by rw [hA];exact r1.inv.noA
   refine ⟨g2,q1,r1.trans (q1.made (fun _ _=>by rw [q5]) q6),fun _=>⟨.inl ⟨k1,List.length_eq_zero_iff.1 e0,by rw [ea];exact q2,by rw [ea];exact q3,by rw [ea];exact q4,by rw [ea];exact (fun e=>by rw [e,r1.inv.top.1.c0] at hno;cases hno)⟩,fun _=>by rw [ea];exact r1.fresh hno,i64_of 1 A⟩⟩
  rename_i e0
  split
  ·rename_i e1;obtain ⟨⟨k,v⟩,rfl⟩:=List.length_eq_one_iff.1 e1;have ik:=hi (k,v) (by simp);refine recM_safe (by intro z hz;simp at hz;rcases hz with rfl | rfl;exact ik.1;exact ik.2) (by simp) (fun m1 g1 m2 A r1 hA hA2 hm=>?_) (fun m1 g1 r1=>⟨r1,fun e=>by cases e⟩);obtain ⟨g2,q1,q2,q5,q6⟩:=mk_leaf (t:=t) r1.inv hA (k:=k) (v:=v) hm;obtain ⟨k2,ea⟩:=ofk (k:=2) (D:=A) (by omega) (by omega) (by omega) hA2;exact ⟨g2,q1,r1.trans (q1.made (fun _ _=>by rw [q5]) q6),fun _=>⟨.inr (.inl ⟨k2,k,v,by rw [ea];exact q2,rfl⟩),fun e=>absurd k2 e,i64_of 2 A⟩⟩
  rename_i e1;have db:=Pt.deg_bound (n:=(ps.length:Int)) (by omega) (by omega);refine Safe.bind (Safe.mono ?_ (growK_safe f ih h hu hi hl (Pt.degZ ps.length).toNat (by omega)));rintro ⟨b,cs⟩ m1 g1 hk
  split
  ·rename_i eb;have hlen:=hk.len eb;simp only at hlen;obtain ⟨D,hD⟩:∃ D:Nat,Pt.degZ ps.length=(D:Int):=⟨(Pt.degZ ps.length).toNat,by omega⟩;have hDn:(Pt.degZ ps.length).toNat=D:=by omega
   rw [hDn] at hlen ⊢;have hin:∀ j:Nat,j < D->∃ w,cs[j]? = some w:=fun j hj=>⟨_,List.getElem?_eq_getElem (by omega)⟩;have hm':∀ w ∈ cs,∃ j:Nat,cs[j]? = some w/\j < D:=fun w hw=>by
    obtain ⟨j,hj⟩:=List.getElem?_of_mem hw;exact ⟨j,hj,by have:=(List.getElem?_eq_some_iff.1 hj).1;omega⟩
   have hd:=fun (i:Nat) (hi':i < D)=>part_head (ps:=ps) (i:=(i:Int)) (by omega) (by omega);have iw:∀ z ∈ innerL ps.length (lowL ps D) cs,I64 z:=by
    intro z hz;unfold innerL at hz;simp only [List.mem_append,List.mem_cons,List.not_mem_nil,or_false] at hz;rcases hz with (rfl | rfl | rfl | rfl | rfl) | hz | hz
    ·exact i64_1 (by omega) (by omega)
    ·exact i64_1 (by omega) (by omega)
    ·exact i64_1 (by omega) (by omega)
    ·exact i64_1 (by omega) (by omega)
    ·exact i64_1 (by omega) (by omega)
    ·obtain ⟨j,hj⟩:=List.getElem?_of_mem hz;have hj2:=(List.getElem?_eq_some_iff.1 hj).1;rw [low_len] at hj2
     have:=low_at ps D (j+1) (by omega) (by omega)
     rw [Nat.add_sub_cancel,List.getD_eq_getElem?_getD,hj] at this;have e:z=((partL ps ((j+1:Nat):Int)).headD (0,0)).1:=this;rw [e];exact (hi _ (part_mem (hd (j+1) (by omega)).1)).1
    ·obtain ⟨j,hj,_⟩:=hm' z hz;exact (hk.kid eb j z hj).2.2.2
   refine recM_safe iw (by unfold innerL;simp) (fun m2 g2 m3 A r2 hA hA2 hm=>?_) (fun m2 g2 r2=>⟨hk.rl.trans r2,fun e=>by cases e⟩);have kids:∀ (j:Nat) w,cs[j]? = some w->Prv t m2 g2 w (partL ps j):=fun j w e=>(hk.kid eb j w e).1.on hk.rl.inv r2;have nonE:∀ (j:Nat) w,cs[j]? = some w->partL ps j≠[]:=fun j w e q=>by
    have:=(List.getElem?_eq_some_iff.1 e).1
    have h3:=(hd j (by omega)).1;rw [q] at h3;simp at h3
   obtain ⟨g3,q1,q2,q3,q4,q5,q6,q7,q8⟩:=mk_inner (t:=t) r2.inv hA (size:=ps.length) (d:=(D:Int)) (q:=lowL ps D) (cs:=cs) (fun i=>((partL ps i).headD (0,0)).1) (by omega) (by omega) (by rw [low_len];omega) (fun w hw=>by
     obtain ⟨j,hj,_⟩:=hm' w hw;rcases kids j w hj with ⟨_,e,_⟩ | ⟨k,u,v,e,_⟩ | ⟨k,a1,a2,a3,a4,d',n',a5,a6,_⟩
     ·exact absurd e (nonE j w hj)
     ·exact .inr (.inl ⟨k,u,v,e⟩)
     ·exact .inr (.inr ⟨k,a1,a2,a3,a4,d',n',a5,a6⟩)) (hk.dis eb) (fun i i1 i2=>.inl (low_at ps D i i1 (by omega))) hm
   obtain ⟨k3,ea⟩:=ofk (k:=3) (D:=A) (by omega) (by omega) (by omega) hA2;have hno:g2.ro A=none:=by rw [hA];exact r2.inv.noA
   have R:=hk.rl.trans r2;have hA1:A≠1:=fun e=>by rw [e,r2.inv.top.1.c0] at hno;cases hno
   refine ⟨g3,q1,⟨q1.inv,R.ex.trans q1.ex,fun b hb=>?_⟩,fun _=>⟨?_,fun _=>by rw [ea];exact R.fresh hno,i64_of 3 A⟩⟩
   ·obtain ⟨o1,o2⟩:=R.own b hb;have hb2:g2.ro b≠none:=by rw [(R.ex.ro b hb).1];exact hb
    refine ⟨(q1.own b hb2).1.trans o1,fun e=>⟨?_,by rw [q8];exact (o2 e).2⟩⟩;rw [q7 b (fun w hw k eq=>?_)]
    ·exact (o2 e).1
    ·obtain ⟨j,hj,_⟩:=hm' w hw;exact hb (eq ▸ (hk.kid eb j w hj).2.2.1 (by omega))
   ·refine prv_inner r2.inv q1 (pt:=fun i=>partL ps i) hA2 hA1 q2 (by omega) q3 q4 (by omega) q6 kids (fun i hi'=>?_) (fun i j hij hj p hp q hq=>part_lt hu (by omega) (by omega) (by omega) hp hq);obtain ⟨h1,h2⟩:=hd i (by omega);exact ⟨_,h1,fun q hq=>⟨h2 hu q hq,part_mem hq⟩,fun i1=>q5 i (by omega) (by omega)⟩
  ·exact ⟨hk.rl,fun e=>by cases e⟩
end Sd
namespace Sd
namespace Pr
def part (N:Nat) (a n x d i:Int):Pr Bool:=
 (gather N a (Pt.fromZ n i) (wrap64 (Pt.fromZ n i+Pt.sizeZ n i)) []).bind fun ps=>(grow (ps.length+1) ps).bind fun w=>
 if w.2=false then ret false else (if 0 < i/\0 < ps.length then write (keyZ x i) (ps.headD (0,0)).1 else ret ()).bind fun _=>(cas (childZ x d i) 0 w.1).bind fun _=>ret true
def partsA (N:Nat) (b a n x d:Int):Nat->Pr Bool
 | 0=>stop
 | f+1=>(add (wrap64 (b+4)) 1).bind fun i=>if d<=i then ret true else (part N a n x d i).bind fun p=>if p=true then partsA N b a n x d f else ret false
def partsB (N:Nat) (a n x d:Int):Nat->Int->Pr Bool
 | 0,_=>ret true
 | c+1,j=>(read (childZ x d j)).bind fun y=>if y≠0 then partsB N a n x d c (j+1) else (part N a n x d j).bind fun p=>if p=true then partsB N a n x d c (j+1) else ret false
def parts (N:Nat) (b a n x:Int):Pr Bool:=(partsA N b a n x (Pt.degZ n) N).bind fun p=>if p=true then partsB N a n x (Pt.degZ n) (Pt.degZ n).toNat 0 else ret false
end Pr
variable {t:Nat} {m m':Mst} {g g':Gh}
theorem Prv.pt {w:Int} {l:Ps} (q:Prv t m g w l) {lo hi:Int} (hb:∀ p ∈ l,lo<=p.1/\p.1<=hi):∀ d n,IsInner g (ad w) d n->∃ f,PTf m g f (ad w) lo hi:=fun d n hI=>by
 rcases q with ⟨_,_,h1,_⟩ | ⟨_,u,v,h1,_⟩ | ⟨_,_,_,_,_,d',n',_,_,f,q⟩
 ·have:=h1.kn.symm.trans hI.kn;omega
 ·have:=h1.kn.symm.trans hI.kn;omega
 ·exact ⟨f,q lo hi hb⟩
theorem link_prv (h:Inv m g) {w:Int} {l:Ps} (q:Prv t m g w l) {c a d n i u v:Int} (hs:Slot g c a d n i) (hv:Iv g a u v) (hb:∀ p ∈ l,gl g a u i<=p.1/\p.1<=gu g a d v i):∃ g',Gt t m g m g'/\OkW m g' c w:=by
 have sv:=hs.siv hv;have pt:=q.pt hb;have lk:g.hm (ad w)=none->ad w≠1->g.kn (ad w)≠2->g.ro (ad w)≠none->g.ow (ad w)=t->Gt t m g m (g.link (ad w) c):=fun e1 e2 e3 e4 e5=>by
  have st:=step_link h e1 e2 e3 e4 hs hv pt;refine ⟨st.1,st.2,fun x _=>⟨rfl,fun e=>⟨?_,rfl⟩⟩⟩;show (if x=ad w then some c else g.hm x)=g.hm x;rw [if_neg (fun q=>e (by rw [q,e5]))]
 have hl:(g.link (ad w) c).hm (ad w)=some c:=by show (if ad w=ad w then some c else _)=_;rw [if_pos rfl]
 rcases q with ⟨k,_,h1,h2,h3,h4⟩ | ⟨k,x,y,h1,e⟩ | ⟨k,h1,h2,h3,h4,d',n',h5,h6,_⟩
 ·have G:=lk h2 h4 (by rw [h1.kn];decide) (by rw [h1.c0];exact (fun e=>by cases e)) h3;exact ⟨_,G,.inl ⟨k,G.ex.empty h1,hl⟩⟩
 ·refine ⟨g,Gt.same ⟨h,Ex.refl m g⟩,.inr (.inl ⟨k,x,y,h1,fun lo hi e2=>?_⟩)⟩;obtain ⟨rfl,rfl⟩:=sv.fn e2;exact hb (x,y) (by rw [e];simp)
 ·have G:=lk h2 h1 (by rw [h5.kn];decide) (by rw [h5.c0];exact (fun e=>by cases e)) h3;exact ⟨_,G,.inr (.inr (.inl ⟨k,d',n',G.ex.inner h5,h6,h1,hl,G.ex.compl h5 h4⟩))⟩
structure Rt (m:Mst) (g:Gh) (a x:Int) (ps:Ps) (d lo hi:Int):Prop where
 iva:Iv g a lo hi
 ft:FT m g a ps
 inn:IsInner g x d ps.length
 ivx:Iv g x lo hi
 two:2<=ps.length
 deg:d=Pt.degZ ps.length
 d2:2<=d
 gk:∀ i,1<=i->i < d->gk g x i=((partL ps i).headD (0,0)).1
theorem Ex.rt (h:Ex m g m' g') {a x:Int} {ps:Ps} {d lo hi:Int} (q:Rt m g a x ps d lo hi):Rt m' g' a x ps d lo hi:=
 ⟨h.iv q.iva,h.ft q.ft,h.inner q.inn,h.iv q.ivx,q.two,q.deg,q.d2,fun i h1 h2=>by rw [h.gk q.inn h1 h2];exact q.gk i h1 h2⟩
theorem Rt.bounds (h:Inv m g) {a x:Int} {ps:Ps} {d lo hi:Int} (q:Rt m g a x ps d lo hi) {i:Int} (h0:0<=i) (h1:i < d):∀ p ∈ partL ps i,gl g x lo i<=p.1/\p.1<=gu g x d hi i:=fun p hp=>by
 obtain ⟨u1,u2⟩:=q.ft.up h q.iva;have b:=u1 p (part_mem hp);have dg:=q.deg;refine ⟨?_,?_⟩
 ·unfold gl
  split
  ·exact b.1
  ·rw [q.gk i (by omega) h1];exact (part_head h0 (by omega)).2 u2 p hp
 ·unfold gu
  split
  ·rw [q.gk (i+1) (by omega) (by omega)]
   have:=part_lt u2 h0 (show i < i+1 by omega) (by omega) hp (part_head (ps:=ps) (i:=i+1) (by omega) (by omega)).1
   omega
  ·exact b.2.1
theorem sel_part (ps:Ps) {i:Int} (h0:0<=i) (h1:i < Pt.degZ ps.length):sel ps (Pt.fromZ ps.length i) (Pt.fromZ ps.length i+Pt.sizeZ ps.length i)=partL ps i:=by
 obtain ⟨p1,p2,p3⟩:=part_in h0 h1;unfold sel partL;rw [List.drop_take,show (Pt.fromZ ps.length i+Pt.sizeZ ps.length i).toNat - (Pt.fromZ ps.length i).toNat=(Pt.sizeZ ps.length i).toNat by omega]
theorem pairs_i64 (h:Inv m g) {ps:Ps} (q:∀ p ∈ ps,∃ b,IsLeaf g b p.1 p.2):∀ p ∈ ps,I64 p.1/\I64 p.2:=fun p hp=>by
 obtain ⟨b,hb⟩:=q p hp;rw [<- h.fix hb.c0,<- h.fix hb.c1];exact ⟨h.ok.look _,h.ok.look _⟩
theorem part_safe (N:Nat) (hN:N<=1000000) {a x:Int} {ps:Ps} {d lo hi i:Int} (h:Inv m g) (q:Rt m g a x ps d lo hi) (hi':i < d):Safe t (Pr.part N a ps.length x d i) (fun b m' g'=>Fw m g m' g'/\(b=true->0<=i->m'.look (childZ x d i)≠0)) m g:=by
 have fx:=q.inn.far h;have dg:=q.deg;have two:=q.two;have dn:=Pt.deg_nat (ps.length:Int);have dp:=Pt.deg_pos (n:=(ps.length:Int)) (by have:=q.d2;omega);obtain ⟨u1,u2⟩:=q.ft.up h q.iva;unfold Pr.part
 by_cases i0:0<=i
 ·obtain ⟨p1,p2,p3⟩:=part_in (n:=(ps.length:Int)) (i:=i) i0 (by omega);rw [Pt.wrap_same (by omega) (by omega)];refine Safe.bind (Safe.mono ?_ (gather_safe t N m g a _ _ lo hi ps [] h q.iva q.ft (by omega) (by omega) (by omega) (by omega)));rintro l m1 g1 ⟨r1,el⟩;rw [List.nil_append,sel_part ps i0 (by omega)] at el;subst el;have q1:=r1.ex.rt q;have pu:=part_up u2 i;have hsz:(partL ps i).length<=ps.length:=by unfold partL;rw [List.length_take,List.length_drop];omega
  have hh:=part_head (ps:=ps) (i:=i) i0 (by omega);have hpos:0 < (partL ps i).length:=List.length_pos_iff.2 (fun e=>by have:=hh.1;rw [e] at this;simp at this);have i64s:=pairs_i64 h (fun p hp=>(u1 p hp).2.2);refine Safe.bind (Safe.mono ?_ (grow_safe t _ m1 g1 (partL ps i) r1.inv pu (fun p hp=>i64s p (part_mem hp)) (by omega)));rintro ⟨w,ok⟩ m2 g2 hg
  split
  ·exact ⟨(r1.trans hg.rl).fw,fun e=>by cases e⟩
  rename_i eo;have R2:=r1.trans hg.rl;obtain ⟨pv,_,iw⟩:=hg.ok (by simpa using eo);have wr:Safe t (if 0 < i/\0 < (partL ps i).length then Pr.write (keyZ x i) ((partL ps i).headD (0,0)).1 else Pr.ret ()) (fun _ m3 g3=>Rl t m2 g2 m3 g3/\(1<=i->m3.look (x+4+i)=gk g3 x i)) m2 g2:=by
   split
   ·rename_i ei;refine Safe.write fun m3 g3 r3=>?_;have q3:=(R2.trans r3).ex.rt q;rw [keyZ_in (by omega) (by omega) (by omega) (by omega),<- q3.gk i (by omega) hi'];obtain ⟨z,ez⟩:=q3.inn.ck i (by omega) hi';have hu:m3.used (x+4+i)=true:=(r3.inv.used _).1 (by rw [ez];exact (fun e=>by cases e));have hp:=write_put r3.inv.ok hu (x:=gk g3 x i) (by rw [q3.gk i (by omega) hi'];exact (i64s _ (part_mem hh.1)).1);have st:=step_key r3.inv q3.inn (by omega) hi' hp;exact ⟨g3,Gt.same st,r3.trans (Gt.rl' st),fun _=>hp.eq⟩
   ·rename_i ei;exact ⟨Rl.refl hg.rl.inv,fun e=>absurd ⟨by omega,hpos⟩ ei⟩
  refine Safe.bind (Safe.mono ?_ wr);rintro _ m3 g3 ⟨r3,hk⟩;have R3:=R2.trans r3;have q3:=R3.ex.rt q;have pv3:=pv.on hg.rl.inv r3;rw [childZ_in (by omega) (by omega) (by omega) (by omega) (by omega) (by omega)];refine Safe.bind (Safe.cas (fun m4 g4 r4 hu e0=>?_) (fun m4 g4 r4 hn=>?_))
  ·have q4:=r4.ex.rt q3;have hs:Slot g4 (x+4+d+i) x d ps.length i:=⟨q4.inn,i0,hi',rfl⟩;obtain ⟨g5,G,ok⟩:=link_prv r4.inv (pv3.on r3.inv r4) hs q4.ivx (q4.bounds r4.inv i0 hi');have q5:=G.ex.rt q4;have hs5:=G.ex.sl hs;have hp:=write_put r4.inv.ok hu (x:=w) iw;have hk5:1<=i->m4.look (x+4+i)=gk g5 x i:=fun e=>by
    obtain ⟨z,ez⟩:=q3.inn.ck i e hi';have ek:gk g3 x i=z:=by unfold Sd.gk;rw [ez]
    rw [G.ex.gk q4.inn e hi',r4.ex.gk q3.inn e hi',ek];exact r4.ex.key _ z ez (by rw [hk e,ek])
   have st:=step_slot G.inv hs5 q5.ivx ok.ne.1 (fun w' hz=>by
    obtain ⟨_,_,_,_,_,_,z0,_,z1⟩:=hz;rw [e0] at z1;rcases z1 with z1 | ⟨z1,_⟩
    ·exact absurd z1.symm z0
    ·exact absurd z1 (by decide)) hk5 hp (fun hE=>.inl (hE.okW (fun _ _ e=>hE.back ⟨_,_,hs5.siv q5.ivx⟩ e) ok))
   refine ⟨g5,G.trans (Gt.same st),(R3.trans r4).fw.trans (G.fw.trans ⟨st.1,st.2⟩),fun _ _=>by rw [hp.eq];exact ok.ne.1⟩
  ·have q4:=r4.ex.rt q3;refine ⟨(R3.trans r4).fw,fun _ _ e=>hn ⟨(r4.inv.used _).1 (by rw [q4.inn.cs i i0 hi'];exact (fun e=>by cases e)),e⟩⟩
 ·have ec:childZ x d i=0:=by
   unfold childZ
   have:nearB i=false:=by
    cases e:nearB i with
    | false=>rfl
    | true=>have:=(nearB_iff.1 e);omega
   simp [this]
  have ef:Pt.fromZ ps.length i=0:=Pt.from_none (.inl (by omega));have es:Pt.sizeZ ps.length i=0:=Pt.size_none (.inl (by omega));rw [ef,es,ec];refine Safe.bind (Safe.mono ?_ (gather_safe t N m g a 0 _ lo hi ps [] h q.iva q.ft (by omega) (by omega) (by rw [Pt.wrap_same (by omega) (by omega)];omega) (by rw [Pt.wrap_same (by omega) (by omega)];omega)));rintro l m1 g1 ⟨r1,el⟩;have e0:l=[]:=by rw [el,Pt.wrap_same (by omega) (by omega)];simp [sel]
  subst e0;refine Safe.bind (Safe.mono ?_ (grow_safe t _ m1 g1 [] r1.inv List.Pairwise.nil (by simp) (by simp)));rintro ⟨w,ok⟩ m2 g2 hg
  split
  ·exact ⟨(r1.trans hg.rl).fw,fun e=>by cases e⟩
  rw [if_neg (by simp)];show Safe t ((Pr.cas 0 0 w).bind fun _=>Pr.ret true) _ m2 g2;refine Safe.bind (Safe.cas (fun m4 g4 r4 hu _=>?_) (fun m4 g4 r4 _=>?_))
  ·exact absurd (Mst.used_iff.1 hu) (by omega)
  ·exact ⟨((r1.trans hg.rl).trans r4).fw,fun _ e=>absurd e i0⟩
theorem partsA_safe (N:Nat) (hN:N<=1000000) {b tg gd p a x:Int} {ps:Ps} {d lo hi:Int}:∀ (f:Nat) (m:Mst) (g:Gh),Inv m g->IsReb g b tg gd p->Rt m g a x ps d lo hi->Safe t (Pr.partsA N b a ps.length x d f) (fun _ m' g'=>Fw m g m' g') m g
 | 0,_,_,_,_,_=>trivial
 | f+1,m,g,h,hR,q=>by
  have b4:=h.lt (c:=b+4) (by rw [hR.c4];exact (fun e=>by cases e));have b5:=h.ok.2;unfold Pr.partsA;rw [Pt.wrap_same (by omega) (by omega)];refine Safe.bind (Safe.add fun m1 g1 r1=>?_);have hR1:=r1.ex.reb hR;have hu:m1.used (b+4)=true:=(r1.inv.used _).1 (by rw [hR1.c4];exact (fun e=>by cases e));have hp:=write_put r1.inv.ok hu (x:=wrap64 (m1.look (b+4)+1)) (i64_wrap _);have st:=step_count r1.inv (.inr hR1.c4) hp;refine ⟨g1,Gt.same st,?_⟩;have F1:=r1.fw.trans ⟨st.1,st.2⟩
  split
  ·exact F1
  rename_i e;refine Safe.bind (Safe.mono ?_ (part_safe N hN st.1 (F1.ex.rt q) (i:=m1.look (b+4)) (by omega)));rintro ok m2 g2 ⟨F2,_⟩;have F:=F1.trans F2
  split
  ·exact Safe.mono (fun _ _ _ F3=>F.trans F3) (partsA_safe N hN f m2 g2 F2.inv (F.ex.reb hR) (F.ex.rt q))
  ·exact F
theorem partsB_safe (N:Nat) (hN:N<=1000000) {a x:Int} {ps:Ps} {d lo hi:Int}:∀ (c j:Nat) (m:Mst) (g:Gh),(j:Int)+c=d->Inv m g->Rt m g a x ps d lo hi->(∀ i:Nat,i < j->m.look (x+4+d+i)≠0)->
  Safe t (Pr.partsB N a ps.length x d c j) (fun ok m' g'=>Fw m g m' g'/\(ok=true->Compl m' g' x)) m g
 | 0,j,m,g,hc,h,q,hd=>by
  refine ⟨⟨h,Ex.refl m g⟩,fun _ d' n' i hI h0 h1=>?_⟩;obtain ⟨rfl,rfl⟩:=q.inn.deg hI
  have:=hd i.toNat (by omega)
  rwa [show ((i.toNat:Nat):Int)=i by omega] at this
 | c+1,j,m,g,hc,h,q,hd=>by
  have fx:=q.inn.far h;have dg:=q.deg;have dn:=Pt.deg_nat (ps.length:Int);have ce:childZ x d j=x+4+d+j:=childZ_in (by omega) (by omega) (by omega) (by omega) (by omega) (by omega);unfold Pr.partsB;refine Safe.bind (Safe.read fun m1 g1 r1=>?_);have q1:=r1.ex.rt q;have next:∀ (m2:Mst) (g2:Gh),Fw m g m2 g2->m2.look (x+4+d+j)≠0->Safe t (Pr.partsB N a ps.length x d c ((j:Int)+1)) (fun ok m' g'=>Fw m g m' g'/\(ok=true->Compl m' g' x)) m2 g2:=fun m2 g2 F e=>by
   have:=partsB_safe N hN c (j+1) m2 g2 (by omega) F.inv (F.ex.rt q) (fun i hi'=>by
    by_cases ei:i=j
    ·rw [ei];exact e
    ·exact F.ex.slot _ (q.inn.cs i (by omega) (by omega)) (hd i (by omega)))
   rw [show ((j+1:Nat):Int)=(j:Int)+1 by omega] at this;exact Safe.mono (fun _ _ _ ⟨F3,e3⟩=>⟨F.trans F3,e3⟩) this
  split
  ·rename_i e;rw [ce] at e;exact next m1 g1 r1.fw e
  ·refine Safe.bind (Safe.mono ?_ (part_safe N hN r1.inv q1 (i:=(j:Int)) (by omega)));rintro ok m2 g2 ⟨F2,e2⟩
   split
   ·rename_i eo
    have:=e2 eo (by omega)
    rw [ce] at this;exact next m2 g2 (r1.fw.trans F2) this
   ·exact ⟨r1.fw.trans F2,fun e=>by cases e⟩
theorem parts_safe (N:Nat) (hN:N<=1000000) {b tg gd p a x:Int} {ps:Ps} {d lo hi:Int} (h:Inv m g) (hR:IsReb g b tg gd p) (q:Rt m g a x ps d lo hi) :
  Safe t (Pr.parts N b a ps.length x) (fun ok m' g'=>Fw m g m' g'/\(ok=true->Compl m' g' x)) m g:=by
 have dg:=q.deg;have d2:=q.d2;unfold Pr.parts;rw [<- dg];refine Safe.bind (Safe.mono ?_ (partsA_safe N hN N m g h hR q));intro ok m1 g1 F1
 split
 ·have:=partsB_safe (t:=t) N hN (a:=a) (x:=x) (lo:=lo) (hi:=hi) d.toNat 0 m1 g1 (by omega) F1.inv (F1.ex.rt q) (fun i hi'=>absurd hi' (by omega))
  exact Safe.mono (fun _ _ _ ⟨F3,e3⟩=>⟨F1.trans F3,e3⟩) this
 ·exact ⟨F1,fun e=>by cases e⟩
end Sd
namespace Sd
namespace Pr
def top (N:Nat) (a n:Int):Pr (Int × Bool):=
 if 2<=n then recM 3 (innerL n (List.replicate ((max (Pt.degZ n) 1).toNat - 1) 0) (List.replicate (max (Pt.degZ n) 1).toNat 0))
 else if n=1 then (gather N a 0 1 []).bind fun ps=>grow (ps.length+1) ps
 else grow 1 []
def renewE (N:Nat) (b a n w:Int):Pr Bool:=
 (if 2<=n then parts N b a n (ad w) else ret true).bind fun q=>if q=false then ret false else
 (read (wrap64 (b+1))).bind fun gd=>(read (wrap64 (b+2))).bind fun p=>(dcss gd p (Rf.ofZ 4 b) w).bind fun z=>ret (decide (z≠3))
def renew (N:Nat) (b:Int):Pr Bool:=
 (read b).bind fun a=>(mark N N (ad a)).bind fun n=>(read (wrap64 (b+3))).bind fun w=>
 if w=0 then (top N (ad a) n).bind fun z=>if z.2=false then ret false else (cas (wrap64 (b+3)) 0 z.1).bind fun _=>(read (wrap64 (b+3))).bind fun y=>renewE N b (ad a) n y
 else renewE N b (ad a) n w
def start (N:Nat) (nd sl w:Int):Pr Bool:=
 (make [w,wrap64 (nd+2),sl,0,0]).bind fun A=>if 0 < A then (dcss (wrap64 (nd+2)) sl w (Rf.ofZ 4 A)).bind fun z=>if z=1 then renew N A else ret (decide (z≠3)) else ret false
def tallyL:List En->Nat->Int->Pr Int
 | [],_,f=>ret f
 | e :: l,i,f=>(add (ad e.wd+3) 1).bind fun c=>(read (ad e.wd+1)).bind fun z=>tallyL l (i+1) (if f < 0/\Pt.limZ z<=wrap64 (c+1) then (i:Int) else f)
def tally (N:Nat) (es:List En):Pr Unit:=
 (tallyL es 0 (-1)).bind fun p=>if 0<=p then (start N (es.getD p.toNat ⟨0,0,0⟩).nd (es.getD p.toNat ⟨0,0,0⟩).sl (es.getD p.toNat ⟨0,0,0⟩).wd).bind fun _=>ret () else ret ()
end Pr
variable {t:Nat} {m m':Mst} {g g':Gh}
def TopOk (t:Nat) (m:Mst) (g:Gh) (w:Int) (ps:Ps):Prop:=
 (ps.length < 2/\Prv t m g w ps/\kd w<=2)∨
 (2<=ps.length/\kd w=3/\ad w≠1/\g.hm (ad w)=none/\g.ow (ad w)=t/\∃ d,IsInner g (ad w) d ps.length/\2<=d/\d=Pt.degZ ps.length/\(∀ i,1<=i->i < d->gk g (ad w) i=((partL ps i).headD (0,0)).1)/\∀ i,0<=i->i < d->m.look (ad w+4+d+i)=0)
theorem TopOk.on (h:Inv m g) (r:Rl t m g m' g') {w:Int} {ps:Ps} (q:TopOk t m g w ps):TopOk t m' g' w ps:=by
 rcases q with ⟨h1,h2,h3⟩ | ⟨h1,h2,h3,h4,h5,d,h6,h7,h8,h9,h10⟩
 ·exact .inl ⟨h1,h2.on h r,h3⟩
 ·obtain ⟨a1,a2⟩:=r.own1 (by rw [h6.c0];exact (fun e=>by cases e)) h5 h4;refine .inr ⟨h1,h2,h3,a1,a2,d,r.ex.inner h6,h7,h8,fun i i1 i2=>by rw [r.ex.gk h6 i1 i2];exact h9 i i1 i2,fun i i0 i1=>?_⟩;rw [r.ex.still _ (ad w) d ps.length i ⟨h6,i0,i1,rfl⟩ (unlinked h3 a1)];exact h10 i i0 i1
theorem top_safe (N:Nat) (hN:N<=1000000) {a lo hi:Int} {ps:Ps} (h:Inv m g) (hv:Iv g a lo hi) (hF:FT m g a ps) (hl:ps.length<=16384):Safe t (Pr.top N a ps.length) (fun z m' g'=>Rl t m g m' g'/\(z.2=true->TopOk t m' g' z.1 ps/\I64 z.1)) m g:=by
 obtain ⟨u1,u2⟩:=hF.up h hv;have i64s:=pairs_i64 h (fun p hp=>(u1 p hp).2.2);unfold Pr.top
 split
 ·rename_i e2;have db:=Pt.deg_bound (n:=(ps.length:Int)) (by omega) (by omega);obtain ⟨D,hD⟩:∃ D:Nat,Pt.degZ ps.length=(D:Int):=⟨(Pt.degZ ps.length).toNat,by omega⟩;have hDn:(max (Pt.degZ ps.length) 1).toNat=D:=by omega
  rw [hDn];have iw:∀ z ∈ innerL ps.length (List.replicate (D - 1) 0) (List.replicate D 0),I64 z:=by
   intro z hz;unfold innerL at hz;simp only [List.mem_append,List.mem_cons,List.not_mem_nil,or_false,List.mem_replicate,List.length_replicate] at hz;rcases hz with (rfl | rfl | rfl | rfl | rfl) | ⟨_,rfl⟩ | ⟨_,rfl⟩ <;> exact i64_1 (by omega) (by omega)
  refine recM_safe iw (by unfold innerL;simp) (fun m2 g2 m3 A r2 hA hA2 hm=>?_) (fun m2 g2 r2=>⟨r2,fun e=>by cases e⟩);have rz:∀ (j:Nat) w,(List.replicate D (0:Int))[j]? = some w->w=0:=fun j w e=>by
   have:=List.mem_of_getElem? e
   exact (List.mem_replicate.1 this).2
  have gz:∀ n j:Nat,(List.replicate n (0:Int)).getD j 0=0:=fun n j=>by
   rw [List.getD_eq_getElem?_getD];cases e:(List.replicate n (0:Int))[j]? with
   | none=>rfl
   | some w=>have:=(List.mem_replicate.1 (List.mem_of_getElem? e)).2;rw [this];rfl
  obtain ⟨g3,q1,q2,q3,q4,q5,q6,q7,q8⟩:=mk_inner (t:=t) r2.inv hA (size:=ps.length) (d:=(D:Int)) (q:=List.replicate (D - 1) 0) (cs:=List.replicate D 0) (fun i=>((partL ps i).headD (0,0)).1) (by simp) (by omega) (by simp;omega) (fun w hw=>.inl (List.mem_replicate.1 hw).2)
   (fun i j v w e1 _ k1 _ _=>by rw [rz i v e1] at k1;exact absurd k1 (by decide)) (fun i _ _=>.inr ⟨gz _ _,gz _ _⟩) hm
  obtain ⟨k3,ea⟩:=ofk (k:=3) (D:=A) (by omega) (by omega) (by omega) hA2;have hno:g2.ro A=none:=by rw [hA];exact r2.inv.noA
  have hA1:A≠1:=fun e=>by rw [e,r2.inv.top.1.c0] at hno;cases hno
  refine ⟨g3,q1,r2.trans (q1.made (fun b hb=>q7 b (fun w hw k=>by rw [(List.mem_replicate.1 hw).2] at k;exact absurd k (by decide))) q8),fun _=>⟨.inr ⟨by omega,k3,by rw [ea];exact hA1,by rw [ea];exact q3,by rw [ea];exact q4,D,by rw [ea];exact q2,by omega,hD.symm,by rw [ea];exact q5,fun i i0 i1=>?_⟩,i64_of 3 A⟩⟩
  have:=q6 i.toNat (by omega)
  rw [show ((i.toNat:Nat):Int)=i by omega,gz] at this;rw [ea];exact this
 rename_i e2
 split
 ·rename_i e1;have e1':ps.length=1:=by omega
  refine Safe.bind (Safe.mono ?_ (gather_safe t N m g a 0 1 lo hi ps [] h hv hF (by omega) (by omega) (by omega) (by omega)));rintro l m1 g1 ⟨r1,el⟩
  have:l=ps:=by
   rw [el,List.nil_append];unfold sel;rw [List.take_of_length_le (by omega)];rfl
  subst this;refine Safe.mono ?_ (grow_safe t _ m1 g1 l r1.inv u2 i64s (by omega));rintro ⟨w,ok⟩ m2 g2 hg;refine ⟨r1.trans hg.rl,fun e=>?_⟩;obtain ⟨q1,_,q3⟩:=hg.ok e;refine ⟨.inl ⟨by omega,q1,?_⟩,q3⟩;obtain ⟨p,rfl⟩:=List.length_eq_one_iff.1 e1';rcases q1 with ⟨k,_⟩ | ⟨k,_⟩ | ⟨_,_,_,_,_,d',n',h5,h6,f,q⟩
  ·show kd w<=2;have:kd w=1:=k;omega
  ·show kd w<=2;have:kd w=2:=k;omega
  ·exfalso;cases f with
   | zero=>exact q p.1 p.1 (by simp)
   | succ f=>
    have k:=(q p.1 p.1 (by simp) d' n' h5).1 0 (by omega) (by omega);unfold gl at k;rw [if_pos rfl] at k;omega
 ·rename_i e1;have e0:ps=[]:=List.length_eq_zero_iff.1 (by omega);subst e0;refine Safe.mono ?_ (grow_safe t 1 m g [] h List.Pairwise.nil (by simp) (by simp));rintro ⟨w,ok⟩ m2 g2 hg;refine ⟨hg.rl,fun e=>?_⟩;obtain ⟨q1,_,q3⟩:=hg.ok e;refine ⟨.inl ⟨by simp,q1,?_⟩,q3⟩;rcases q1 with ⟨k,_⟩ | ⟨k,_⟩ | ⟨_,_,_,_,_,d',n',h5,h6,f,q⟩
  ·show kd w<=2;have:kd w=1:=k;omega
  ·show kd w<=2;have:kd w=2:=k;omega
  ·exfalso;cases f with
   | zero=>exact q 0 0 (by simp)
   | succ f=>
    have k:=(q 0 0 (by simp) d' n' h5).1 0 (by omega) (by omega);unfold gl at k;rw [if_pos rfl] at k;omega
theorem root_in (h:Inv m g) {b tg gd p w lo hi:Int} {ps:Ps} (hR:IsReb g b tg gd p) (sv:SIv g p lo hi) (hv:Iv g (ad tg) lo hi) (hF:FT m g (ad tg) ps) (q:TopOk t m g w ps):∃ g',Gt t m g m g'/\RtOk m g' b w:=by
 obtain ⟨u1,u2⟩:=hF.up h hv;obtain ⟨a,d,n,l,u,i,e1,e2,e3,e4,e5,e6,e7⟩:=sv;have hs:Slot g p a d n i:=⟨e2,e3,e4,e5⟩;rcases q with ⟨h1,h2,h3⟩ | ⟨h1,h2,h3,h4,h5,d',h6,h7,h8,h9,h10⟩
 ·obtain ⟨g',G,ok⟩:=link_prv h h2 hs e1 (fun x hx=>by rw [<- e6,<- e7];exact ⟨(u1 x hx).1,(u1 x hx).2.1⟩);exact ⟨g',G,tg,gd,p,ps,G.ex.reb hR,G.ex.ft hF,.inl ⟨h1,ok,h3⟩⟩
 ·have st:=step_link h h4 h3 (by rw [h6.kn];decide) (by rw [h6.c0];exact (fun e=>by cases e)) hs e1 (fun d2 n2 hI=>by
   obtain ⟨rfl,rfl⟩:=h6.deg hI;refine ⟨1,fun d3 n3 hI3=>?_⟩;obtain ⟨rfl,rfl⟩:=h6.deg hI3;rw [<- e6,<- e7];refine ⟨fun j j0 j1=>?_,fun j j0 j1=>.inl (h10 j j0 j1)⟩;have pj:=part_head (ps:=ps) (i:=j+1) (by omega) (by omega);have p0:=part_head (ps:=ps) (i:=j) (by omega) (by omega);have lt:=part_lt u2 j0 (show j < j+1 by omega) (by omega) p0.1 pj.1;have b1:=u1 _ (part_mem pj.1);have b0:=u1 _ (part_mem p0.1);rw [h9 (j+1) (by omega) (by omega)];refine ⟨?_,b1.2.1⟩;unfold gl
   split
   ·omega
   ·rw [h9 j (by omega) (by omega)];exact lt)
  refine ⟨g.link (ad w) p,⟨st.1,st.2,fun x _=>⟨rfl,fun e=>⟨?_,rfl⟩⟩⟩,tg,gd,p,ps,st.2.reb hR,st.2.ft hF,.inr ⟨h1,h2,h3,?_,d',st.2.inner h6,h7,h8,fun j j1 j2=>by rw [st.2.gk h6 j1 j2];exact h9 j j1 j2⟩⟩
  ·show (if x=ad w then some p else g.hm x)=g.hm x;rw [if_neg (fun q=>e (by rw [q,h5]))]
  ·show (if ad w=ad w then some p else _)=some p;rw [if_pos rfl]
structure Rb (m:Mst) (g:Gh) (b tg gd p:Int):Prop where
 reb:IsReb g b tg gd p
 hm:g.hm b=some p
theorem Ex.rb (h:Ex m g m' g') {b tg gd p:Int} (q:Rb m g b tg gd p):Rb m' g' b tg gd p:=⟨h.reb q.reb,h.hm _ _ q.hm⟩
theorem Inv.rb (h:Inv m g) {b tg gd p:Int} (q:IsReb g b tg gd p):OkI m g p tg/\At g gd p/\(m.look (b+3)=0∨RtOk m g b (m.look (b+3))):=by
 have c:=h.cell (b+3);unfold COk at c;rw [q.c3,(q.rc.2 3 (by omega) (by omega)).1] at c;obtain ⟨⟨t',gd',p',q',a1,a2⟩,a3⟩:=c;obtain ⟨rfl,rfl,rfl⟩:=q.fn q';exact ⟨a1,a2,a3⟩
theorem renewE_safe (N:Nat) (hN:N<=1000000) {b tg gd p w lo hi:Int} {ps:Ps} (h:Inv m g) (hb:Rb m g b tg gd p) (sv:SIv g p lo hi) (hF:FT m g (ad tg) ps) (hw:RtOk m g b w) (iw:I64 w):Safe t (Pr.renewE N b (ad tg) ps.length w) (fun _ m' g'=>Fw m g m' g') m g:=by
 have b4:=h.lt (c:=b+4) (by rw [hb.reb.c4];exact (fun e=>by cases e));have b1:=hb.reb.rc.1;have b5:=h.ok.2;obtain ⟨hO,hat,_⟩:=h.rb hb.reb;obtain ⟨da,na,hNd,_⟩:=hO.nd sv;obtain ⟨t',gd',p',ps',hR',hF',hw'⟩:=hw;obtain ⟨rfl,rfl,rfl⟩:=hb.reb.fn hR';obtain rfl:=hF.fn hF';unfold Pr.renewE;rw [Pt.wrap_same (by omega) (by omega),Pt.wrap_same (by omega) (by omega)];have pt:Safe t (if 2<=(ps.length:Int) then Pr.parts N b (ad tg) ps.length (ad w) else Pr.ret true) (fun q m' g'=>Fw m g m' g'/\(q=true->OkW m' g' p w)) m g:=by
  split
  ·rename_i e2;rcases hw' with ⟨e1,_⟩ | ⟨_,k3,n1,hm,d,hI,d2,dg,hk⟩
   ·omega
   ·have rt:Rt m g (ad tg) (ad w) ps d lo hi:=⟨hNd.iv,hF,hI,Iv.slot sv n1 hm,by omega,dg,d2,hk⟩;refine Safe.mono ?_ (parts_safe N hN h hb.reb rt);rintro q m1 g1 ⟨F,e⟩;exact ⟨F,fun eq=>.inr (.inr (.inl ⟨k3,d,ps.length,F.ex.inner hI,d2,n1,F.ex.hm _ _ hm,e eq⟩))⟩
  ·rename_i e2;rcases hw' with ⟨_,ok,_⟩ | ⟨e1,_⟩
   ·exact ⟨⟨h,Ex.refl m g⟩,fun _=>ok⟩
   ·omega
 refine Safe.bind (Safe.mono ?_ pt);rintro q m1 g1 ⟨F1,ok1⟩
 split
 ·exact F1
 rename_i eq;have ok1:=ok1 (by simpa using eq);have hb1:=F1.ex.rb hb;refine Safe.bind (Safe.read fun m2 g2 r2=>?_);rw [r2.inv.fix (r2.ex.rb hb1).reb.c1];refine Safe.bind (Safe.read fun m3 g3 r3=>?_);have R:=r2.trans r3;have F3:=F1.trans R.fw;have hb3:=F3.ex.rb hb;rw [r3.inv.fix hb3.reb.c2];obtain ⟨hO3,hat3,_⟩:=r3.inv.rb hb3.reb;obtain ⟨k4,e4⟩:=ofk (k:=4) (D:=b) (by omega) (by omega) b1 (by omega);have sv3:=F3.ex.siv sv;have okr:OkW m3 g3 p (Rf.ofZ 4 b):=.inr (.inr (.inr ⟨k4,tg,gd,by rw [e4];exact hb3.reb,by rw [e4];exact hb3.hm,hO3⟩));have okw:OkW m3 g3 p w:=R.ex.okW (fun _ _ e=>R.ex.back ⟨_,_,F1.ex.siv sv⟩ e) ok1;refine Safe.bind (Safe.mono ?_ (dcss_safe okr (okw.can ⟨_,_,sv3⟩) hat3 ?_ ?_ (i64_of 4 b) iw))
 ·rintro z m4 g4 ⟨F4,_⟩;exact F3.trans F4
 ·rw [<- r3.inv.fix hb3.reb.c1];exact r3.inv.ok.look _
 ·rw [<- r3.inv.fix hb3.reb.c2];exact r3.inv.ok.look _
theorem renew_safe (N:Nat) (hN:N<=1000000) {b tg gd p lo hi:Int} (h:Inv m g) (hb:Rb m g b tg gd p) (sv:SIv g p lo hi):Safe t (Pr.renew N b) (fun _ m' g'=>Fw m g m' g') m g:=by
 have b4:=h.lt (c:=b+4) (by rw [hb.reb.c4];exact (fun e=>by cases e));have b1:=hb.reb.rc.1;have b5:=h.ok.2;unfold Pr.renew;rw [Pt.wrap_same (by omega) (by omega)];refine Safe.bind (Safe.read fun m1 g1 r1=>?_);have hb1:=r1.ex.rb hb;rw [r1.inv.fix hb1.reb.c0];obtain ⟨hO,_,_⟩:=r1.inv.rb hb1.reb;have sv1:=r1.ex.siv sv;obtain ⟨da,na,hNd,_⟩:=hO.nd sv1;refine Safe.bind (Safe.mono ?_ (mark_safe t N N m1 g1 (ad tg) da na lo hi r1.inv hNd));rintro n m2 g2 ⟨r2,ps,hF,en,_⟩;subst en;have hb2:=r2.ex.rb hb1;have sv2:=r2.ex.siv sv1;have hN2:=r2.ex.nd hNd;have R2:=r1.trans r2;have few:=hF.few r2.inv hN2.iv;refine Safe.bind (Safe.read fun m3 g3 r3=>?_);have hb3:=r3.ex.rb hb2;have R3:=R2.trans r3
 split
 ·refine Safe.bind (Safe.mono ?_ (top_safe N hN r3.inv (r3.ex.iv hN2.iv) (r3.ex.ft hF) few));rintro ⟨w,ok⟩ m4 g4 ⟨r4,hz⟩
  split
  ·exact (R3.trans r4).fw
  rename_i eo;obtain ⟨hT,iw⟩:=hz (by simpa using eo);have X4:=r3.ex.trans r4.ex;have R4:=R3.trans r4;refine Safe.bind (Safe.mono (Q:=fun _ m5 g5=>Fw m4 g4 m5 g5/\m5.look (b+3)≠0) ?_ (Safe.cas (fun m5 g5 r5 hu e0=>?_) (fun m5 g5 r5 hn=>?_)))
  ·rintro _ m5 g5 ⟨F5,n5⟩;have F:=R4.fw.trans F5;have hb5:=F.ex.rb hb;refine Safe.bind (Safe.read fun m6 g6 r6=>?_);have F6:=F.trans r6.fw;have hb6:=F6.ex.rb hb;have n6:m6.look (b+3)≠0:=by rw [r6.ex.stay _ (.inr (.inl hb5.reb.c3)) n5];exact n5
   have rt:=(r6.inv.rb hb6.reb).2.2.resolve_left n6;exact Safe.mono (fun _ _ _ F7=>F6.trans F7) (renewE_safe N hN r6.inv hb6 (F6.ex.siv sv) ((X4.trans (F5.ex.trans r6.ex)).ft hF) rt (r6.inv.ok.look _))
  ·have X5:=X4.trans r5.ex;obtain ⟨g6,G,rt⟩:=root_in r5.inv (X5.rb hb2).reb (X5.siv sv2) (X5.iv hN2.iv) (X5.ft hF) (hT.on r4.inv r5);have hp:=write_put r5.inv.ok hu (x:=w) iw;have st:=step_root G.inv ((X5.trans G.ex).rb hb2).reb e0 rt hp;refine ⟨g6,G.trans (Gt.same st),r5.fw.trans (G.fw.trans ⟨st.1,st.2⟩),?_⟩;rw [hp.eq];intro e;rcases rt with ⟨_,_,_,_,_,_,⟨_,ok,_⟩ | ⟨_,k,_⟩⟩
   ·exact ok.ne.1 e
   ·have e':w=0:=e;have k':kd w=3:=k;rw [e'] at k';exact absurd k' (by decide)
  ·exact ⟨r5.fw,fun e=>hn ⟨(r5.inv.used _).1 (by rw [((X4.trans r5.ex).rb hb2).reb.c3];exact (fun e=>by cases e)),e⟩⟩
 ·rename_i n3;have rt:=(r3.inv.rb hb3.reb).2.2.resolve_left n3;exact Safe.mono (fun _ _ _ F7=>R3.fw.trans F7) (renewE_safe N hN r3.inv hb3 (r3.ex.siv sv2) (r3.ex.ft hF) rt (r3.inv.ok.look _))
end Sd
namespace Sd
namespace Pr
def fresh (kind key value w q:Int) (leaf there:Bool):Pr (Int × Bool):=
 if kind=3 then recM 1 [0] else (recM 2 [key,value]).bind fun y=>if y.2=false∨leaf=false∨there=true then ret y else recM 3 (innerL 2 [max q key] (if key < q then [y.1,w] else [w,y.1]))
def layB (N:Nat) (kind key value n sl w q:Int) (res:Rs) (leaf found:Bool) (path:List En):Pr (Rs × Bool):=
 if (kind=1/\found=true)∨(kind=3/\found=false) then ret (res,true) else (fresh kind key value w q leaf found).bind fun x=>if x.2=false then ret (Rs.nomem,true) else
 (dcss (wrap64 (n+2)) sl w x.1).bind fun o=>if o=3 then ret (Rs.nomem,true) else (if o=1/\(kind≠2∨found=false) then tally N path else ret ()).bind fun _=>ret (res,decide (o=1))
def lay (N:Nat) (kind key value n sl w:Int) (path:List En):Pr (Rs × Bool):=
 if kd w=2 then (read (ad w)).bind fun q=>if q=key then (read (ad w+1)).bind fun v=>layB N kind key value n sl w q ⟨0,true,q,v,0⟩ true true path else layB N kind key value n sl w q Rs.none true false path
 else layB N kind key value n sl w 0 Rs.none false false path
def attempt (N:Nat) (kind key value:Int):Nat->Int->List En->Pr (Rs × Bool)
 | 0,_,_=>stop
 | c+1,n,es=>(child n key).bind fun z=>(slot N z).bind fun w=>
  if kd w=4 then (renew N (ad w)).bind fun y=>if y=false then ret (Rs.nomem,true) else ret (Rs.none,false)
  else if kd w=3 then attempt N kind key value c (ad w) (es++[⟨n,z,w⟩]) else lay N kind key value n z w es
def change (N:Nat) (kind key value:Int):Nat->Pr Rs
 | 0=>stop
 | c+1=>(attempt N kind key value N 1 []).bind fun a=>if a.2=true then ret a.1 else change N kind key value c
end Pr
variable {t:Nat} {m m':Mst} {g g':Gh}
structure EnOk (m:Mst) (g:Gh) (e:En):Prop where
 ok:OkI m g e.sl e.wd
 at_:At g (e.nd+2) e.sl
 isl:I64 e.sl
 iwd:I64 e.wd
theorem Ex.en (h:Ex m g m' g') {e:En} (q:EnOk m g e):EnOk m' g' e:=⟨h.okI q.ok,h.at q.at_,q.isl,q.iwd⟩
theorem At.small (h:Inv m g) {n p:Int} (q:At g (n+2) p):wrap64 (n+2)=n+2/\I64 (n+2):=by
 obtain ⟨a,d,k,i,lo,hi,hs,e,_⟩:=q
 have:=hs.1.far h
 have:=hs.1.pos
 exact ⟨Pt.wrap_same (by omega) (by omega),by constructor <;> omega⟩
theorem start_safe (N:Nat) (hN:N<=1000000) (h:Inv m g) {e:En} (he:EnOk m g e):Safe t (Pr.start N e.nd e.sl e.wd) (fun _ m' g'=>Fw m g m' g') m g:=by
 obtain ⟨ew,i2⟩:=he.at_.small h;unfold Pr.start;rw [ew];refine Safe.bind (Safe.make (by
  intro z hz;simp only [List.mem_cons,List.not_mem_nil,or_false] at hz;rcases hz with rfl | rfl | rfl | rfl | rfl
  ·exact he.iwd
  ·exact i2
  ·exact he.isl
  ·exact i64_1 (by omega) (by omega)
  ·exact i64_1 (by omega) (by omega)) (fun m1 g1 m2 r1 hm=>?_) (fun m1 g1 r1=>?_))
 ·have he1:=r1.ex.en he;obtain ⟨g2,G,hR,hn,ho⟩:=mk_reb (t:=t) r1.inv rfl he1.ok he1.at_ hm;refine ⟨g2,G,?_⟩;generalize hA:(m1.xs.length:Int)+1=A at hR hn ho ⊢;have F2:=r1.fw.trans G.fw;have he2:=F2.ex.en he;have b4:=G.inv.lt (c:=A+4) (by rw [hR.c4];exact (fun e=>by cases e));have b5:=G.inv.ok.2;have b1:=hR.rc.1;have A1:A≠1:=fun e=>by
   have:=r1.inv.noA
   rw [hA,e,r1.inv.top.1.c0] at this;cases this
  obtain ⟨k4,ea⟩:=ofk (k:=4) (D:=A) (by omega) (by omega) b1 (by omega);rw [if_pos (by omega)];have can:Can t m2 g2 e.sl (Rf.ofZ 4 A):=fun m3 g3 r3=>by
   obtain ⟨q1,q2⟩:=r3.own1 (by rw [hR.c0];exact (fun e=>by cases e)) ho hn;have he3:=r3.ex.en he2;have hR3:=r3.ex.reb hR;obtain ⟨a,d,k,i,lo,hi,hs,_,hv⟩:=he3.at_;have st:=step_link r3.inv q1 A1 (by rw [hR3.kn];decide) (by rw [hR3.c0];exact (fun e=>by cases e)) hs hv (fun d' n' hI=>by have:=hI.kn.symm.trans hR3.kn;omega);refine ⟨g3.link A e.sl,⟨st.1,st.2,fun x _=>⟨rfl,fun q=>⟨?_,rfl⟩⟩⟩,.inr (.inr (.inr ⟨k4,e.wd,e.nd+2,by rw [ea];exact st.2.reb hR3,?_,st.2.okI he3.ok⟩))⟩
   ·show (if x=A then some e.sl else g3.hm x)=g3.hm x;rw [if_neg (fun q3=>q (by rw [q3,q2]))]
   ·rw [ea];show (if A=A then some e.sl else _)=some e.sl;rw [if_pos rfl]
  refine Safe.bind (Safe.mono ?_ (dcss_safe (.inr (.inr (.inl he2.ok))) can he2.at_ i2 he.isl he.iwd (i64_of 4 A)));rintro z m3 g3 ⟨F3,okz⟩;have F:=F2.trans F3
  split
  ·rename_i e1;rcases okz (by omega) with ⟨k,_⟩ | ⟨k,_⟩ | ⟨k,_⟩ | ⟨_,tg,gd,hR',hh,_⟩
   ·omega
   ·omega
   ·omega
   ·rw [ea] at hR' hh;obtain ⟨lo,hi,sv⟩:=(F.ex.en he).at_.siv;exact Safe.mono (fun _ _ _ F4=>F.trans F4) (renew_safe N hN F3.inv ⟨hR',hh⟩ sv)
  ·exact F
 ·rw [if_neg (by decide)];exact r1.fw
theorem tallyL_safe:∀ (l:List En) (i:Nat) (f:Int) (m:Mst) (g:Gh),Inv m g->(∀ e ∈ l,EnOk m g e)->Safe t (Pr.tallyL l i f) (fun p m' g'=>Fw m g m' g'/\(p=f∨((i:Int)<=p/\p < i+l.length))) m g
 | [],_,_,m,g,h,_=>⟨⟨h,Ex.refl m g⟩,.inl rfl⟩
 | e :: l,i,f,m,g,h,he=>by
  unfold Pr.tallyL;refine Safe.bind (Safe.add fun m1 g1 r1=>?_);obtain ⟨_,d,n,hI,_⟩:=(r1.ex.en (he e (by simp))).ok;have hu:m1.used (ad e.wd+3)=true:=(r1.inv.used _).1 (by rw [hI.c3];exact (fun e=>by cases e));have hp:=write_put r1.inv.ok hu (x:=wrap64 (m1.look (ad e.wd+3)+1)) (i64_wrap _);have st:=step_count r1.inv (.inl hI.c3) hp;refine ⟨g1,Gt.same st,?_⟩;refine Safe.bind (Safe.read fun m2 g2 r2=>?_);have F:=(r1.fw.trans ⟨st.1,st.2⟩).trans r2.fw;refine Safe.mono ?_ (tallyL_safe l (i+1) _ m2 g2 r2.inv (fun e' q=>F.ex.en (he e' (by simp [q]))));rintro p m3 g3 ⟨F3,q⟩;refine ⟨F.trans F3,?_⟩;rw [List.length_cons];rcases q with q | q
  ·split at q
   ·exact .inr ⟨by omega,by omega⟩
   ·exact .inl q
  ·exact .inr ⟨by omega,by omega⟩
theorem tally_safe (N:Nat) (hN:N<=1000000) (h:Inv m g) {es:List En} (he:∀ e ∈ es,EnOk m g e):Safe t (Pr.tally N es) (fun _ m' g'=>Fw m g m' g') m g:=by
 unfold Pr.tally;refine Safe.bind (Safe.mono ?_ (tallyL_safe es 0 (-1) m g h he));rintro p m1 g1 ⟨F,q⟩
 split
 ·rename_i e;have hp:p.toNat < es.length:=by omega
  have hm:es.getD p.toNat ⟨0,0,0⟩ ∈ es:=by
   rw [List.getD_eq_getElem?_getD,List.getElem?_eq_getElem hp];exact List.getElem_mem hp
  refine Safe.bind (Safe.mono ?_ (start_safe N hN F.inv (F.ex.en (he _ hm))));intro _ m2 g2 F2;exact F.trans F2
 ·exact F
theorem fresh_safe {kind key value w q:Int} {leaf there:Bool} (ik:I64 key) (iv:I64 value) (iw:I64 w) (hw:leaf=true->there=false->kd w=2/\q≠key/\I64 q/\∃ v,IsLeaf g (ad w) q v) :
  Safe t (Pr.fresh kind key value w q leaf there) (fun z m' g'=>Rl t m g m' g'/\(z.2=true->I64 z.1/\∃ l:Ps,Prv t m' g' z.1 l/\∀ p ∈ l,p.1=key∨(leaf=true/\there=false/\p.1=q))) m g:=by
 unfold Pr.fresh
 split
 ·refine recM_safe (by intro z hz;simp at hz;rw [hz];exact i64_1 (by omega) (by omega)) (by simp) (fun m1 g1 m2 A r1 hA hA2 hm=>?_) (fun m1 g1 r1=>⟨r1,fun e=>by cases e⟩);obtain ⟨g2,q1,q2,q3,q4,q5,q6⟩:=mk_empty (t:=t) r1.inv hA hm;obtain ⟨k1,ea⟩:=ofk (k:=1) (D:=A) (by omega) (by omega) (by omega) hA2;have hno:g1.ro A=none:=by rw [hA];exact r1.inv.noA
  exact ⟨g2,q1,r1.trans (q1.made (fun _ _=>by rw [q5]) q6),fun _=>⟨i64_of 1 A,[],.inl ⟨k1,rfl,by rw [ea];exact q2,by rw [ea];exact q3,by rw [ea];exact q4,by rw [ea];exact (fun e=>by rw [e,r1.inv.top.1.c0] at hno;cases hno)⟩,by simp⟩⟩
 ·refine Safe.bind (recM_safe (by intro z hz;simp at hz;rcases hz with rfl | rfl;exact ik;exact iv) (by simp) (fun m1 g1 m2 A r1 hA hA2 hm=>?_) (fun m1 g1 r1=>?_))
  ·obtain ⟨g2,q1,q2,q5,q6⟩:=mk_leaf (t:=t) r1.inv hA (k:=key) (v:=value) hm;obtain ⟨k2,ea⟩:=ofk (k:=2) (D:=A) (by omega) (by omega) (by omega) hA2;refine ⟨g2,q1,?_⟩;have R:=r1.trans (q1.made (fun _ _=>by rw [q5]) q6);have pv:Prv t m2 g2 (Rf.ofZ 2 A) [(key,value)]:=.inr (.inl ⟨k2,key,value,by rw [ea];exact q2,rfl⟩)
   split
   ·exact ⟨R,fun _=>⟨i64_of 2 A,_,pv,fun p hp=>.inl (by rw [List.mem_singleton] at hp;rw [hp])⟩⟩
   ·rename_i hc;have hlf:leaf=true:=by
     cases leaf with
     | true=>rfl
     | false=>exact absurd (.inr (.inl rfl)) hc
    have hth:there=false:=by
     cases there with
     | false=>rfl
     | true=>exact absurd (.inr (.inr rfl)) hc
    obtain ⟨kw,hne,iq,v0,hl0⟩:=hw hlf hth;have hl2:=R.ex.leaf hl0;have pw:Prv t m2 g2 w [(q,v0)]:=.inr (.inl ⟨kw,q,v0,hl2,rfl⟩);obtain ⟨a1,b1,l1,l2,ecs,h1,h2,hlt,hmx,hmem⟩:∃ (a1 b1:Int) (l1 l2:Int × Int),(if key < q then [Rf.ofZ 2 A,w] else [w,Rf.ofZ 2 A])=[a1,b1]/\Prv t m2 g2 a1 [l1]/\Prv t m2 g2 b1 [l2]/\l1.1 < l2.1/\max q key=l2.1/\((l1=(key,value)/\l2=(q,v0))∨(l1=(q,v0)/\l2=(key,value))):=by
     by_cases e:key < q
     ·exact ⟨_,_,_,_,if_pos e,pv,pw,e,by show max q key=q;omega,.inl ⟨rfl,rfl⟩⟩
     ·exact ⟨_,_,_,_,if_neg e,pw,pv,by show q < key;omega,by show max q key=key;omega,.inr ⟨rfl,rfl⟩⟩
    rw [ecs,hmx];have kk:∀ {x:Int} {p:Int × Int},Prv t m2 g2 x [p]->kd x=2->∃ k v,IsLeaf g2 (ad x) k v:=fun hx k=>by
     rcases hx with ⟨k',_⟩ | ⟨_,u,v,hl,_⟩ | ⟨k',_⟩
     ·omega
     ·exact ⟨u,v,hl⟩
     ·omega
    have kab:kd a1=2/\kd b1=2:=by
     split at ecs
     ·cases ecs;exact ⟨k2,kw⟩
     ·cases ecs;exact ⟨kw,k2⟩
    have iab:I64 a1/\I64 b1:=by
     split at ecs
     ·cases ecs;exact ⟨i64_of 2 A,iw⟩
     ·cases ecs;exact ⟨iw,i64_of 2 A⟩
    have il2:I64 l2.1:=by rcases hmem with ⟨_,e⟩ | ⟨_,e⟩ <;> (rw [e];assumption)
    refine recM_safe (by
     intro z hz;unfold innerL at hz;simp only [List.mem_append,List.mem_cons,List.not_mem_nil,or_false,List.length_cons,List.length_nil] at hz;rcases hz with (rfl | rfl | rfl | rfl | rfl) | rfl | rfl | rfl
     ·exact i64_1 (by omega) (by omega)
     ·exact i64_1 (by omega) (by omega)
     ·exact i64_1 (by omega) (by omega)
     ·exact i64_1 (by omega) (by omega)
     ·exact i64_1 (by omega) (by omega)
     ·exact il2
     ·exact iab.1
     ·exact iab.2) (by unfold innerL;simp) (fun m3 g3 m4 B r3 hB hB2 hm4=>?_) (fun m3 g3 r3=>⟨R.trans r3,fun e=>by cases e⟩)
    have p1:=h1.on R.inv r3;have p2:=h2.on R.inv r3;have at2:∀ (j:Nat) x,[a1,b1][j]? = some x->(j=0/\x=a1)∨(j=1/\x=b1):=fun j x e=>by
     rcases j with _ | _ | j
     ·simp at e;exact .inl ⟨rfl,e.symm⟩
     ·simp at e;exact .inr ⟨rfl,e.symm⟩
     ·simp at e
    have no3:∀ (j:Nat) x,[a1,b1][j]? = some x->kd x≠3:=fun j x e=>by
     rcases at2 j x e with ⟨_,rfl⟩ | ⟨_,rfl⟩ <;> omega
    obtain ⟨g4,G,s2,s3,s4,s5,s6,s7,s8⟩:=mk_inner (t:=t) r3.inv hB (size:=2) (d:=2) (q:=[l2.1]) (cs:=[a1,b1]) (fun _=>l2.1) (by simp) (by omega) (by simp) (fun x hx=>by
      obtain ⟨j,hj⟩:=List.getElem?_of_mem hx;obtain ⟨u,v,hl⟩:∃ u v,IsLeaf g2 (ad x) u v:=by
       rcases at2 j x hj with ⟨_,rfl⟩ | ⟨_,rfl⟩
       ·exact kk h1 kab.1
       ·exact kk h2 kab.2
      have kx:kd x=2:=by rcases at2 j x hj with ⟨_,rfl⟩ | ⟨_,rfl⟩;exact kab.1;exact kab.2
      exact .inr (.inl ⟨kx,u,v,r3.ex.leaf hl⟩)) (fun i j v x e1 _ k1 _ _=>absurd k1 (no3 i v e1)) (fun i i1 i2=>.inl (by rw [show i=1 by omega];rfl)) hm4
    obtain ⟨k3,eb⟩:=ofk (k:=3) (D:=B) (by omega) (by omega) (by omega) hB2;have hno:g3.ro B=none:=by rw [hB];exact r3.inv.noA
    have hB1:B≠1:=fun e=>by rw [e,r3.inv.top.1.c0] at hno;cases hno
    refine ⟨g4,G,(R.trans r3).trans (G.made (fun b hb=>s7 b (fun x hx k=>by
     obtain ⟨j,hj⟩:=List.getElem?_of_mem hx;exact absurd k (no3 j x hj))) s8),fun _=>⟨i64_of 3 B,[l1,l2],?_,fun p hp=>?_⟩⟩
    ·refine prv_inner r3.inv G (pt:=fun i=>if i=0 then [l1] else [l2]) hB2 hB1 s2 (by omega) s3 s4 (by simp) s6 (fun j x e=>?_) (fun i hi'=>?_) (fun i j hij hj p hp r hr=>?_)
     ·rcases at2 j x e with ⟨rfl,rfl⟩ | ⟨rfl,rfl⟩
      ·exact p1
      ·exact p2
     ·by_cases e:i=0
      ·subst e;exact ⟨l1,by simp,fun r hr=>by simp at hr;rw [hr];exact ⟨Int.le_refl _,by simp⟩,fun q=>absurd q (by omega)⟩
      ·have:i=1:=by omega
       subst this;exact ⟨l2,by simp,fun r hr=>by simp at hr;rw [hr];exact ⟨Int.le_refl _,by simp⟩,fun _=>s5 1 (by omega) (by omega)⟩
     ·have e0:i=0:=by omega
      have e1:j=1:=by omega
      subst e0 e1;simp at hp hr;rw [hp,hr];exact hlt
    ·simp only [List.mem_cons,List.not_mem_nil,or_false] at hp;rcases hmem with ⟨e1,e2⟩ | ⟨e1,e2⟩
     ·rcases hp with rfl | rfl
      ·exact .inl (by rw [e1])
      ·exact .inr ⟨hlf,hth,by rw [e2]⟩
     ·rcases hp with rfl | rfl
      ·exact .inr ⟨hlf,hth,by rw [e1]⟩
      ·exact .inl (by rw [e2])
  ·rw [if_pos (.inl rfl)];exact ⟨r1,fun e=>by cases e⟩
end Sd
namespace Sd
variable {t:Nat} {m m':Mst} {g g':Gh}
theorem layB_safe (N:Nat) (hN:N<=1000000) (h:Inv m g) {kind key value n sl w q lo hi:Int} {res:Rs} {leaf found:Bool} {path:List En} (ik:I64 key) (iv:I64 value) (iw:I64 w) (isl:I64 sl) (ow:OkW m g sl w) (hat:At g (n+2) sl) (sv:SIv g sl lo hi) (hk:lo<=key/\key<=hi)
  (hw:leaf=true->found=false->kd w=2/\q≠key/\I64 q/\∃ v,IsLeaf g (ad w) q v) (hp:∀ e ∈ path,EnOk m g e):Safe t (Pr.layB N kind key value n sl w q res leaf found path) (fun _ m' g'=>Fw m g m' g') m g:=by
 obtain ⟨ew,i2⟩:=hat.small h;unfold Pr.layB;rw [ew]
 split
 ·exact ⟨h,Ex.refl m g⟩
 refine Safe.bind (Safe.mono ?_ (fresh_safe (kind:=kind) (there:=found) ik iv iw hw));rintro ⟨x,b⟩ m1 g1 ⟨r1,hx⟩
 split
 ·exact r1.fw
 rename_i eb;obtain ⟨ix,l,pv,hl⟩:=hx (by simpa using eb);have ow1:OkW m1 g1 sl w:=r1.ex.okW (fun _ _ e=>r1.ex.back ⟨_,_,sv⟩ e) ow;have hat1:=r1.ex.at hat;have can:Can t m1 g1 sl x:=fun m2 g2 r2=>by
  have X:=r1.ex.trans r2.ex;obtain ⟨a,d,k,i,l1,u1,hs,_,hv⟩:=X.at hat;have sv2:=hs.siv hv;obtain ⟨e1,e2⟩:=sv2.fn (X.siv sv);refine link_prv r2.inv (pv.on r1.inv r2) hs hv (fun p hp'=>?_);rw [e1,e2];rcases hl p hp' with e | ⟨e3,e4,e⟩
  ·rw [e];exact hk
  ·obtain ⟨k2,_,_,v,hlf⟩:=hw e3 e4;rw [e];rcases ow with ⟨k',_⟩ | ⟨_,k',v',hl',hb⟩ | ⟨k',_⟩ | ⟨k',_⟩
   ·omega
   ·obtain ⟨rfl,_⟩:=hlf.fn hl';exact hb _ _ sv
   ·omega
   ·omega
 refine Safe.bind (Safe.mono ?_ (dcss_safe ow1 can hat1 i2 isl iw ix));rintro o m2 g2 ⟨F2,_⟩;have F:=r1.fw.trans F2
 split
 ·exact F
 refine Safe.bind (Safe.mono (Q:=fun _ m3 g3=>Fw m g m3 g3) (fun _ _ _ F3=>F3) ?_)
 split
 ·exact Safe.mono (fun _ _ _ F3=>F.trans F3) (tally_safe N hN F2.inv (fun e he=>F.ex.en (hp e he)))
 ·exact F
theorem lay_safe (N:Nat) (hN:N<=1000000) (h:Inv m g) {kind key value n sl w lo hi:Int} {path:List En} (ik:I64 key) (iv:I64 value) (iw:I64 w) (isl:I64 sl) (ow:OkW m g sl w) (hat:At g (n+2) sl) (sv:SIv g sl lo hi) (hk:lo<=key/\key<=hi)
  (hp:∀ e ∈ path,EnOk m g e):Safe t (Pr.lay N kind key value n sl w path) (fun _ m' g'=>Fw m g m' g') m g:=by
 unfold Pr.lay
 split
 ·rename_i k2;rcases ow with ⟨k',_⟩ | ⟨_,k',v',hl',hb⟩ | ⟨k',_⟩ | ⟨k',_⟩
  ·omega
  ·have ow:OkW m g sl w:=.inr (.inl ⟨k2,k',v',hl',hb⟩);have on:∀ {m1:Mst} {g1:Gh},Rl t m g m1 g1->OkW m1 g1 sl w:=fun r1=>r1.ex.okW (fun _ _ e=>r1.ex.back ⟨_,_,sv⟩ e) ow;refine Safe.bind (Safe.read fun m1 g1 r1=>?_);rw [r1.inv.fix (r1.ex.leaf hl').c0];have iq:I64 k':=by rw [<- h.fix hl'.c0];exact h.ok.look _
   split
   ·refine Safe.bind (Safe.read fun m2 g2 r2=>?_);have R:=r1.trans r2;exact Safe.mono (fun _ _ _ F3=>R.fw.trans F3) (layB_safe N hN R.inv ik iv iw isl (on R) (R.ex.at hat) (R.ex.siv sv) hk (fun _ e=>by cases e) (fun e he=>R.ex.en (hp e he)))
   ·rename_i ne;exact Safe.mono (fun _ _ _ F3=>r1.fw.trans F3) (layB_safe N hN r1.inv ik iv iw isl (on r1) (r1.ex.at hat) (r1.ex.siv sv) hk (fun _ _=>⟨k2,ne,iq,v',r1.ex.leaf hl'⟩) (fun e he=>r1.ex.en (hp e he)))
  ·omega
  ·omega
 ·exact layB_safe N hN h ik iv iw isl ow hat sv hk (fun e _=>by cases e) hp
theorem attempt_safe (N:Nat) (hN:N<=1000000) {kind key value:Int} (ik:I64 key) (iv:I64 value):∀ (c:Nat) (n:Int) (es:List En) (m:Mst) (g:Gh) (d sz lo hi:Int),Inv m g->IsInner g n d sz->Compl m g n->Iv g n lo hi->lo<=key/\key<=hi->(∀ e ∈ es,EnOk m g e)->
  Safe t (Pr.attempt N kind key value c n es) (fun _ m' g'=>Fw m g m' g') m g
 | 0,_,_,_,_,_,_,_,_,_,_,_,_,_,_=>trivial
 | c+1,n,es,m,g,d,sz,lo,hi,h,hI,hc,hv,hk,hp=>by
  have fx:=hI.far h;unfold Pr.attempt;refine Safe.bind (Safe.mono ?_ (child_safe h hI hc hk));rintro s m1 g1 ⟨r1,i,hs,b1,b2⟩;have hs1:=r1.ex.sl hs;refine Safe.bind (Safe.mono ?_ (slot_safe N hs1.ro));rintro w m2 g2 ⟨r2,ew,k5⟩;have R:=r1.trans r2;have hs2:=R.ex.sl hs;have hv2:=R.ex.iv hv;have sv:=R.ex.siv (hs.siv hv);have w0:w≠0:=by
   rw [<- ew,hs2.2.2.2];exact R.ex.compl hI hc d sz i hs2.1 hs2.2.1 hs2.2.2.1
  have ow:OkW m2 g2 s w:=by
   rcases R.inv.sees hs2.ro with e | e | ⟨e,_⟩
   ·rw [ew] at e;exact absurd e w0
   ·rwa [ew] at e
   ·rw [ew] at e;exact absurd e k5
  have hat:At g2 (n+2) s:=⟨n,d,sz,i,lo,hi,hs2,rfl,hv2⟩;have isl:I64 s:=by have e:=hs2.2.2.2;have q1:=hs2.2.1;have q2:=hs2.2.2.1;exact i64_1 (by omega) (by omega)
  have iw:I64 w:=by rw [<- ew];exact R.inv.ok.look _
  split
  ·rename_i k4;rcases ow with ⟨k',_⟩ | ⟨k',_⟩ | ⟨k',_⟩ | ⟨_,tg,gd,hR,hm,_⟩
   ·omega
   ·omega
   ·omega
   ·refine Safe.bind (Safe.mono ?_ (renew_safe N hN R.inv ⟨hR,hm⟩ sv));intro y m3 g3 F3
    split
    ·exact R.fw.trans F3
    ·exact R.fw.trans F3
  rename_i k4
  split
  ·rename_i k3;rcases ow with ⟨k',_⟩ | ⟨k',_⟩ | hO | ⟨k',_⟩
   ·omega
   ·omega
   ·obtain ⟨d',n',hNd,_⟩:=hO.nd sv;refine Safe.mono (fun _ _ _ F3=>R.fw.trans F3) (attempt_safe N hN ik iv c (ad w) _ m2 g2 d' n' _ _ R.inv hNd.inn hNd.cm hNd.iv ⟨b1,b2⟩ (fun e he=>?_));rcases List.mem_append.1 he with he | he
    ·exact R.ex.en (hp e he)
    ·rw [List.mem_singleton] at he;rw [he];exact ⟨hO,hat,isl,iw⟩
   ·omega
  ·exact Safe.mono (fun _ _ _ F3=>R.fw.trans F3) (lay_safe N hN R.inv ik iv iw isl ow hat sv ⟨b1,b2⟩ (fun e he=>R.ex.en (hp e he)))
theorem change_safe (N:Nat) (hN:N<=1000000) {kind key value:Int} (ik:I64 key) (iv:I64 value):∀ (c:Nat) (m:Mst) (g:Gh),Inv m g->Safe t (Pr.change N kind key value c) (fun _ m' g'=>Fw m g m' g') m g
 | 0,_,_,_=>trivial
 | c+1,m,g,h=>by
  unfold Pr.change;have hc:Compl m g 1:=fun d' n' i hI h0 h1=>by
   obtain ⟨rfl,rfl⟩:=h.top.1.deg hI;rw [show (1:Int)+4+1+i=6 by omega];exact h.top.2
  refine Safe.bind (Safe.mono ?_ (attempt_safe N hN ik iv N 1 [] m g 1 0 _ _ h h.top.1 hc (Iv.top h.top.1) ⟨ik.1,ik.2⟩ (by simp)));intro a m1 g1 F1
  split
  ·exact F1
  ·exact Safe.mono (fun _ _ _ F3=>F1.trans F3) (change_safe N hN ik iv c m1 g1 F1.inv)
end Sd
namespace Sd
def Pr.run {α:Type}:Pr α->Rn->Option α × Rn
 | .ret a,s=>(some a,s)
 | .ask q k,s=>if s.off=true then (none,s) else if s.pos < s.tape.length then (k (s.tape.getD s.pos 0)).run { s with pos:=s.pos+1 } else (none,{ s with off:=true,nx:=q })
 | .stop,s=>(none,s)
theorem run_ask {α:Type} (q:Ak) (k:Int->Pr α) (s:Rn):(Pr.ask q k).run s=if s.off=true then (none,s) else if s.pos < s.tape.length then (k (s.tape.getD s.pos 0)).run { s with pos:=s.pos+1 } else (none,{ s with off:=true,nx:=q }):=rfl
structure Eqv (s s':Rn):Prop where
 tape:s.tape=s'.tape
 pos:s.pos=s'.pos
 off:s.off=s'.off
 nx:s.nx=s'.nx
variable {α β:Type}
theorem run_eqv (p:Pr α):∀ {s s':Rn},Eqv s s'->(p.run s).1=(p.run s').1/\Eqv (p.run s).2 (p.run s').2:=by
 induction p with
 | ret a=>intro s s' h;exact ⟨rfl,h⟩
 | ask q k ih=>
  intro s s' h;rw [run_ask,run_ask,h.off,h.pos,h.tape]
  split
  ·exact ⟨rfl,h⟩
  ·split
   ·exact ih _ ⟨rfl,rfl,rfl,h.nx⟩
   ·exact ⟨rfl,rfl,rfl,rfl,rfl⟩
 | stop=>intro s s' h;exact ⟨rfl,h⟩
theorem run_bind (p:Pr α) (f:α->Pr β):∀ (s:Rn),(p.bind f).run s=match p.run s with
  | (some a,r)=>(f a).run r
  | (none,r)=>(none,r):=by
 induction p with
 | ret a=>intro s;rfl
 | ask q k ih=>
  intro s;show (Pr.ask q fun z=>(k z).bind f).run s=_;rw [run_ask,run_ask]
  split
  ·rfl
  ·split
   ·exact ih _ _
   ·rfl
 | stop=>intro s;rfl
structure Fo (s:Rn) (p:Pr α) (x:α × Rn):Prop where
 left:x.2.left<=s.left
 off:s.off=true->x.2.off=true/\x.2.nx=s.nx
 on:s.off=false->(∃ a r,p.run s=(some a,r)/\x.1=a/\Eqv x.2 r/\r.off=false)∨(∃ r,p.run s=(none,r)/\r.off=true/\x.2.off=true/\x.2.nx=r.nx)
theorem Fo.ret (s:Rn) (a:α):Fo s (.ret a) (a,s):=⟨Nat.le_refl _,fun h=>⟨h,rfl⟩,fun h=>.inl ⟨a,s,rfl,rfl,⟨rfl,rfl,rfl,rfl⟩,h⟩⟩
theorem Fo.dead {s:Rn} (h:s.off=true) (p:Pr α) (a:α):Fo s p (a,s):=⟨Nat.le_refl _,fun h=>⟨h,rfl⟩,fun h2=>by rw [h] at h2;cases h2⟩
theorem Fo.bind {s r:Rn} {p:Pr α} {w:α} {f:α->Pr β} {y:β × Rn} (h:Fo s p (w,r)) (h2:Fo r (f w) y):Fo s (p.bind f) y:=by
 refine ⟨Nat.le_trans h2.left h.left,fun e=>?_,fun e=>?_⟩
 ·obtain ⟨a1,a2⟩:=h.off e;obtain ⟨b1,b2⟩:=h2.off a1;exact ⟨b1,b2.trans a2⟩
 ·rw [run_bind];rcases h.on e with ⟨a,r0,e1,e2,e3,e4⟩ | ⟨r0,e1,e2,e3,e4⟩
  ·rw [e1];have e2':w=a:=e2;subst e2';have ro:r.off=false:=e3.off.trans e4;obtain ⟨q1,q2⟩:=run_eqv (f w) e3;rcases h2.on ro with ⟨b,r1,u1,u2,u3,u4⟩ | ⟨r1,u1,u2,u3,u4⟩
   ·have q1':(Pr.run (f w) r0).1=some b:=by rw [<- q1,show (w,r).2=r from rfl,u1]
    have q2':Eqv r1 (Pr.run (f w) r0).2:=by have:=q2;rw [show (w,r).2=r from rfl,u1] at this;exact this
    refine .inl ⟨b,(Pr.run (f w) r0).2,by show Pr.run (f w) r0=_;rw [<- q1'],u2,⟨u3.tape.trans q2'.tape,u3.pos.trans q2'.pos,u3.off.trans q2'.off,u3.nx.trans q2'.nx⟩,q2'.off.symm.trans u4⟩
   ·have q1':(Pr.run (f w) r0).1=none:=by rw [<- q1,show (w,r).2=r from rfl,u1]
    have q2':Eqv r1 (Pr.run (f w) r0).2:=by have:=q2;rw [show (w,r).2=r from rfl,u1] at this;exact this
    refine .inr ⟨(Pr.run (f w) r0).2,by show Pr.run (f w) r0=_;rw [<- q1'],q2'.off.symm.trans u2,u3,u4.trans q2'.nx⟩
  ·rw [e1];obtain ⟨b1,b2⟩:=h2.off e3;exact .inr ⟨r0,rfl,e2,b1,b2.trans e4⟩
theorem Fo.ask (s:Rn) (q:Ak) {f:Int->α}:Fo s (.ask q fun z=>.ret (f z)) (f (s.ask q).1,(s.ask q).2):=by
 refine ⟨Rn.ask_le s q,fun e=>by rw [Rn.ask_off q e];exact ⟨e,rfl⟩,fun e=>?_⟩;have ne:¬ s.off=true:=by rw [e];decide
 by_cases hp:s.pos < s.tape.length
 ·have e1:s.ask q=(s.tape.getD s.pos 0,{ s with pos:=s.pos+1 }):=by unfold Rn.ask;rw [if_neg ne,if_pos hp]
  rw [run_ask,if_neg ne,if_pos hp,e1];exact .inl ⟨_,_,rfl,rfl,⟨rfl,rfl,rfl,rfl⟩,e⟩
 ·have e1:s.ask q=(0,{ s with off:=true,nx:=q }):=by unfold Rn.ask;rw [if_neg ne,if_neg hp]
  rw [run_ask,if_neg ne,if_neg hp,e1];exact .inr ⟨_,rfl,rfl,rfl,rfl⟩
theorem fo_read (s:Rn) (a:Int):Fo s (Pr.read a) (s.read a):=Fo.ask s _ (f:=fun z=>z)
theorem fo_write (s:Rn) (a x:Int):Fo s (Pr.write a x) ((),s.write a x):=Fo.ask s _ (f:=fun _=>())
theorem fo_cas (s:Rn) (a o x:Int):Fo s (Pr.cas a o x) (s.cas a o x):=Fo.ask s _ (f:=fun z=>z == 1)
theorem fo_add (s:Rn) (a d:Int):Fo s (Pr.add a d) (s.add a d):=Fo.ask s _ (f:=fun z=>z)
theorem fo_make (s:Rn) (w:List Int):Fo s (Pr.make w) (s.make w):=Fo.ask s _ (f:=fun z=>z)
theorem Fo.note {s:Rn} {p:Pr α} {a:α} {r r':Rn} (h:Fo s p (a,r)) (e:Eqv r' r):Fo s p (a,r'):=by
 have el:r'.left=r.left:=by unfold Rn.left;rw [e.tape,e.pos,e.off]
 refine ⟨by show r'.left<=_;rw [el];exact h.left,fun q=>?_,fun q=>?_⟩
 ·obtain ⟨a1,a2⟩:=h.off q;exact ⟨e.off.trans a1,e.nx.trans a2⟩
 ·rcases h.on q with ⟨a,r0,e1,e2,e3,e4⟩ | ⟨r0,e1,e2,e3,e4⟩
  ·exact .inl ⟨a,r0,e1,e2,⟨e.tape.trans e3.tape,e.pos.trans e3.pos,e.off.trans e3.off,e.nx.trans e3.nx⟩,e4⟩
  ·exact .inr ⟨r0,e1,e2,e.off.trans e3,e.nx.trans e4⟩
theorem fo_peek (s:Rn) (a:Int):Fo s (Pr.peek a) (s.peek a):=by
 unfold Pr.peek Rn.peek;have h:=fo_read s a;generalize s.read a=x at h ⊢;obtain ⟨w,r⟩:=x;refine Fo.bind h ?_;dsimp only
 split
 ·have h2:=fo_read r (ad w+4);generalize r.read (ad w+4)=y at h2 ⊢;obtain ⟨o,r2⟩:=y;refine Fo.bind h2 ?_;dsimp only
  split
  ·exact fo_read _ _
  ·exact fo_read _ _
 ·exact Fo.ret _ _
theorem fo_help (s:Rn) (a:Int):Fo s (Pr.help a) ((),s.help a):=by
 unfold Pr.help Rn.help;have h:=fo_read s a;generalize s.read a=x at h ⊢;obtain ⟨p,r⟩:=x;refine Fo.bind h ?_;dsimp only;have h:=fo_read r p;generalize r.read p=x at h ⊢;obtain ⟨gd,r1⟩:=x;refine Fo.bind h ?_;dsimp only;have h:=fo_cas r1 (a+4) 0 (if gd=0 then 1 else 2);generalize r1.cas (a+4) 0 (if gd=0 then 1 else 2)=x at h ⊢;obtain ⟨c,r2⟩:=x;refine Fo.bind h ?_;dsimp only;have h:=fo_read r2 (a+4);generalize r2.read (a+4)=x at h ⊢;obtain ⟨o,r3⟩:=x;refine Fo.bind h ?_;dsimp only;have h:=fo_read r3 (a+1);generalize r3.read (a+1)=x at h ⊢;obtain ⟨tt,r4⟩:=x;refine Fo.bind h ?_;dsimp only;have h:Fo r4 (if o=1 then Pr.read (a+3) else Pr.read (a+2)) (if o=1 then r4.read (a+3) else r4.read (a+2)):=by
  split
  ·exact fo_read _ _
  ·exact fo_read _ _
 generalize (if o=1 then r4.read (a+3) else r4.read (a+2))=x at h ⊢;obtain ⟨v,r5⟩:=x;refine Fo.bind h ?_;have h:=fo_cas r5 tt (Rf.ofZ 5 a) v;generalize r5.cas tt (Rf.ofZ 5 a) v=x at h ⊢;obtain ⟨c,r6⟩:=x;exact Fo.bind h (Fo.ret _ _)
theorem fo_slotL:∀ (n:Nat) (s:Rn) (a z:Int),(s.off=false->s.left < n)->Fo s (Pr.slotL n a z) (s.slotL a z)
 | 0,s,a,z,h=>by
  by_cases ho:s.off=true
  ·rw [Rn.slotL_stop (fun q=>by rw [ho] at q;cases q.1)];exact Fo.dead ho _ _
  ·exact absurd (h (by simpa using ho)) (by omega)
 | n+1,s,a,z,hn=>by
  unfold Pr.slotL
  by_cases h:s.off=false/\kd z=5
  ·rw [if_pos h.2];have lt:=Rn.help_lt (s:=s) (ad z) h.1;have h1:=fo_help s (ad z);obtain ⟨y,t,e⟩:∃ y t,(s.help (ad z)).read a=(y,t):=⟨_,_,rfl⟩;rw [Rn.slotL_go h.1 h.2 e];have h2:=fo_read (s.help (ad z)) a;rw [e] at h2;refine Fo.bind h1 (Fo.bind h2 (fo_slotL n t a y ?_))
   have:=h2.left
   have e2:t.left<=(s.help (ad z)).left:=this
   have:=hn h.1
   exact fun _=>by omega
  ·rw [Rn.slotL_stop h]
   by_cases ho:s.off=true
   ·exact Fo.dead ho _ _
   ·rw [if_neg (fun k=>h ⟨by simpa using ho,k⟩)];exact Fo.ret _ _
theorem fo_slot (N:Nat) (s:Rn) (a:Int) (h:s.off=false->s.left < N):Fo s (Pr.slot N a) (s.slot a):=by
 unfold Pr.slot Rn.slot;have h1:=fo_read s a;have hl:=h1.left;generalize s.read a=x at h1 hl ⊢;obtain ⟨w,r⟩:=x;exact Fo.bind h1 (fo_slotL N r a w (fun e=>by
  have:r.left<=s.left:=hl
  cases so:s.off with
  | true=>have q:=(h1.off so).1;rw [e] at q;cases q
  | false=>have:=h so;omega))
end Sd
namespace Sd
theorem fo_dcss (s:Rn) (gd p o x:Int):Fo s (Pr.dcss gd p o x) (s.dcss gd p o x):=by
 unfold Pr.dcss Rn.dcss;have h:=fo_make s [gd,p,o,x,0];generalize s.make [gd,p,o,x,0]=y at h ⊢;obtain ⟨A,r⟩:=y;dsimp only
 split
 ·refine Fo.bind (Fo.note h (r':={ r with rc:=A }) ⟨rfl,rfl,rfl,rfl⟩) ?_;rename_i e;rw [if_pos e];have h:=fo_cas ({ r with rc:=A }:Rn) p o (Rf.ofZ 5 A);generalize ({ r with rc:=A }:Rn).cas p o (Rf.ofZ 5 A)=y at h ⊢;obtain ⟨c,r1⟩:=y;refine Fo.bind h ?_;dsimp only
  split
  ·have h:=fo_read r1 gd;generalize r1.read gd=y at h ⊢;obtain ⟨q,r2⟩:=y;refine Fo.bind h ?_;dsimp only;have h:=fo_cas r2 (wrap64 (A+4)) 0 (if q=0 then 1 else 2);generalize r2.cas (wrap64 (A+4)) 0 (if q=0 then 1 else 2)=y at h ⊢;obtain ⟨c2,r3⟩:=y;refine Fo.bind h ?_;dsimp only;have h:=fo_read r3 (wrap64 (A+4));generalize r3.read (wrap64 (A+4))=y at h ⊢;obtain ⟨u,r4⟩:=y;refine Fo.bind h ?_;dsimp only
   split
   ·have h:=fo_cas r4 p (Rf.ofZ 5 A) x;generalize r4.cas p (Rf.ofZ 5 A) x=y at h ⊢;obtain ⟨c3,r5⟩:=y;exact Fo.bind h (Fo.ret _ _)
   ·have h:=fo_cas r4 p (Rf.ofZ 5 A) o;generalize r4.cas p (Rf.ofZ 5 A) o=y at h ⊢;obtain ⟨c3,r5⟩:=y;exact Fo.bind h (Fo.ret _ _)
  ·exact Fo.ret _ _
 ·refine Fo.bind h ?_;rename_i e;rw [if_neg e];exact Fo.ret _ _
theorem fo_down (n k:Int):∀ (i:Nat) (s:Rn),Fo s (Pr.downT n k i) (Rn.downF n k i s)
 | 0,s=>Fo.ret _ _
 | i+1,s=>by
  unfold Pr.downT Rn.downF
  by_cases ho:s.off=true
  ·rw [if_neg (c:=1<=i/\s.off=false) (by rintro ⟨_,h⟩;rw [ho] at h;cases h)];exact Fo.dead ho _ _
  ·have hf:s.off=false:=by simpa using ho
   by_cases h1:1<=i
   ·rw [if_pos h1,if_pos ⟨h1,hf⟩];have h:=fo_read s (keyZ n ((i:Int)+1));generalize s.read (keyZ n ((i:Int)+1))=y at h ⊢;obtain ⟨q,r⟩:=y;refine Fo.bind h ?_;dsimp only
    split
    ·exact Fo.ret _ _
    ·exact fo_down n k i r
   ·rw [if_neg h1,if_neg (fun q=>h1 q.1)];exact Fo.ret _ _
theorem fo_up (n k m:Int):∀ (c:Nat) (i:Int) (s:Rn),Fo s (Pr.upT n k m c i) (Rn.upF n k m c i s)
 | 0,_,s=>Fo.ret _ _
 | c+1,i,s=>by
  unfold Pr.upT Rn.upF
  by_cases ho:s.off=true
  ·rw [if_neg (by rw [ho];decide)];exact Fo.dead ho _ _
  ·rw [if_pos (by simpa using ho)];have h:=fo_read s (keyZ n i);generalize s.read (keyZ n i)=y at h ⊢;obtain ⟨q,r⟩:=y;refine Fo.bind h ?_;dsimp only
   split
   ·exact Fo.ret _ _
   ·exact fo_up n k m c (i+1) r
theorem fo_route (s:Rn) (n k:Int):Fo s (Pr.route n k) (s.route n k):=by
 unfold Pr.route Rn.route;have h:=fo_read s n;generalize s.read n=y at h ⊢;obtain ⟨d,r⟩:=y;refine Fo.bind h ?_;dsimp only;generalize wrap64 (d - 1)=m
 split
 ·exact Fo.ret _ _
 have h:=fo_read r (keyZ n 1);generalize r.read (keyZ n 1)=y at h ⊢;obtain ⟨f,r1⟩:=y;refine Fo.bind h ?_;dsimp only
 split
 ·exact Fo.ret _ _
 split
 ·exact Fo.ret _ _
 have h:=fo_read r1 (keyZ n m);generalize r1.read (keyZ n m)=y at h ⊢;obtain ⟨l,r2⟩:=y;refine Fo.bind h ?_;dsimp only
 split
 ·exact Fo.ret _ _
 generalize Pb.guessZ f l k m=j;have up:∀ r3:Rn,Fo r3 ((Pr.upT n k m (m - (j+1)).toNat (j+1)).bind fun c=>Pr.ret (d,c)) ((d,(Rn.upF n k m (m - (j+1)).toNat (j+1) r3).1),(Rn.upF n k m (m - (j+1)).toNat (j+1) r3).2):=fun r3=>by
  have h:=fo_up n k m (m - (j+1)).toNat (j+1) r3;generalize Rn.upF n k m (m - (j+1)).toNat (j+1) r3=y at h ⊢;obtain ⟨c,r4⟩:=y;exact Fo.bind h (Fo.ret _ _)
 by_cases ho:r2.off=true
 ·rw [if_pos (c:=r2.off=true∨j < 1) (.inl ho)];exact Fo.dead ho _ _
 by_cases hj:j < 1
 ·rw [if_pos hj,if_pos (c:=r2.off=true∨j < 1) (.inr hj)];exact Fo.ret _ _
 rw [if_neg hj,if_neg (c:=r2.off=true∨j < 1) (fun q=>q.elim ho hj)]
 by_cases hj1:1 < j
 ·rw [if_pos hj1,if_pos hj1];have h:=fo_read r2 (keyZ n j);generalize r2.read (keyZ n j)=y at h ⊢;obtain ⟨q,r3⟩:=y;refine Fo.bind h ?_;dsimp only
  split
  ·have h:=fo_down n k (j - 1).toNat r3;generalize Rn.downF n k (j - 1).toNat r3=y at h ⊢;obtain ⟨c,r4⟩:=y;exact Fo.bind h (Fo.ret _ _)
  ·exact up r3
 ·rw [if_neg hj1,if_neg hj1];exact up r2
theorem fo_child (s:Rn) (n k:Int):Fo s (Pr.child n k) (s.child n k):=by
 unfold Pr.child Rn.child;have h:=fo_route s n k;generalize s.route n k=y at h ⊢;obtain ⟨p,r⟩:=y;exact Fo.bind h (Fo.ret _ _)
theorem fo_markK (N f B:Nat) (g:Rn->Int->Int × Rn) (hg:∀ s n,(s.off=false->s.left < B)->Fo s (Pr.mark N f n) (g s n)) (n d:Int):∀ (c:Nat) (i y:Int) (s:Rn),(s.off=false->s.left < B/\s.left < N)->Fo s (Pr.markK (Pr.mark N f) N n d c i y) (Rn.markK g n d c i y s)
 | 0,_,_,s,_=>Fo.ret _ _
 | c+1,i,y,s,hl=>by
  unfold Pr.markK Rn.markK
  by_cases ho:s.off=true
  ·rw [if_pos ho];exact Fo.dead ho _ _
  ·rw [if_neg ho];obtain ⟨l1,l2⟩:=hl (by simpa using ho);have h:=fo_slot N s (childZ n d i) (fun _=>l2);have hle:=h.left;generalize s.slot (childZ n d i)=x at h hle ⊢;obtain ⟨w,r⟩:=x;refine Fo.bind h ?_;dsimp only at hle ⊢
   split
   ·exact fo_markK N f B g hg n d c _ _ r (fun _=>⟨by omega,by omega⟩)
   split
   ·have h:=hg r (ad w) (fun _=>by omega);have hle2:=h.left;generalize g r (ad w)=x at h hle2 ⊢;obtain ⟨z,r2⟩:=x;exact Fo.bind h (fo_markK N f B g hg n d c _ _ r2 (fun _=>⟨by dsimp only at hle2;omega,by dsimp only at hle2;omega⟩))
   split
   ·have h:=fo_read r (ad w);have hle1:=h.left;generalize r.read (ad w)=x at h hle1 ⊢;obtain ⟨q,r1⟩:=x;refine Fo.bind h ?_;dsimp only at hle1 ⊢;have h:=hg r1 (ad q) (fun _=>by omega);have hle2:=h.left;generalize g r1 (ad q)=x at h hle2 ⊢;obtain ⟨z,r2⟩:=x;exact Fo.bind h (fo_markK N f B g hg n d c _ _ r2 (fun _=>⟨by dsimp only at hle2;omega,by dsimp only at hle2;omega⟩))
   ·exact fo_markK N f B g hg n d c _ _ r (fun _=>⟨by omega,by omega⟩)
theorem read_lt {s r:Rn} {a w:Int} (e:s.read a=(w,r)) (h:s.off=false):r.left < s.left:=by
 have:=Rn.ask_left (s:=s) ⟨1,a,0,0,[]⟩ h
 have e2:(s.ask ⟨1,a,0,0,[]⟩).2=r:=congrArg Prod.snd e
 rwa [e2] at this
theorem fo_mark (N:Nat):∀ (f f':Nat) (s:Rn) (n:Int),(s.off=false->s.left < f/\s.left < f'/\s.left < N)->Fo s (Pr.mark N f n) (Rn.markF f' s n)
 | f,0,s,n,h=>by
  by_cases ho:s.off=true
  ·exact Fo.dead ho _ _
  ·exact absurd (h (by simpa using ho)).2.1 (by omega)
 | 0,f' + 1,s,n,h=>by
  by_cases ho:s.off=true
  ·obtain ⟨z,e⟩:∃ z,Rn.markF (f' + 1) s n=(z,s):=by
    have hr:∀ a,s.read a=(0,s):=fun a=>Rn.ask_off _ ho;have hw:∀ a x,s.write a x=s:=fun a x=>congrArg Prod.snd (Rn.ask_off ⟨2,a,x,0,[]⟩ ho);exact ⟨_,Rn.markF_go (hr _) (hw _ _) (hr _) (m:=0) (s4:=s) rfl (hw _ _)⟩
   rw [e];exact Fo.dead ho _ _
  ·exact absurd (h (by simpa using ho)).1 (by omega)
 | f+1,f' + 1,s,n,hl=>by
  unfold Pr.mark;have h:=fo_read s (wrap64 (n+4));have hle:=h.left;obtain ⟨q,r,e⟩:∃ q r,s.read (wrap64 (n+4))=(q,r):=⟨_,_,rfl⟩;rw [e] at h hle;refine Fo.bind h ?_;dsimp only at hle;have lt:r.off=false->r.left < s.left:=fun ro=>read_lt e (by
   cases so:s.off with
   | false=>rfl
   | true=>have:=(h.off so).1;rw [ro] at this;cases this)
  have so':r.off=false->s.off=false:=fun ro=>by
   cases so:s.off with
   | false=>rfl
   | true=>have:=(h.off so).1;rw [ro] at this;cases this
  split
  ·rename_i q0;subst q0;have h2:=fo_write r (wrap64 (n+2)) 1;have hle2:=h2.left;refine Fo.bind h2 ?_;dsimp only at hle2;obtain ⟨d,r3,e3⟩:∃ d r3,(r.write (wrap64 (n+2)) 1).read n=(d,r3):=⟨_,_,rfl⟩;have h3:=fo_read (r.write (wrap64 (n+2)) 1) n;rw [e3] at h3;have hle3:=h3.left;refine Fo.bind h3 ?_;dsimp only at hle3;obtain ⟨y,r4,e4⟩:∃ y r4,Rn.markK (Rn.markF f') n d d.toNat 0 0 r3=(y,r4):=⟨_,_,rfl⟩
   by_cases r3o:r3.off=true
   ·have h4:Fo r3 (Pr.markK (Pr.mark N f) N n d d.toNat 0 0) (Rn.markK (Rn.markF f') n d d.toNat 0 0 r3):=by
     have:Rn.markK (Rn.markF f') n d d.toNat 0 0 r3=(0,r3):=by
      cases d.toNat with
      | zero=>rfl
      | succ c=>unfold Rn.markK;rw [if_pos r3o]
     rw [this];exact Fo.dead r3o _ _
    rw [e4] at h4;have h5:=fo_write r4 (wrap64 (n+4)) (wrap64 (y+1));rw [Rn.markF_go e rfl e3 e4 rfl];exact Fo.bind h4 (Fo.bind h5 (Fo.ret _ _))
   ·have ro:r.off=false:=by
     cases so:r.off with
     | false=>rfl
     | true=>
      have a:=(h2.off so).1
      have:=(h3.off a).1
      exact absurd this r3o
    have b:=hl (so' ro);have b2:=lt ro;have h4:=fo_markK N f s.left (Rn.markF f') (fun s' n' hs'=>fo_mark N f f' s' n' (fun q=>by have:=hs' q;omega)) n d d.toNat 0 0 r3 (fun _=>⟨by omega,by omega⟩);rw [e4] at h4;have h5:=fo_write r4 (wrap64 (n+4)) (wrap64 (y+1));rw [Rn.markF_go e rfl e3 e4 rfl];exact Fo.bind h4 (Fo.bind h5 (Fo.ret _ _))
  ·rename_i q0;rw [Rn.markF_shut e q0];exact Fo.ret _ _
end Sd
end Go.Proofs.YtibnlaihiahjpaaGreat
