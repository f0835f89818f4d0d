/-
  What the proof of YtibnlaihiahjpaaGreatViewOrderProof goes by, part 11 of 11: contracts and plain facts; each part begins with its own sentence. No conditions beyond each theorem's own.
-/
import Derived.Test.YtibnlaihiahjpaaGreatV10
namespace Go.Proofs.YtibnlaihiahjpaaGreat
open Go.RowKit
namespace Sd
variable {m m':Mst} {g g':Gh}
def N0:Nat:=100000
def FOk (j:Nat) (p:Fp) (m:Mst) (g:Gh):Prop:=I64 p.key/\I64 p.val/\(p.done=false->p.play.2.off=true/\(p.k<=3->Safe j ((Pr.change N0 p.k p.key p.val N0).res p.tape) (fun _ _ _=>True) m g))
theorem k0G (p:Fp):p.settle.play=p.play/\p.settle.tape=p.tape/\p.settle.k=p.k/\p.settle.key=p.key/\p.settle.val=p.val:=by
 unfold Fp.settle
 split <;> exact ⟨rfl,rfl,rfl,rfl,rfl⟩
theorem h0B {p:Fp} (h:p.settle.done=false):p.play.2.off=true:=by
 cases e:p.play.2.off with
 | true=>rfl
 | false=>
  unfold Fp.settle at h;rw [if_neg (by rw [e];decide)] at h;cases h
theorem FOk.rl {j:Nat} {p:Fp} (r:Rl j m g m' g') (h:FOk j p m g):FOk j p m' g':=⟨h.1,h.2.1,fun e=>⟨(h.2.2 e).1,fun k=>((h.2.2 e).2 k).rl r⟩⟩
theorem s0U {j:Nat} {p:Fp} (hI:Inv m g) (h:FOk j p m g) (hl:p.tape.length<=50000):∃ g',Gt j m g (p.step m).2 g'/\FOk j (p.step m).1 (p.step m).2 g':=by
 unfold Fp.step
 by_cases hd:p.done=true
 ·rw [if_pos hd];exact ⟨g,Gt.same ⟨hI,Ex.refl m g⟩,h⟩
 rw [if_neg hd];obtain ⟨ik,iv,h⟩:=h;obtain ⟨ho,hs⟩:=h (by simpa using hd);obtain ⟨ps1,ps2,ps3,ps4,ps5⟩:=k0G { p with tape:=p.tape++[(m.doA p.play.2.nx).1] }
 by_cases k3:p.k<=3
 ·have hs:=hs k3;have e:p.play.2=(Rn.changeL (p.tape.length+2) p.k p.key p.val (p.tape.length+2) (Rn.start p.tape)).2:=by
   unfold Fp.play;rw [if_pos k3]
  have sl:=Rn.start_left p.tape;have fo:=p0B N0 (p.tape.length+2) p.k p.key p.val N0 (p.tape.length+2) (Rn.start p.tape) (fun _=>by unfold N0;omega) (fun _=>by omega) (fun _=>by unfold N0;omega) (fun _=>by omega);obtain ⟨q,k,e1,e2⟩:=fo.next rfl (by rw [<- e];exact ho);have e1':(Pr.change N0 p.k p.key p.val N0).res p.tape=.ask q k:=e1;rw [e1'] at hs;obtain ⟨g2,G,hs2⟩:=hs m g (Rl.refl hI);rw [<- e] at e2;rw [<- e2] at G hs2;refine ⟨g2,G,by rw [ps4];exact ik,by rw [ps5];exact iv,fun d=>⟨by rw [ps1];exact h0B d,fun _=>?_⟩⟩;rw [ps2,ps3,ps4,ps5];show Safe j ((Pr.change N0 p.k p.key p.val N0).res (p.tape++[(m.doA p.play.2.nx).1])) _ _ _;rw [res_one _ _ _ _ _ e1'];exact hs2
 ·have e:p.play=(Rn.start p.tape).queryR (p.tape.length+2) p.k p.key p.val p.b:=by
   unfold Fp.play;rw [if_neg k3]
  have rd:=u0H (p.tape.length+2) (s:=Rn.start p.tape) (fun q=>by cases q) p.k p.key p.val p.b;rw [<- e] at rd;have k1:=rd ho;have em:(m.doA p.play.2.nx).2=m.touch p.play.2.nx.a:=by unfold Mst.doA;rw [if_pos k1]
  have st:=hI.quiet (m':=(m.doA p.play.2.nx).2) (by rw [em];exact Mst.touch_xs m _) (by rw [em];exact e0L m _);refine ⟨g,Gt.same st,by rw [ps4];exact ik,by rw [ps5];exact iv,fun d=>⟨by rw [ps1];exact h0B d,fun q=>absurd (by rw [ps3] at q;exact q) k3⟩⟩
def TOk (j:Nat) (q:Tp) (m:Mst) (g:Gh):Prop:=∀ p,q.fr=some p->FOk j p m g
def WI (ix:Ixp):Prop:=∃ g,Inv ix.m g/\∀ j q,ix.ts[j]? = some q->TOk j q ix.m g
theorem t0F {ix:Ixp} {c:Nat} (h:WI ix) (hg:ix.Gd c) (hc:c<=50000) (j:Nat):WI (ix.pickZ j).2:=by
 obtain ⟨g,hI,hT⟩:=h;unfold Ixp.pickZ
 split
 ·exact ⟨g,hI,hT⟩
 rename_i q hq
 split
 ·exact ⟨g,hI,hT⟩
 rename_i p hp
 split
 ·obtain ⟨g2,G,hF⟩:=s0U hI (hT j q hq p hp) (Nat.le_trans (hg.tape j q p hq hp) hc);dsimp only;have em:(q.step p ix.m).2.2=(p.step ix.m).2:=by unfold Tp.step;split <;> rfl
  have ef:(q.step p ix.m).2.1.fr=some (p.step ix.m).1:=by unfold Tp.step;split <;> rfl
  have km:∀ (c i:Nat) (ix:Ixp),(Ixp.takesL c i ix).m=ix.m:=fun c=>by
   induction c with
   | zero=>intro i ix;rfl
   | succ c ih=>
    intro i ix;rw [Ixp.takesL,ih];unfold Ixp.takes1
    split
    ·split <;> rfl
    ·rfl
  refine ⟨g2,?_,fun i q' hq' p' hp'=>?_⟩
  ·show Inv (Ixp.takesL _ _ _).m g2;rw [km];show Inv (q.step p ix.m).2.2 g2;rw [em];exact G.inv
  ·show FOk i p' (Ixp.takesL _ _ _).m g2;rw [km];show FOk i p' (q.step p ix.m).2.2 g2;rw [em];obtain ⟨q1,h1,h2,_⟩:=Ixp.takesL_ts _ _ _ i q' hq';have h1':(ix.ts.set j (q.step p ix.m).2.1)[i]? = some q1:=h1;rw [List.getElem?_set] at h1'
   split at h1'
   ·rename_i e
    split at h1'
    ·cases h1';rw [h2,ef] at hp';cases hp';rw [<- e];exact hF
    ·cases h1'
   ·rename_i e;rw [h2] at hp';exact (hT i q1 h1' p' hp').rl (G.rl e)
 ·exact ⟨g,hI,hT⟩
theorem wi_do (j:Nat):∀ (n:Nat) {ix:Ixp} {c:Nat},WI ix->ix.Gd c->c+n<=50000->WI (Ixp.doZ j n ix)
 | 0,_,_,h,_,_=>h
 | n+1,ix,c,h,hg,hc=>by
  unfold Ixp.doZ
  split
  ·exact t0F h hg (by omega) j
  ·exact wi_do j n (t0F h hg (by omega) j) (Ixp.pickZ_gd hg j) (by omega)
theorem t0G {ix:Ixp} (h:WI ix) (j:Nat) {k key val:Int} (ik:I64 key) (iv:I64 val):WI (ix.invokeZ j k key val):=by
 obtain ⟨g,hI,hT⟩:=h;unfold Ixp.invokeZ
 split
 ·exact ⟨g,hI,hT⟩
 rename_i q hq
 split
 ·exact ⟨g,hI,hT⟩
 refine ⟨g,hI,fun i q' hq' p' hp'=>?_⟩;have hq2:(ix.ts.set j { q.begin k key val with no:=ix.inv })[i]? = some q':=hq';rw [List.getElem?_set] at hq2
 split at hq2
 ·split at hq2
  ·cases hq2;have e:(some (Fp.make k key val q.bud).settle:Option Fp)=some p':=hp';cases e;obtain ⟨ps1,ps2,ps3,ps4,ps5⟩:=k0G (Fp.make k key val q.bud);refine ⟨by rw [ps4];exact ik,by rw [ps5];exact iv,fun d=>⟨by rw [ps1];exact h0B d,fun _=>?_⟩⟩;rw [ps2,ps3,ps4,ps5];show Safe i ((Pr.change N0 k key val N0).res []) _ _ _;rw [i0L];exact Safe.mono (fun _ _ _ _=>trivial) (l0E N0 (by unfold N0;omega) ik iv N0 ix.m g hI)
  ·cases hq2
 ·exact hT i q' hq2 p' hp'
theorem wi_act {ix:Ixp} {c:Nat} (h:WI ix) (hg:ix.Gd c) (hc:c+24<=50000) (z:Int):WI (ix.actZ z):=by
 unfold Ixp.actZ;dsimp only
 split
 ·exact wi_do _ _ h hg (by omega)
 ·have b:=o0M ((z.tdiv 3).tdiv 3);exact t0G h _ (f0C (by omega) (by omega)) (f0C (by omega) (by omega))
theorem t0H:∀ (l:List Int) {ix:Ixp} {c:Nat},WI ix->ix.Gd c->c+24 * l.length<=50000->WI (l.foldl Ixp.actZ ix)
 | [],_,_,h,_,_=>h
 | z :: l,ix,c,h,hg,hc=>by
  rw [List.length_cons] at hc;exact t0H l (wi_act h hg (by omega) z) (Ixp.actZ_gd hg z) (by omega)
theorem wi_world (cells:Int) (keys l:List Int) (h:WI (e0J cells keys)):WI (f0H cells keys l):=by
 have hl:(l.take 70).length<=70:=by rw [List.length_take];omega
 exact t0H (l.take 70) h (n0T cells keys).1 (by omega)
end Sd
namespace Sd
variable {m m':Mst} {g g':Gh}
def g0:Gh where
 ro:=fun c=>if c=1 then some (.fix 1) else if c=2 then some (.fix 0) else if c=3 then some .shut else if c=4 then some .chg else if c=5 then some .sum else if c=6 then some .slot else if c=7 then some (.fix 0) else none
 rb:=fun c=>if 1<=c/\c<=6 then 1 else 7
 kn:=fun c=>if c=7 then 1 else 3
 hm:=fun b=>if b=7 then some 6 else none
 ow:=fun _=>0
 lt:=fun _=>false
 pl:=fun _=>false
theorem j0P:a0E g0 1 1 0:=by
 refine ⟨rfl,⟨by omega,fun j h0 h1=>?_⟩,by omega,rfl,rfl,rfl,rfl,rfl,fun i h1 h2=>absurd h2 (by omega),fun i h1 h2=>?_⟩
 ·have:j=0∨j=1∨j=2∨j=3∨j=4∨j=5:=by omega
  rcases this with rfl | rfl | rfl | rfl | rfl | rfl <;> exact ⟨rfl,by decide⟩
 ·have:i=0:=by omega
  subst this;rfl
theorem g0_one {a d n:Int} (h:a0E g0 a d n):a=1/\d=1:=by
 have e:=h.rb (j:=0) (by omega) (by have:=h.pos;omega);rw [Int.add_zero] at e;have e2:(if 1<=a/\a<=6 then (1:Int) else 7)=a:=e;have k:(if a=7 then (1:Int) else 3)=3:=h.kn;have a1:a=1:=by
  split at e2
  ·omega
  ·rw [if_pos e2.symm] at k;omega
 subst a1;exact ⟨rfl,(h.deg j0P).1⟩
theorem w0H {s:Mst} (h1:7<=s.size) (h2:s.size<=16384):Inv (d0V s) g0:=by
 have lk:∀ c,(d0V s).look c=if c=1 then 1 else if c=6 then 57 else 0:=fun c=>by
  by_cases hu:1<=c/\c<=7
  ·have:c=1∨c=2∨c=3∨c=4∨c=5∨c=6∨c=7:=by omega
   rcases this with rfl | rfl | rfl | rfl | rfl | rfl | rfl <;> rfl
  ·rw [Mst.look_none (by
    cases e:(d0V s).used c with
    | false=>rfl
    | true=>have:=Mst.used_iff.1 e;unfold d0V at this;simp at this;omega),if_neg (by omega),if_neg (by omega)]
 have top:=Iv.top j0P;refine ⟨⟨?_,by show 7<=65536;omega⟩,⟨h2,by show (7:Int)<=s.size;omega⟩,fun c=>?_,fun c=>?_,⟨j0P,by rw [lk];decide⟩,fun a lo hi d n _ hI i h0 h1=>?_,fun a d n i hI h0 h1=>?_,fun b c e=>?_,rfl,fun b c e=>?_,fun b c e=>?_,(fun D e=>by cases e),(fun D e=>by cases e)⟩
 ·intro z hz;unfold d0V at hz;simp only [List.mem_cons,List.not_mem_nil,or_false] at hz;rcases hz with rfl | rfl | rfl | rfl | rfl | rfl | rfl <;> exact f0C (by omega) (by omega)
 ·rw [Mst.used_iff];show _↔1<=c/\c<=7
  by_cases hu:1<=c/\c<=7
  ·have:c=1∨c=2∨c=3∨c=4∨c=5∨c=6∨c=7:=by omega
   refine ⟨fun _=>hu,fun _=>?_⟩;rcases this with rfl | rfl | rfl | rfl | rfl | rfl | rfl <;> decide
  ·refine ⟨fun e=>absurd ?_ e,fun e=>absurd e hu⟩;show (if c=1 then _ else _)=none;rw [if_neg (by omega),if_neg (by omega),if_neg (by omega),if_neg (by omega),if_neg (by omega),if_neg (by omega),if_neg (by omega)]
 ·by_cases hu:1<=c/\c<=7
  ·have:c=1∨c=2∨c=3∨c=4∨c=5∨c=6∨c=7:=by omega
   rcases this with rfl | rfl | rfl | rfl | rfl | rfl | rfl
   ·exact COk.fix rfl (by rw [lk];rfl)
   ·exact COk.fix rfl (by rw [lk];rfl)
   ·exact COk.zero (.inl rfl) (by rw [lk];rfl)
   ·exact COk.free (.inl rfl)
   ·exact COk.zero (.inr (.inl rfl)) (by rw [lk];rfl)
   ·refine COk.child rfl ?_;rw [lk];exact .inl ⟨by decide,⟨by decide,⟨by decide,fun j h0 h1=>by
     have:j=0:=by omega
     subst this;exact ⟨rfl,by decide⟩⟩,rfl⟩,by decide⟩
   ·exact COk.fix rfl (by rw [lk];rfl)
  ·have:g0.ro c=none:=by
    show (if c=1 then _ else _)=none;rw [if_neg (by omega),if_neg (by omega),if_neg (by omega),if_neg (by omega),if_neg (by omega),if_neg (by omega),if_neg (by omega)]
   unfold COk;rw [this];trivial
 ·have:=(g0_one hI).2
  omega
 ·have:=(g0_one hI).2
  omega
 ·have e':(if b=7 then some (6:Int) else none)=some c:=e
  split at e'
  ·rename_i eb;cases e';exact ⟨1,1,0,0,⟨j0P,by omega,by omega,by omega⟩,.inl ⟨_,_,top⟩⟩
  ·cases e'
 ·have e':(if b=7 then some (6:Int) else none)=some c:=e
  split at e'
  ·rename_i eb;subst eb;decide
  ·cases e'
 ·have e':(if b=7 then some (6:Int) else none)=some c:=e
  split at e'
  ·rename_i eb;subst eb;decide
  ·cases e'
def Pr.exec {α:Type}:Pr α->Mst->Option (α × Mst)
 | .ret a,m=>some (a,m)
 | .ask q k,m=>(k (m.doA q).1).exec (m.doA q).2
 | .stop,_=>none
theorem h0W {α β:Type} (p:Pr α) (f:α->Pr β):∀ m:Mst,(p.bind f).exec m=(p.exec m).bind fun x=>(f x.1).exec x.2:=by
 induction p with
 | ret a=>intro m;rfl
 | ask q k ih=>intro m;exact ih _ _
 | stop=>intro m;rfl
theorem Safe.exec {α:Type} {t:Nat} {p:Pr α} {Q:α->Mst->Gh->Prop}:∀ {m:Mst} {g:Gh} {a:α} {m':Mst},Safe t p Q m g->Inv m g->p.exec m=some (a,m')->∃ g',Q a m' g':=by
 induction p with
 | ret a=>intro m g a' m' h _ e;cases e;exact ⟨g,h⟩
 | ask q k ih=>
  intro m g a' m' h hI e;obtain ⟨g2,G,h2⟩:=h m g (Rl.refl hI);exact ih _ h2 G.inv e
 | stop=>intro m g a' m' _ _ e;cases e
theorem n0N (k:Int) (ws:List Int) (m:Mst) (hf:m.fits ws.length=true):(Pr.recM k ws).exec m=some (((recS m k ws).1,true),(recS m k ws).2):=by
 unfold Pr.recM;rw [h0W];show (some (m.next ws,m.make ws)).bind _=_;have e:m.next ws=(m.xs.length:Int)+1:=by unfold Mst.next;rw [if_pos hf]
 show some ((Rf.ofZ k (m.next ws),decide (0 < m.next ws)),m.make ws)=some ((Rf.ofZ k (m.next ws),true),m.make ws);rw [decide_eq_true (by rw [e];omega)]
theorem g0D {m:Mst} {ws:List Int} (hf:m.fits ws.length=true):(m.make ws).xs.length=m.xs.length+ws.length/\(m.make ws).size=m.size:=by
 unfold Mst.make;rw [if_pos hf];exact ⟨by simp,rfl⟩
theorem q0U {m:Mst} {n:Nat} (h0:0 < n) (h:(m.xs.length:Int)+n<=m.size):m.fits n=true:=by
 unfold Mst.fits;simp only [Bool.and_eq_true,decide_eq_true_eq];exact ⟨h0,h⟩
def ExC (f:Nat):Prop:=∀ (ps:Ps) (m:Mst),ps.length < f->ps.length<=16384->(m.xs.length:Int)+Pt.celZ ps.length<=m.size->
 (Pr.grow f ps).exec m=some (((layF f m ps).1,true),(layF f m ps).2)/\((layF f m ps).2.xs.length:Int)=m.xs.length+Pt.celZ ps.length/\(layF f m ps).2.size=m.size
theorem p0E (f:Nat) (ih:ExC f) {ps:Ps} (hp:0 < Pt.degZ ps.length) (hl:ps.length < f+1) (m:Mst) (hr:(m.xs.length:Int)+Pt.celZ ps.length<=m.size):∀ i:Nat,(i:Int)<=Pt.degZ ps.length->
  (Pr.growK (Pr.grow f) ps i).exec m=some ((true,(kidF (layF f) ps m i).1),(kidF (layF f) ps m i).2)/\((kidF (layF f) ps m i).2.xs.length:Int)=m.xs.length+Pt.csZ ps.length i/\(kidF (layF f) ps m i).2.size=m.size
 | 0,_=>⟨rfl,by rw [show ((0:Nat):Int)=0 from rfl,Pt.cs_zero hp];show (m.xs.length:Int)=m.xs.length+0;omega,rfl⟩
 | i+1,hi=>by
  obtain ⟨e1,e2,e3⟩:=p0E f ih hp hl m hr i (by omega);have pl:=k0K (ps:=ps) (i:=(i:Int)) (by omega) (by omega);have pb:=e0Z (n:=(ps.length:Int)) (i:=(i:Int)) (by omega) (by omega);have sb:=Pt.size_bound (n:=(ps.length:Int)) (i:=(i:Int)) (by omega) (by omega);have cs:=Pt.cs_step (n:=(ps.length:Int)) (i:=(i:Int)) (by omega) (by omega);have dp:=Pt.deg_pos hp;have ce:=Pt.cs_end hp;have mono:Pt.csZ ps.length ((i:Int)+1)<=Pt.csZ ps.length (Pt.degZ ps.length):=by
   have:∀ k:Nat,(i:Int)+1+k<=Pt.degZ ps.length->Pt.csZ ps.length ((i:Int)+1)<=Pt.csZ ps.length ((i:Int)+1+k):=by
    intro k
    induction k with
    | zero=>intro _;simp
    | succ k ihk=>
     intro hk;have a1:=ihk (by omega);have a2:=Pt.cs_step (n:=(ps.length:Int)) (i:=(i:Int)+1+k) (by omega) (by omega);have a3:=Pt.cel_nat (Pt.sizeZ ps.length ((i:Int)+1+k));rw [show (i:Int)+1+((k+1:Nat):Int)=(i:Int)+1+k+1 by omega,a2];omega
   have q:=this (Pt.degZ ps.length - (i+1)).toNat (by omega)
   rwa [show (i:Int)+1+((Pt.degZ ps.length - (i+1)).toNat:Int)=Pt.degZ ps.length by omega] at q
  have dn:=Pt.deg_nat (ps.length:Int);obtain ⟨h1,h2,h3⟩:=ih (a0Z ps i) (kidF (layF f) ps m i).2 (by omega) (by omega) (by rw [e2,e3,pl];omega);unfold Pr.growK;rw [h0W,e1];show (if true=false then _ else _:Pr (Bool × List Int)).exec _=_/\_;rw [if_neg (by decide),h0W,h1];refine ⟨rfl,?_,?_⟩
  ·show ((layF f (kidF (layF f) ps m i).2 (a0Z ps i)).2.xs.length:Int)=_;rw [h2,e2,pl,show (((i+1:Nat):Int))=(i:Int)+1 by omega,cs];omega
  ·show (layF f (kidF (layF f) ps m i).2 (a0Z ps i)).2.size=_;rw [h3,e3]
theorem p0F:∀ f,ExC f
 | 0=>fun _ _ h=>absurd h (by omega)
 | f+1=>fun ps m hl hm hr=>by
  have ih:=p0F f;unfold Pr.grow layF
  by_cases h0:ps.length=0
  ·rw [if_pos h0,if_pos h0];have c:=Pt.cel_few (n:=(ps.length:Int)) (by omega) (by omega);have hf:m.fits [(0:Int)].length=true:=q0U (by simp) (by simp;omega);refine ⟨n0N 1 [0] m hf,?_,?_⟩
   ·show ((m.make [0]).xs.length:Int)=_;rw [(g0D hf).1];simp;omega
   ·exact (g0D hf).2
  rw [if_neg h0,if_neg h0]
  by_cases h1:ps.length=1
  ·rw [if_pos h1,if_pos h1];have c:=Pt.cel_few (n:=(ps.length:Int)) (by omega) (by omega);have hf:m.fits [(ps.headD (0,0)).1,(ps.headD (0,0)).2].length=true:=q0U (by simp) (by simp;omega);refine ⟨n0N 2 _ m hf,?_,?_⟩
   ·show ((m.make _).xs.length:Int)=_;rw [(g0D hf).1];simp;omega
   ·exact (g0D hf).2
  rw [if_neg h1,if_neg h1];have db:=Pt.deg_bound (n:=(ps.length:Int)) (by omega) (by omega);have hp:0 < Pt.degZ ps.length:=by omega
  obtain ⟨e1,e2,e3⟩:=p0E f ih hp hl m hr (Pt.degZ ps.length).toNat (by omega);rw [show (((Pt.degZ ps.length).toNat:Nat):Int)=Pt.degZ ps.length by omega] at e2;have ce:=Pt.cs_end hp;rw [h0W,e1];generalize hk:kidF (layF f) ps m (Pt.degZ ps.length).toNat=K at *;have hK:K.1.length=(Pt.degZ ps.length).toNat:=by rw [<- hk];exact h0Q _ _ _ _
  have li:(a0S ps.length (lowL ps (Pt.degZ ps.length).toNat) K.1).length=2 * (Pt.degZ ps.length).toNat+4:=by
   rw [f0B,g0Y,hK];omega
  have hf:K.2.fits (a0S ps.length (lowL ps (Pt.degZ ps.length).toNat) K.1).length=true:=q0U (by omega) (by rw [li,e2,e3];omega);show (if true=true then _ else _:Pr (Int × Bool)).exec K.2=_/\_;rw [if_pos rfl];refine ⟨n0N 3 _ K.2 hf,?_,?_⟩
  ·show ((K.2.make _).xs.length:Int)=_;rw [(g0D hf).1,li,Int.natCast_add,e2];omega
  ·show (K.2.make _).size=_;rw [(g0D hf).2,e3]
theorem load_inv {m:Mst} {ps:Ps} (h:Inv m g) (hu:Up ps) (hi:∀ p ∈ ps,I64 p.1/\I64 p.2) (hb:(c0B m ps).1.2=true):∃ g',Inv ((c0B m ps).2.write 6 (c0B m ps).1.1) g':=by
 unfold c0B at hb ⊢
 split at hb
 ·rename_i hc;rw [if_pos hc];have hl:ps.length<=16384:=by
   have q:=hc.1;unfold ascB at q;exact (of_decide_eq_true q).1
  obtain ⟨e1,_,_⟩:=p0F (ps.length+1) ps m (by omega) hl (by omega);obtain ⟨g1,hG⟩:=Safe.exec (e0R 0 (ps.length+1) m g ps h hu hi hl) h e1;obtain ⟨pv,_,iw⟩:=hG.ok rfl;have hI:=hG.rl.inv;have ht:=hI.top;have hs:Slot g1 6 1 1 0 0:=⟨ht.1,by omega,by omega,by omega⟩;obtain ⟨g2,G,ok⟩:=j0L hI pv hs (Iv.top ht.1) (fun p hp=>by
   have:=(hi p hp).1
   unfold gl gu;rw [if_pos rfl,if_neg (by omega)];exact this)
  have hs2:=G.ex.sl hs;have hv2:=G.ex.iv (Iv.top ht.1);have u6:(layF (ps.length+1) m ps).2.used 6=true:=(G.inv.used 6).1 (by rw [hs2.ro];exact (fun e=>by cases e));have hp:=c0H G.inv.ok u6 (x:=(layF (ps.length+1) m ps).1) iw;have st:=h0J G.inv hs2 hv2 ok.ne.1 (fun w hz=>by
   exfalso;obtain ⟨a,d,n,i,hs',q,_⟩:=hz;obtain ⟨rfl,_⟩:=hs'.fn hs2;have c:=G.inv.cell (1+2);unfold COk at c;rw [hs'.1.c2,hs'.1.rb (j:=2) (by omega) (by have:=hs'.1.pos;omega)] at c;rcases c with c | ⟨_,c,_⟩
   ·exact q c
   ·exact c rfl) (fun e=>by omega) hp (fun hE=>.inl (hE.okW (fun _ _ e=>hE.back ⟨_,_,hs2.siv hv2⟩ e) ok))
  exact ⟨g2,st.1⟩
 ·cases hb
theorem t0E (cells:Int) (keys:List Int):WI (e0J cells keys):=by
 have hn:150<=150+cells % 650/\150+cells % 650<=800:=by omega
 have hB:Inv (d0V (Mst.new (150+cells % 650))) g0:=w0H (by show 7<=150+cells % 650;omega) (by show 150+cells % 650<=16384;omega);have idle:∀ (j:Nat) (q:Tp),(List.replicate 3 (Tp.idle 2))[j]? = some q->q.fr=none:=fun j q e=>by
  have:=(List.mem_replicate.1 (List.mem_of_getElem? e)).2
  rw [this];rfl
 have wi:∀ (ix:Ixp) (g:Gh),Inv ix.m g->ix.ts=List.replicate 3 (Tp.idle 2)->WI ix:=fun ix g h e=>⟨g,h,fun j q hq p hp=>by
  rw [e] at hq;rw [idle j q hq] at hp;cases hp⟩
 unfold e0J Ixp.loadZ
 split
 ·exact wi _ g0 hB rfl
 split
 ·exact wi _ g0 hB rfl
 split
 ·exact wi _ g0 hB rfl
 rename_i ha _;have hu:Up (Mp.pairsP (keys.take 20)):=by
  have q:ascB (Mp.pairsP (keys.take 20))=true:=by
   cases e:ascB (Mp.pairsP (keys.take 20)) with
   | true=>rfl
   | false=>exact absurd e ha
  unfold ascB at q;have h1:=(of_decide_eq_true q).2;rw [List.pairwise_map] at h1;exact h1
 have hi:=Mp.pairsP_i64 (keys.take 20)
 split
 ·refine wi _ g0 ?_ rfl;rename_i hb;show Inv (c0B _ _).2 g0
  have:(c0B (d0V (Mst.new (150+cells % 650))) (Mp.pairsP (keys.take 20))).2=d0V (Mst.new (150+cells % 650)):=by
   have hb':(c0B (d0V (Mst.new (150+cells % 650))) (Mp.pairsP (keys.take 20))).1.2=false:=hb;unfold c0B at hb' ⊢
   split
   ·rename_i hc;rw [if_pos hc] at hb';cases hb'
   ·rfl
  show Inv (c0B (d0V (Mst.new (150+cells % 650))) (Mp.pairsP (keys.take 20))).2 g0;rw [this];exact hB
 ·rename_i hb;obtain ⟨g',h'⟩:=load_inv hB hu hi (by
   cases e:(c0B (d0V (Mst.new (150+cells % 650))) (Mp.pairsP (keys.take 20))).1.2 with
   | true=>rfl
   | false=>exact absurd e hb)
  exact wi _ g' h' rfl
theorem world_sound (cells:Int) (keys l:List Int):b0A (f0H cells keys l).m=true:=by
 obtain ⟨g,h,_⟩:=wi_world cells keys l (t0E cells keys);exact h.sound
end Sd
section
open Go.Shelf
attribute [local go_sem] Oper.semAt_some
def CntO (n:Nat):Inv (Int × Int):=fun O pre A=>(∀ k,O k↔k=n)/\Boxed A n 3 (.int .i64 (pre.length:Int))
theorem CntO.good (n:Nat):Good (CntO n):=by
 constructor
 ·rintro O pre A B ⟨hO,hb⟩ ht;exact ⟨hO,ht.boxed hb (fun hn=>hn ((hO n).2 rfl))⟩
 ·rintro O pre A ⟨hO,hb⟩ k hk;rw [(hO k).1 hk];exact hb.lt
def metF (SL:List (Int × Int)) (k j:Nat):Bool:=decide (∃ p ∈ SL.take k,p.1=(j:Int))
theorem u0S (SL:List (Int × Int)) (j:Nat):metF SL 0 j=false:=by simp [metF]
theorem u0T {SL:List (Int × Int)} {k:Nat} {p:Int × Int} {q:Nat} (h:SL[k]? = some p) (e:p.1=(q:Int)) (j:Nat):(if j=q then Value.bool true else Value.bool (metF SL k j))=Value.bool (metF SL (k+1) j):=by
 have et:SL.take (k+1)=SL.take k++[p]:=by rw [List.take_add_one,h];rfl
 have:metF SL (k+1) j=(metF SL k j || decide (j=q)):=by
  rw [Bool.eq_iff_iff];unfold metF;rw [et];simp only [Bool.or_eq_true,decide_eq_true_eq,List.mem_append,List.mem_singleton];refine ⟨?_,?_⟩
  ·rintro ⟨r,hr | rfl,e2⟩
   ·exact .inl ⟨r,hr,e2⟩
   ·exact .inr (by omega)
  ·rintro (⟨r,hr,e2⟩ | rfl)
   ·exact ⟨r,.inl hr,e2⟩
   ·exact ⟨p,.inr rfl,e⟩
 rw [this]
 by_cases h:j=q <;> simp [h]
theorem metF_new {SL:List (Int × Int)} (hn:(SL.map Prod.fst).Nodup) {k:Nat} {p:Int × Int} {q:Nat} (h:SL[k]? = some p) (e:p.1=(q:Int)):metF SL k q=false:=by
 unfold metF;refine decide_eq_false ?_;rintro ⟨r,hr,e2⟩;obtain ⟨i,hi⟩:=List.mem_iff_getElem?.1 hr;rw [List.getElem?_take] at hi
 split at hi
 ·rename_i hik;have h1:(SL.map Prod.fst)[i]? = some (q:Int):=by rw [List.getElem?_map,hi];simp [e2]
  have h2:(SL.map Prod.fst)[k]? = some (q:Int):=by rw [List.getElem?_map,h];simp [e]
  have:=(List.getElem?_inj (List.getElem?_eq_some_iff.1 h1).1 hn).1 (h1.trans h2.symm)
  omega
 ·cases hi
set_option maxHeartbeats 4000000 in
set_option maxRecDepth 20000 in
theorem p0P (w:World) (cells:Int) (a1:Option Addr) (keys:List Int) (c1:Nat) (a2:Option Addr) (l:List Int) (c2:Nat) (hr1:Reads w a1 keys) (hc1:keys.length<=c1) (hm1:c1<=maxLen) (hr2:Reads w a2 l) (hc2:l.length<=c2) (hm2:c2<=maxLen) (hi:∀ z ∈ l,I64 z) :
  Calls Tryz.prog 3 #[.int .i64 cells,.slice a1 keys.length c1,.slice a2 l.length c2] w fun e w'=>e=.returned (.bool true)/\Kept w w':=by
 obtain ⟨b0,hb0⟩:∃ n,w.heap.size=n:=⟨_,rfl⟩;have HB0:=gh hb0;obtain ⟨W0,hW0⟩:∃ W0,w.alloc (.cells #[.bool false] 4)=W0:=⟨_,rfl⟩;have K0:Hid (Kept w W0):=gh (by rw [<- hW0];exact (Kept.refl w).alloc _);have RB0:Hid (Boxed W0 b0 4 (.bool false)):=gh (by rw [<- hW0,<- hb0];exact Boxed.new w 4 _);have Z0:Hid (W0.heap.size=b0+1):=gh (by rw [<- hW0];simp [hb0]);have WR:Hid (∀ X,Kept w X->Calls Tryz.prog 13 #[.int .i64 cells,.int .i64 3,.slice a1 keys.length c1,.slice a2 l.length c2] X fun e W=>∃ x,e=.returned (.pointer (some ⟨x,0,none⟩))/\∃ mb tb,Wrl X W x mb tb (f0H cells keys l)):=gh (fun X k=>world_r X cells a1 keys c1 a2 l c2 (hr1.kept k) hc1 hm1 (hr2.kept k) hc2 hm2 hi);have GZ:=gh (p0O cells keys l);have SZ:=gh (Sd.world_sound cells keys l);clear hr1 hc1 hm1 hr2 hc2 hm2 hi;refine c0L Tryz.func3 rfl ?_;simp only [Tryz.ntmps3,List.size_toArray,List.length_cons,List.length_nil,Nat.reduceAdd,Nat.reduceSub,Array.replicate_succ,Array.replicate_zero,List.push_toArray,List.append_toArray,List.nil_append,List.cons_append];go_wp2_with (fail);clear hW0 hb0;refine (WR.o W0 K0.o).mono ?_;rintro e W2 ⟨x,rfl,mb,tb,wr⟩;obtain ⟨vm,dm,okm,cx⟩:=wr.mem;obtain ⟨M,hM⟩:∃ M,(f0H cells keys l).m=M:=⟨_,rfl⟩;have gz:=GZ.o;have sz:=SZ.o;rw [hM] at dm okm gz sz;have K2:=gh wr.kept;have DMH:=gh dm;have h1M:Hid (1<=M.size):=gh (by omega);obtain ⟨s',hs'⟩:∃ s,cp M=s:=⟨_,rfl⟩;have OK:Hid s'.ok:=gh (by rw [<- hs'];exact cp_ok okm dm.room);have SND:Hid (b0A s'=true):=gh (by rw [<- hs',t0X (cp_xs dm.room)];exact sz);have SML:Hid (s'.xs.length<=800):=gh (by rw [<- hs',cp_xs dm.room];have:=dm.room;omega);have HS:=gh hs';have RB2:=gh (K2.o.boxed RB0.o id);clear wr dm okm gz sz hM hs';go_wp2_with (fail);refine (copy_c W2 _ mb vm M DMH.o h1M.o).mono ?_;rintro e W3 ⟨bm,rfl,n3⟩;rw [HS.o] at n3;have H3:=gh n3;have Z2:Hid (b0+1<=W2.heap.size):=gh (by have:=K2.o.size;have:=Z0.o;omega);have Z3:Hid (b0+1<=W3.heap.size):=gh (by have:=Z2.o;have:=n3.2.size;omega);have RB3:=gh (n3.2.boxed RB2.o id);clear n3 cx;go_wp2_with (fail);refine (known_c W3).mono ?_;rintro e W31 ⟨rfl,k31⟩;have H31:=gh (H3.o.on k31);have RB31:=gh (k31.boxed RB3.o id);clear k31 H3 RB3;go_wp2_with (fail);refine (i0E W31 bm s' H31.o.pm OK.o true SND.o).mono ?_;rintro e W32 ⟨rfl,k32⟩;have H32:=gh (H31.o.on k32);have RB32:=gh (k32.boxed RB31.o id);clear k32 H31 RB31;obtain ⟨y,hy⟩:∃ y,s'.logicZ 6=y:=⟨_,rfl⟩;have HY:=gh hy;have IY:Hid (I64 y):=gh (by rw [<- hy];exact OK.o.logic 6);obtain ⟨xs,hxs⟩:∃ xs,d0H s' y=xs:=⟨_,rfl⟩;have HXS:=gh hxs;have HXL:Hid (xs.length<=803):=gh (by have:=n0R OK.o SND.o;rw [hy,hxs] at this;have:=SML.o;omega);have HUP:Hid ((xs.map Prod.fst).Pairwise (· < ·)):=gh (by have:=q0W OK.o SND.o;rw [hy,hxs] at this;exact this);clear hy hxs;go_wp2_with (fail);refine (f0W W32 bm s' 6 y H32.o.pm OK.o HY.o).mono ?_;rintro e w' ⟨rfl,rfl⟩;go_wp2_with (fail);refine (l0D W32 bm s' y H32.o.pm OK.o IY.o xs HXS.o).mono ?_;rintro e W4 ⟨v4,rfl,r4,k4⟩;obtain ⟨a4,c4,rfl,pr4,l4,mm4,_,b4⟩:=PRow.form r4;obtain ⟨L,hL⟩:∃ L,xs.length=L:=⟨_,rfl⟩;rw [hL] at l4;have HL:=gh hL;have H4:=gh (H32.o.on k4);have PR4:=gh pr4;have B4:Hid (∀ ad,a4=some ad->W2.heap.size<=ad.block/\ad.block < W4.heap.size):=gh (fun ad e=>by
  have h1:=b4 ad e;have h2:=H32.o.2.size;omega)
 have RB4:=gh (k4.boxed RB32.o id);rw [hL];have L3:=gh l4;have lx:(L:Int)<=803:=by have:=HXL.o;omega
 obtain ⟨bp,hbp⟩:∃ b,W4.heap.size=b:=⟨_,rfl⟩;obtain ⟨W5,hW5⟩:∃ W,W4.alloc (.cells #[.slice a4 L c4] 36)=W:=⟨_,rfl⟩;have k5:Kept W4 W5:=by rw [<- hW5];exact (Kept.refl W4).alloc _
 have BP5:Hid (Boxed W5 bp 36 (.slice a4 L c4)):=gh (by rw [<- hW5,<- hbp];exact Boxed.new W4 36 _);have Z4:Hid (b0+1<=bp/\W4.heap.size=bp/\bp < W5.heap.size/\b0+1<=W2.heap.size):=gh (by have:=H4.o.2.size;have:=Z2.o;have:=BP5.o.lt;omega);have K5:=gh k5;clear r4 k4 pr4 b4 mm4 hL k5 RB32 H32;have RB5:=gh (K5.o.boxed RB4.o id);have MI4:Hid (MemI W4 W2.heap.size bp bm s'):=gh (by
  obtain ⟨⟨v,hv⟩,_⟩:=H4.o;exact ⟨v,hv,fun k e=>by have:=(hv.lt k e).2;have:=Z4.o;omega⟩)
 have MI5:=gh (MI4.o.kept K5.o);obtain ⟨bi,hbi⟩:∃ b,W5.heap.size=b:=⟨_,rfl⟩;obtain ⟨W7,hW7⟩:∃ W,W5.alloc (.cells #[.int .i64 0] 3)=W:=⟨_,rfl⟩;have k7:Kept W5 W7:=by rw [<- hW7];exact (Kept.refl W5).alloc _
 have BI7:Hid (Boxed W7 bi 3 (.int .i64 0)):=gh (by rw [<- hW7,<- hbi];exact Boxed.new W5 3 _);have BP7:=gh (k7.boxed BP5.o id);have RB7:=gh (k7.boxed RB5.o id);have MI7:=gh (MI5.o.kept k7);have KW7:Hid (Kept w W7):=gh ((((K0.o.trans K2.o).trans H4.o.2).trans K5.o).trans k7);have Z7:Hid (b0+1<=bp/\bp < bi/\bi < W7.heap.size/\b0+1<=W2.heap.size):=gh (by
  have h1:=Z4.o;have h3:=BI7.o.lt;omega)
 have K7:=gh k7;have HBI:Hid (W5.heap.size=bi):=gh hbi;have HW7:=gh (show (W4.alloc (.cells #[.slice a4 L c4] 36)).alloc (.cells #[.int .i64 0] 3)=W7 by rw [hW5];exact hW7);have hb2:bp+1=bi:=by rw [<- hbi,<- hW5,<- hbp];simp
 clear k7 hW7 hW5;go_wp2_with (fail);clear hbi hbp;rw [HW7.o];clear hb2;refine (leaves_k W7 bm).mono ?_;rintro e W8 ⟨B1,rfl,k8,bx8,l8⟩;have K8:=gh k8;have B8:=gh bx8;have L8:=gh l8;have I8:=gh (k8.boxed BI7.o id);clear k8 bx8 l8;go_wp2_with (fail);refine j0S (gf:=70) rfl (enters_of Tryz.func70 (by kernel_rfl) rfl) (encs:=enc2) (xs:=xs) (R:=t0A W5 B1)
  (fun X hX=>leaves_i W5 X ((K7.o.trans K8.o).trans hX) bm s' MI5.o.pm OK.o xs (by rw [HY.o];exact HXS.o) (by have:=HXL.o;omega) B1 (hX.boxed B8.o id)) (fun _=>rfl)
  (fun k=>k=bi) (CntO bi) (fun _ _ _ _=>False) ?hR (CntO.good bi) (fun _=>g0I) ⟨fun _=>Iff.rfl,I8.o⟩ ?ab ?done (fun _ _ _ _ _ _ _ _ _ _ _ h=>h.elim)
 case hR=>
  rintro k (hk | rfl)
  ·have h1:=K8.o.size;have h2:=Z7.o;have h3:=HBI.o;exact ⟨by omega,by omega⟩
  ·have h1:=B8.o.lt;have h2:=L8.o;have h3:=Z7.o;exact ⟨h1,by omega⟩
 case ab=>
  apply Exists.intro;refine ⟨?_,?_⟩
  ·intro l' p X K hK;gi_wp2;exact hK
  ·rintro l' O pre ⟨k,v⟩ rest B hx' tB sB ⟨hO,bI⟩;obtain ⟨q,hq⟩:∃ L,pre.length=L:=⟨_,rfl⟩;have hat:xs[q]? = some (k,v):=by rw [hx',<- hq,List.getElem?_append_right (Nat.le_refl _),Nat.sub_self];rfl
   have hlt:q < L:=by have:=(List.getElem?_eq_some_iff.1 hat).1;have:=HL.o;omega
   rw [hq] at bI;have kB:Td (fun k=>k=bi) W7 B:=K8.o.then tB;have cP:=(kB.boxed BP7.o (by have:=Z7.o;omega)).cell;have cI:=bI.cell;have fI:=bI.frozen;have tB4:Td (fun k=>k=bi) W4 B:=(K5.o.trans K7.o).then kB;obtain ⟨bl,off,rfl,_,g1,g2⟩:=(PR4.o.turned tB4 (fun i hi ⟨ad,e1,e2⟩ e=>by
    have h1:=B4.o ad e1;have h2:=Z7.o;have h3:=Z4.o;omega)).at hat
   simp only at g1 g2;rw [<- Nat.add_assoc] at g2;have END:Hid (∃ O',Sub O' O B.heap.size/\Td O B (B.setCell ⟨bi,0,none⟩ (.int .i64 ((q:Int)+1)))/\CntO bi O' (pre++[(k,v)]) (B.setCell ⟨bi,0,none⟩ (.int .i64 ((q:Int)+1)))):=gh (by
    refine ⟨O,Sub.refl _ _,Td.setCell _ _ _ ((hO bi).2 rfl),hO,?_⟩
    have:=bI.set (.int .i64 ((q:Int)+1))
    rw [List.length_append,hq];simpa using this)
   have j1:(q:Int) < (L:Int):=by omega
   have j2:q < c4:=by have:=L3.o;omega
   have j3:(q:Int)<=803:=by omega
   clear hx' tB sB hO bI hq hat kB tB4;gi_wp2;exact END.o
 case done=>
  rintro D O X hD nD tX sX ⟨hO,bI⟩ hK;rw [HL.o] at bI;have tW:Td (fun k=>k=bi) W7 X:=K8.o.then tX;have HX:=gh (MemI.turned MI7.o tW (fun k e h1 h2=>by have:=Z7.o;omega));have BXX:=gh (tW.boxed BP7.o (by have:=Z7.o;omega));have RXX:=gh (tW.boxed RB7.o (by have:=Z7.o;omega));have BII:=gh bI;have HKD:=gh hK;have PRX:Hid (a0P X a4 xs):=gh (PR4.o.turned ((K5.o.trans K7.o).then tW) (fun i hi ⟨ad,e1,e2⟩ e=>by
    have h1:=B4.o ad e1;have h2:=Z7.o;have h3:=Z4.o;omega))
  have HDD:Hid (D≠b0/\D≠bp/\D≠bi/\w.heap.size<=D/\D < X.heap.size):=gh (by
   have h1:=Z7.o;have h2:=K8.o.size;have h3:=HB0.o;have h4:=BI7.o.lt;have h5:=(Array.getElem?_eq_some_iff.1 hK).1;omega)
  have KX:Hid (Kept w X):=gh (KW7.o.own (fun i hi=>by rw [hi];have:=Z7.o;have:=HB0.o;omega) tW);have ZX:Hid (W7.heap.size<=X.heap.size):=gh tW.size;obtain ⟨SL,hSL⟩:∃ L,b0K s' (fuel s')=L:=⟨_,rfl⟩;have HSL:=gh hSL;have SIN:=gh (hSL ▸ t0V OK.o SND.o);have SOK:Hid (∀ p ∈ SL,p.2=s'.logicZ p.1):=gh (hSL ▸ fun p hp=>(t0U OK.o SND.o p hp).2);have SON:=gh (hSL ▸ p0Y OK.o SND.o);have S0:Hid (∃ v,SL[0]? = some (6,v)):=gh ⟨_,by rw [<- hSL];rfl⟩;obtain ⟨T,hT⟩:∃ T,SL.length=T:=⟨_,rfl⟩;have HT:=gh hT;have tle:T<=802/\0 < T:=by
   have h1:=j0X OK.o SND.o;have h2:=SML.o;have h3:0 < (b0K s' (fuel s')).length:=by unfold b0K;simp
   rw [hSL,hT] at h1 h3;omega
  have HTL:=gh tle;clear hD nD tX sX hO bI hK tW hSL hT tle;go_wp2_with (fail);refine (t0T X bm s' HX.o.pm OK.o SL (by rw [if_pos SND.o];exact HSL.o)).mono ?_;rintro e X1 ⟨v1,rfl,rw1,q1⟩;obtain ⟨la,lc,rfl,prs,hlc,hlm,_,hla⟩:=PRow.form rw1;rw [HT.o] at hlc ⊢;have PS1:=gh prs;have LA:Hid (∀ ad,la=some ad->X.heap.size<=ad.block/\ad.block < X1.heap.size):=gh hla;have H1:=gh (HX.o.kept q1);have Q1:=gh q1;have HLC:=gh hlc;clear q1 prs hlc hlm hla rw1;obtain ⟨N,hN⟩:∃ N,s'.xs.length=N:=⟨_,rfl⟩;have HN:=gh hN;have HNi:Hid ((s'.xs.length:Int)=(N:Int)):=gh (by omega);have n1:N<=800:=by rw [<- hN];exact SML.o
  have hmk:=i0H (N+1) (by omega);rw [show ((N+1:Nat):Int)=(N:Int)+1 from rfl] at hmk;clear hN;go_wp2_with (fail);refine (n0V X1 bm s' N H1.o.pm HNi.o).mono ?_;rintro e w' ⟨rfl,rfl⟩;obtain ⟨g,hg⟩:∃ g,X1.heap.size=g:=⟨_,rfl⟩;obtain ⟨X2,hX2⟩:∃ X,X1.alloc (.cells (madeCells #[.bool false] (N+1)) 4)=X:=⟨_,rfl⟩;have ROW0:Hid (X2.rowIs g 4 (N+1) (fun j=>.bool (metF SL 0 j))):=gh (by
   rw [<- hX2,<- hg];simp only [u0S];exact World.rowIs_made X1 (.bool false) (N+1) 4)
  have k2:Kept X1 X2:=by rw [<- hX2];exact (Kept.refl X1).alloc _
  have KX2:=gh (Q1.o.trans k2);have MI2:=gh (H1.o.kept k2);have PS2:=gh (PS1.o.kept k2);have ZG:Hid (X.heap.size<=g/\g < X2.heap.size/\X1.heap.size=g):=gh (by
   have h1:=Q1.o.size;have h2:=ROW0.o.lt;omega)
  have LA2:Hid (∀ ad,la=some ad->ad.block≠g):=gh (fun ad e=>by
   have h1:=(LA.o ad e).2;have h2:=ZG.o;omega)
  have S1:=S0.o;obtain ⟨v0,hv0⟩:=S1;have HV0:=gh hv0;have hT0:(0:Int) < (T:Int):=by have:=HTL.o;omega
  have hT8:(T:Int)<=802:=by have:=HTL.o;omega
  clear k2 hv0;go_wp2
  go_loopw [15,71] (fun _ i wr=>∃ k:Nat,k<=T/\i=.int .i64 (k:Int)/\Hid (wr.rowIs g 4 (N+1) (fun j=>.bool (metF SL k j)))/\Hid (Td (fun i=>i=g) X2 wr)) (fun _ i _=>T - (intOf i).toNat)
  case atStart=>exact ⟨0,by omega,by simp,ROW0,gh (Td.refl _ _)⟩
  case round=>
   obtain ⟨k,hk,rfl,HR,HT2⟩:=hrel
   by_cases hkT:k < T
   ·obtain ⟨⟨sl,y2⟩,hp⟩:∃ p,SL[k]? = some p:=⟨_,List.getElem?_eq_getElem (by rw [HT.o];exact hkT)⟩;have hin:=SIN.o (sl,y2) (List.mem_of_getElem? hp);have hlg:=SOK.o (sl,y2) (List.mem_of_getElem? hp);obtain ⟨q,rfl⟩:∃ q:Nat,sl=(q:Int):=⟨sl.toNat,by have:=hin.1;simp only at this;omega⟩;have hq1:1<=q:=by have:=hin.1;simp only at this;omega
    have hq2:q<=N:=by have:=hin.2;have:=HN.o;simp only at *;omega
    have hnew:=metF_new SON.o hp rfl;have PSW:=PS2.o.turned HT2.o (fun i hi ⟨ad,e1,e2⟩ e=>LA2.o ad e1 (e2.trans e));obtain ⟨bl,off,rfl,_,p0,p1⟩:=PSW.at hp;have c0:wr.cell? ⟨bl,off+k * 2,none⟩=some (.int .i64 (q:Int)):=p0;have c1:wr.cell? ⟨bl,off+k * 2+1,none⟩=some (.int .i64 y2):=p1;obtain ⟨WB,hWB⟩:∃ W,wr.alloc (.cells #[.int .i64 (q:Int),.int .i64 y2] 49)=W:=⟨_,rfl⟩;have kB:Kept wr WB:=by rw [<- hWB];exact (Kept.refl wr).alloc _
    have MB:=gh (MemI.kept (MI2.o.turned HT2.o (fun i e h1 h2=>by
     have h3:=ZG.o;have h4:=ZX.o;have h5:=Z7.o;omega)) kB)
    have UC:Hid (∀ m,Calls Tryz.prog 20 #[.pointer (some ⟨bm,0,none⟩)] (WB.drewN m) fun e w'=>e=.returned (.int .i64 (N:Int))/\w'=WB.drewN m):=gh (fun m=>(n0V _ bm s' N (MB.o.kept (Kept.drewN _ _)).pm HNi.o).mono fun _ _ h=>⟨h.1,h.2.symm⟩);have LC:Hid (∀ m,Calls Tryz.prog 17 #[.pointer (some ⟨bm,0,none⟩),.int .i64 (q:Int)] (WB.drewN m) fun e w'=>e=.returned (.int .i64 y2)/\w'=WB.drewN m):=gh (fun m=>(f0W _ bm s' q y2 (MB.o.kept (Kept.drewN _ _)).pm OK.o hlg.symm).mono fun _ _ h=>⟨h.1,h.2.symm⟩);have HRB:=gh (HR.o.of_block (kB.block g HR.o.lt id));obtain ⟨bx,hbx⟩:∃ b,wr.heap.size=b:=⟨_,rfl⟩;have x0:WB.cell? ⟨bx,0,none⟩=some (.int .i64 (q:Int)):=by rw [<- hWB,<- hbx];unfold World.cell?;rw [a0C];rfl
    have x1:WB.cell? ⟨bx,1,none⟩=some (.int .i64 y2):=by rw [<- hWB,<- hbx];unfold World.cell?;rw [a0C];rfl
    have cM:=HRB.o.cell (show q < N+1 by omega);simp only [hnew] at cM;have fM:=HRB.o.frozen q;have HE:Hid (∀ m,((WB.drewN m).setCell ⟨g,q,none⟩ (.bool true)).rowIs g 4 (N+1) (fun j=>.bool (metF SL (k+1) j))):=gh (fun m=>by
     have h1:=(HRB.o.of_block ((Kept.drewN WB m).block g HRB.o.lt id)).set q (.bool true);have h2:(fun j=>if j=q then Value.bool true else Value.bool (metF SL k j))=fun j=>Value.bool (metF SL (k+1) j):=funext fun j=>u0T hp rfl j
     rwa [h2] at h1)
    have HE2:Hid (∀ m,Td (fun i=>i=g) X2 ((WB.drewN m).setCell ⟨g,q,none⟩ (.bool true))):=gh (fun m=>
     HT2.o.trans ((kB.trans (Kept.drewN WB m)).then (Td.setCell (R:=fun i=>i=g) _ _ _ rfl)) (fun _ e=>e) (fun _ _ e=>e))
    have i1:(k:Int) < (T:Int):=by omega
    have i2:k < lc:=by have:=HLC.o;omega
    have i3:¬ ((q:Int) < 1):=by omega
    have i4:¬ ((N:Int) < (q:Int)):=by omega
    have i5:q < N+1:=by omega
    have i6:(q:Int) < (N:Int)+1:=by omega
    have i7:((k:Int)).toNat=k:=by omega
    clear hp hin hlg hnew PSW p0 p1 kB MB HRB HT2 HR;go_wp2;go_quiet (first | (go_at_call 20;refine Calls.quiet_of_same (UC.o _)) | (go_at_call 17;refine Calls.quiet_of_same (LC.o _)));go_wp2;exact ⟨⟨k+1,by omega,by simp,gh (HE.o _),gh (HE2.o _)⟩,by simp [intOf];omega⟩
   ·have hkT':k=T:=by omega
    subst hkT';have j1:¬ ((k:Int) < (k:Int)):=by omega
    have xw:Kept X wr:=KX2.o.own (fun i hi=>by rw [hi];exact ZG.o.1) HT2.o;have XW:=gh xw;have PSW:=PS2.o.turned HT2.o (fun i hi ⟨ad,e1,e2⟩ e=>LA2.o ad e1 (e2.trans e));obtain ⟨bl,off,rfl,_,p0,p1⟩:=PSW.at HV0.o;simp only [Nat.zero_mul,Nat.add_zero] at p0;have cI:=(xw.boxed BII.o id).cell;have cP:=(xw.boxed BXX.o id).cell;have i2:0 < lc:=by have:=HLC.o;omega
    clear PSW xw p1;go_wp2_with (fail);refine (map_d wr a4 xs L c4 (PRX.o.kept XW.o) HL.o L3.o (by omega) true (decide_eq_true HUP.o)).mono ?_;rintro e w' ⟨rfl,m,rfl⟩;have RXW:=XW.o.boxed RXX.o id;have KE0:Kept wr (wr.drewN m):=Kept.drewN _ _;have RX3:=gh (KE0.boxed RXW id);have HK3:=gh ((XW.o.trans KE0).heap HKD.o id);have cR:=RX3.o.cell;have fR:=RX3.o.frozen;obtain ⟨X3,hX3⟩:∃ X,wr.drewN m=X:=⟨_,rfl⟩;rw [hX3] at RX3 HK3 cR fR KE0 ⊢;have p0':X3.cell? ⟨bl,off,none⟩=some (.int .i64 6):=by rw [<- hX3];exact p0
    have tS:Td (fun k=>k=b0) X3 (X3.setCell ⟨b0,0,none⟩ (.bool true)):=Td.setCell _ _ _ rfl;have HK4:Hid ((X3.setCell ⟨b0,0,none⟩ (.bool true)).heap[D]? = some (.deferred (some []))):=gh (tS.heap HK3.o (HDD.o.1));have CS:Hid ((X3.setCell ⟨b0,0,none⟩ (.bool true)).cell? ⟨b0,0,none⟩=some (.bool true)):=gh (RX3.o.set (.bool true)).cell;have KE:Hid (Kept w (X3.setCell ⟨b0,0,none⟩ (.bool true))):=gh (((KX.o.trans XW.o).trans KE0).did (by have:=HB0.o;omega) tS);clear tS hX3 p0 KE0 RXW;go_wp2;refine a0X [D] _ ?_ ?_ ?_
    ·intro k hk;simp at hk;rw [hk];exact HK4.o
    ·simp
    ·intro X' hX';have q1:=hX'.cell CS.o (by have:=HDD.o;simp;omega);exact ⟨.bool true,by simp [results,Tryz.results3,go_sem,q1],rfl,KE.o.own (fun i hi=>by simp at hi;have:=HDD.o;omega) hX'⟩
end
end Go.Proofs.YtibnlaihiahjpaaGreat
