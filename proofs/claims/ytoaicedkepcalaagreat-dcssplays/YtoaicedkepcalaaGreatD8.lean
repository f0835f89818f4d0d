/-
  What the proof of YtoaicedkepcalaaGreatDcssPlaysProof goes by, part 8 of 11: contracts and plain facts; each part begins with its own sentence. No conditions beyond each theorem's own.
-/
import Derived.Test.YtoaicedkepcalaaGreatD7
namespace Go.Proofs.YtoaicedkepcalaaGreat
open Go.RowKit
namespace Sd
section
variable (g:Gh)
inductive Un (c:Int):Int->Prop
 | here {b:Int}:g.hm b=some c->Un c b
 | there {a b c' d n i:Int}:Un c a->Slot g c' a d n i->g.hm b=some c'->Un c b
def In (c lo hi j:Int):Prop:=Un g c (g.rb j)∨∃ k v,IsLeaf g (g.rb j) k v/\lo<=k/\k<=hi
end
variable {g:Gh} {m:Mst}
theorem Un.trans {c c' a b d n i:Int} (h:Un g c a) (hs:Slot g c' a d n i) (h2:Un g c' b):Un g c b:=by
 induction h2 with
 | here e=>exact .there h hs e
 | there _ hs' e ih=>exact .there ih hs' e
theorem acyc (h1:g.hm 1=none) {a lo hi:Int} (h:Iv g a lo hi):∀ c d n i,Slot g c a d n i->¬ Un g c a:=by
 induction h with
 | top _=>
  intro c d n i hs hu;cases hu with
  | here e=>rw [h1] at e;cases e
  | there _ _ e=>rw [h1] at e;cases e
 | @sub a l u d n i b ha hi0 h2 h3 hb e ih=>
  intro c d' n' i' hs hu;have hs0:Slot g (a+4+d+i) a d n i:=⟨hi0,h2,h3,rfl⟩;cases hu with
  | here e'=>
   rw [e] at e';have ec:=Option.some.inj e';rw [<- ec] at hs;obtain ⟨rfl,_⟩:=hs.fn hs0;exact ih _ _ _ _ hs0 (.here e)
  | @there a' _ c' d2 n2 i2 hu' hs' e'=>
   rw [e] at e';have ec:=Option.some.inj e';rw [<- ec] at hs';obtain ⟨rfl,_⟩:=hs'.fn hs0;exact ih _ _ _ _ hs0 (Un.trans (.here e) hs hu')
theorem apart (h1:g.hm 1=none) {a lo hi c c' d n i d' n' i' b:Int} (h:Iv g a lo hi) (hs:Slot g c a d n i) (hs':Slot g c' a d' n' i') (hu:Un g c b):Un g c' b->c=c':=by
 induction hu with
 | here e=>
  intro hu';cases hu' with
  | here e'=>rw [e] at e';exact Option.some.inj e'
  | there hu2 hs2 e'=>
   rw [e] at e';have ec:=Option.some.inj e';rw [<- ec] at hs2;obtain ⟨rfl,_⟩:=hs2.fn hs;exact absurd hu2 (acyc h1 h _ _ _ _ hs')
 | there hu2 hs2 e ih=>
  intro hu';cases hu' with
  | here e'=>
   rw [e] at e';have ec:=Option.some.inj e';rw [ec] at hs2;obtain ⟨rfl,_⟩:=hs2.fn hs';exact absurd hu2 (acyc h1 h _ _ _ _ hs)
  | there hu3 hs3 e'=>
   rw [e] at e';have ec:=Option.some.inj e';rw [<- ec] at hs3;obtain ⟨rfl,_⟩:=hs3.fn hs2;exact ih hu3
theorem Un.hm {c b:Int} (h:Un g c b):∃ c',g.hm b=some c':=by
 cases h with
 | here e=>exact ⟨_,e⟩
 | there _ _ e=>exact ⟨_,e⟩
theorem Inv.rise (h:Inv m g) {a lo hi d n:Int} (hv:Iv g a lo hi) (hI:IsInner g a d n):∀ (k:Nat) (i:Int),0<=i->i+k < d->gl g a lo i<=gl g a lo (i+k)
 | 0,i,_,_=>by simp
 | k+1,i,h0,h1=>by
  have ih:=h.rise hv hI k i h0 (by omega)
  have:=(h.keys a lo hi d n hv hI (i+k) (by omega) (by omega)).1
  have e:gl g a lo (i+(k+1:Nat))=gk g a (i+k+1):=by
   rw [gl,if_neg (by omega)];congr 1;omega
  rw [e];omega
theorem Inv.within (h:Inv m g) {a lo hi d n i:Int} (hv:Iv g a lo hi) (hI:IsInner g a d n) (h0:0<=i) (h1:i < d):lo<=gl g a lo i/\gu g a d hi i<=hi:=by
 have r:=h.rise hv hI i.toNat 0 (by omega) (by omega);rw [show (0:Int)+(i.toNat:Int)=i by omega] at r;refine ⟨by simpa [gl] using r,?_⟩;unfold gu
 split
 ·have:=(h.keys a lo hi d n hv hI i h0 (by omega)).2
  omega
 ·exact Int.le_refl _
theorem Inv.order (h:Inv m g) {a lo hi d n i j:Int} (hv:Iv g a lo hi) (hI:IsInner g a d n) (h0:0<=i) (h1:i < j) (h2:j < d):gu g a d hi i < gl g a lo j:=by
 have r:=h.rise hv hI (j - i - 1).toNat (i+1) (by omega) (by omega);rw [show i+1+((j - i - 1).toNat:Int)=j by omega] at r;have e:gl g a lo (i+1)=gk g a (i+1):=by rw [gl,if_neg (by omega)]
 have e2:gu g a d hi i=gk g a (i+1) - 1:=by rw [gu,if_pos (by omega)]
 omega
theorem Inv.fix (h:Inv m g) {c z:Int} (e:g.ro c=some (.fix z)):m.look c=z:=by
 have:=h.cell c
 unfold COk at this;rw [e] at this;exact this
theorem Inv.lt (h:Inv m g) {c:Int} (e:g.ro c≠none):1<=c/\c<=(m.xs.length:Int):=Mst.used_iff.1 ((h.used c).1 e)
theorem Inv.logic (h:Inv m g) {c a d n i:Int} (hs:Slot g c a d n i) (h0:m.look c≠0):OkW m g c (m.logicZ c)/\dcssB m c=true:=by
 have hc:=h.cell c;unfold COk at hc;rw [hs.ro] at hc;rcases hc with e | e | ⟨k5,qp,gd,o,x,hD⟩
 ·exact absurd e h0
 ·have k5:kd (m.look c)≠5:=by
   rcases e with ⟨k,_⟩ | ⟨k,_⟩ | ⟨k,_⟩ | ⟨k,_⟩ <;> omega
  refine ⟨by rw [Mst.logicZ,if_neg k5];exact e,?_⟩;simp only [dcssB,Bool.or_eq_true,Bool.not_eq_true',beq_eq_false_iff_ne];exact .inl k5
 ·have ho:=h.cell (ad (m.look c)+4);unfold COk at ho;rw [hD.c4] at ho;have e4:g.rb (ad (m.look c)+4)=ad (m.look c):=(hD.rc.2 4 (by omega) (by omega)).1;rw [e4] at ho;obtain ⟨gd',c',o',x',hD',o1,o2,_⟩:=ho.1;obtain ⟨rfl,rfl,rfl,rfl⟩:=hD.fn hD';constructor
  ·rw [Mst.logicZ,if_pos k5]
   split
   ·rw [show m.look (Rf.atZ (m.look c)+3)=x from h.fix hD.c3];exact o2
   ·rw [show m.look (Rf.atZ (m.look c)+2)=o from h.fix hD.c2];exact o1 qp
  ·have l4:=h.lt (c:=ad (m.look c)+4) (by rw [hD.c4];exact fun e=>by cases e);simp only [dcssB,Bool.or_eq_true,Bool.and_eq_true,decide_eq_true_eq,beq_iff_eq];exact .inr ⟨l4.2,h.fix hD.c1⟩
def Tok (g:Gh) (t:Tk) (c lo hi:Int):Prop:=∀ j:Nat,t j=true->¬ In g c lo hi (j:Int)
def Got (g:Gh) (t t':Tk) (c lo hi:Int):Prop:=∀ j:Nat,t' j=true->t j=true∨In g c lo hi (j:Int)
theorem take_ok (h:Inv m g) {t:Tk} {c lo hi a n:Int} (ht:Tok g t c lo hi) (hr:Rec g a n) (hn:1<=n) (hin:∀ j,a<=j->j < a+n->In g c lo hi j) :
  takeO (m.xs.length+1) t a.toNat n.toNat=some (takeT t a.toNat n.toNat)/\Got g t (takeT t a.toNat n.toNat) c lo hi:=by
 have h1:=hr.1;have hl:=h.lt (c:=a+(n - 1)) (hr.2 (n - 1) (by omega) (by omega)).2;constructor
 ·unfold takeO;rw [if_pos];simp only [Bool.and_eq_true,decide_eq_true_eq];refine ⟨⟨by omega,by omega⟩,?_⟩;unfold freeB;rw [List.all_eq_true];intro i hi';simp only [List.mem_range] at hi';cases e:t (a.toNat+i) with
  | false=>rfl
  | true=>exact absurd (hin _ (by omega) (by omega)) (ht _ e)
 ·intro j hj;unfold takeT at hj;rw [Bool.or_eq_true,decide_eq_true_eq] at hj;rcases hj with hj | hj
  ·exact .inl hj
  ·exact .inr (hin _ (by omega) (by omega))
theorem In.sub (h:Inv m g) {c c' a lo hi d n i j:Int} (hv:Iv g a lo hi) (ha:a≠1->g.hm a=some c) (ha':a≠1) (hs:Slot g c' a d n i) (hin:In g c' (gl g a lo i) (gu g a d hi i) j):In g c lo hi j:=by
 have w:=h.within hv hs.1 hs.2.1 hs.2.2.1;rcases hin with hu | ⟨k,v,hl,h1,h2⟩
 ·exact .inl (Un.trans (.here (ha ha')) hs hu)
 ·exact .inr ⟨k,v,hl,by omega,by omega⟩
def TokI (g:Gh) (t:Tk) (b d n lo hi:Int):Prop:=∀ j:Nat,t j=true->g.rb (j:Int)≠b/\∀ c i,Slot g c b d n i->¬ In g c (gl g b lo i) (gu g b d hi i) (j:Int)
def WOk (m:Mst) (g:Gh) (f:Nat):Prop:=∀ (c lo hi:Int) (t:Tk) (a d n i:Int),Slot g c a d n i->SIv g c lo hi->m.look c≠0->freeN (m.xs.length+1) t < f->Tok g t c lo hi->∃ t',sndSlot m (sndW m f) c lo hi t=some t'/\Got g t t' c lo hi
theorem Inv.bounds (h:Inv m g) {b d n:Int} (lo hi:Int) (hI:IsInner g b d n) (hc:Compl m g b) {B D:Nat} (eb:b=(B:Int)) (ed:d=(D:Int)) (i:Nat) (hi':i < D):lowZ m B lo i=gl g b lo i/\highZ m B D hi i=gu g b d hi i:=by
 have kk:∀ j:Nat,1<=j->j < D->ky m B j=gk g b j:=fun j h1 h2=>by
  have:=h.kin b d n j hI (by omega) (by omega) (hc d n j hI (by omega) (by omega))
  rw [ky,<- eb];exact this
 constructor
 ·unfold lowZ gl
  by_cases e:i=0
  ·rw [if_pos e,if_pos (by omega)]
  ·rw [if_neg e,if_neg (by omega),kk i (by omega) hi']
 ·unfold highZ gu
  by_cases e:i+1 < D
  ·rw [if_pos e,if_pos (by omega),kk (i+1) (by omega) e];congr 2
  ·rw [if_neg e,if_neg (by omega)]
theorem snd_kids (h:Inv m g) {f:Nat} (ih:WOk m g f) {b d n lo hi:Int} (hv:Iv g b lo hi) (hI:IsInner g b d n) (hc:Compl m g b) {B D:Nat} (eb:b=(B:Int)) (ed:d=(D:Int)) {t:Tk} (hf:freeN (m.xs.length+1) t < f)
  (ht:∀ j:Nat,t j=true->∀ c i,Slot g c b d n i->¬ In g c (gl g b lo i) (gu g b d hi i) (j:Int)) :
  ∀ k:Nat,k<=D->∃ t',chain (kidG m (sndW m f) B D lo hi) k t=some t'/\∀ j:Nat,t' j=true->t j=true∨∃ i:Nat,i < k/\In g (b+4+d+i) (gl g b lo i) (gu g b d hi i) (j:Int)
 | 0,_=>⟨t,rfl,fun j hj=>.inl hj⟩
 | k+1,hk=>by
  obtain ⟨tk,h1,h2⟩:=snd_kids h ih hv hI hc eb ed hf ht k (by omega);have hs:Slot g (b+4+d+k) b d n k:=⟨hI,by omega,by omega,rfl⟩;have hl:=h.bounds lo hi hI hc eb ed k (by omega);have fr:=chain_free (sndW_free m f) h1;obtain ⟨t',h3,h4⟩:=ih _ _ _ tk _ _ _ _ hs (hs.siv hv) (hc d n k hI (by omega) (by omega)) (by omega) (by
   intro j hj hin;rcases h2 j hj with hj' | ⟨i,hi',hin'⟩
   ·exact ht j hj' _ _ hs hin
   ·have hs':Slot g (b+4+d+i) b d n i:=⟨hI,by omega,by omega,rfl⟩;have od:=h.order hv hI (i:=i) (j:=k) (by omega) (by omega) (by omega);rcases hin with u1 | ⟨k1,v1,l1,a1,b1⟩
    ·rcases hin' with u2 | ⟨k2,v2,l2,_,_⟩
     ·have:=apart h.hm1 hv hs hs' u1 u2
      omega
     ·obtain ⟨c',e⟩:=u1.hm;exact h.hml _ _ e l2.kn
    ·rcases hin' with u2 | ⟨k2,v2,l2,a2,b2⟩
     ·obtain ⟨c',e⟩:=u2.hm;exact h.hml _ _ e l1.kn
     ·have e:=l1.c0.symm.trans l2.c0;cases e;omega)
  refine ⟨t',?_,fun j hj=>?_⟩
  ·rw [chain,h1];show sndSlot m (sndW m f) (childS B D k) (lowZ m B lo k) (highZ m B D hi k) tk=some t';rw [hl.1,hl.2,show childS B D k=b+4+d+k by unfold childS;omega];exact h3
  ·rcases h4 j hj with e | e
   ·rcases h2 j e with e | ⟨i,hi',e⟩
    ·exact .inl e
    ·exact .inr ⟨i,by omega,e⟩
   ·exact .inr ⟨k,by omega,e⟩
theorem snd_in (h:Inv m g) {f:Nat} (ih:WOk m g f) {b d n lo hi c:Int} (hv:Iv g b lo hi) (hb:b≠1) (hm:g.hm b=some c) (hI:IsInner g b d n) (h2:2<=d) (hc:Compl m g b) {t:Tk} (hf:freeN (m.xs.length+1) t < f+1) (ht:TokI g t b d n lo hi) :
  ∃ t',sndInner m (sndW m f) b.toNat lo hi t=some t'/\Got g t t' c lo hi:=by
 have hb1:=hI.rc.1;obtain ⟨B,eb⟩:∃ B:Nat,b=(B:Int):=⟨b.toNat,by omega⟩;obtain ⟨D,ed⟩:∃ D:Nat,d=(D:Int):=⟨d.toNat,by omega⟩;have elk:m.look (B:Int)=(D:Int):=by rw [<- eb,<- ed];exact h.fix hI.c0
 have last:=h.lt (c:=b+(2 * d+3)) (hI.rc.2 (2 * d+3) (by omega) (by omega)).2;have eB:b.toNat=B:=by omega
 rw [eB];have tk:takeO (m.xs.length+1) t B (2 * D+4)=some (takeT t B (2 * D+4)):=by
  unfold takeO;rw [if_pos];simp only [Bool.and_eq_true,decide_eq_true_eq];refine ⟨⟨by omega,by omega⟩,?_⟩;unfold freeB;rw [List.all_eq_true];intro i hi';simp only [List.mem_range] at hi';cases e:t (B+i) with
  | false=>rfl
  | true=>
   have h3:=(ht _ e).1;have h4:=hI.rb (j:=(i:Int)) (by omega) (by omega);rw [show b+(i:Int)=((B+i:Nat):Int) by omega] at h4;exact absurd h4 h3
 have fr:=takeO_free tk;obtain ⟨t',h3,h4⟩:=snd_kids h ih hv hI hc eb ed (t:=takeT t B (2 * D+4)) (by omega) (by
  intro j hj c' i hs hin;unfold takeT at hj;rw [Bool.or_eq_true,decide_eq_true_eq] at hj;rcases hj with hj | hj
  ·exact (ht j hj).2 c' i hs hin
  ·have e4:=hI.rb (j:=(j:Int) - b) (by omega) (by omega);rw [show b+((j:Int) - b)=(j:Int) by omega] at e4;rcases hin with u | ⟨k,v,l,_,_⟩
   ·rw [e4] at u;exact acyc h.hm1 hv _ _ _ _ hs u
   ·rw [e4] at l
    have:=l.kn.symm.trans hI.kn
    omega) D (Nat.le_refl _)
 refine ⟨t',?_,fun j hj=>?_⟩
 ·unfold sndInner;rw [elk,Int.toNat_natCast,if_neg (by omega),tk];show (if (keysB m B D lo hi && shutB m B)=true then _ else none)=_;rw [if_pos,h3];rw [Bool.and_eq_true];constructor
  ·unfold keysB;rw [List.all_eq_true];intro i hi';simp only [List.mem_range] at hi';have hl:=h.bounds lo hi hI hc eb ed i (by omega);have hk:=h.keys b lo hi d n hv hI i (by omega) (by omega);have e:=h.kin b d n (i+1) hI (by omega) (by omega) (hc d n (i+1) hI (by omega) (by omega));rw [hl.1,show ky m B (i+1)=gk g b (i+1) by rw [ky,<- eb,<- e];congr 1];simp only [Bool.and_eq_true,decide_eq_true_eq];exact hk
  ·have e:=h.cell (b+2);unfold COk at e;rw [hI.c2] at e;unfold shutB;rw [<- eb];rcases e with e | ⟨e,_⟩ <;> simp [e]
 ·rcases h4 j hj with e | ⟨i,hi',e⟩
  ·unfold takeT at e;rw [Bool.or_eq_true,decide_eq_true_eq] at e;rcases e with e | e
   ·exact .inl e
   ·have e4:=hI.rb (j:=(j:Int) - b) (by omega) (by omega);rw [show b+((j:Int) - b)=(j:Int) by omega] at e4;exact .inr (.inl (by rw [e4];exact .here hm))
  ·exact .inr (In.sub h hv (fun _=>hm) hb ⟨hI,by omega,by omega,rfl⟩ e)
theorem tok_in (h:Inv m g) {b d n lo hi c:Int} {t:Tk} (hv:Iv g b lo hi) (hb:b≠1) (hm:g.hm b=some c) (ht:Tok g t c lo hi):TokI g t b d n lo hi:=fun j hj=>
 ⟨fun e=>ht j hj (.inl (by rw [e];exact .here hm)),fun _ _ hs hin=>ht j hj (In.sub h hv (fun _=>hm) hb hs hin)⟩
theorem wok (h:Inv m g):∀ f,WOk m g f:=by
 intro f
 induction f using Nat.strongRecOn with
 | ind f ih=>
  intro c lo hi t a d n i hs hsv h0 hf ht;cases f with
  | zero=>exact absurd hf (by omega)
  | succ f=>
   obtain ⟨hw,hd⟩:=h.logic hs h0;unfold sndSlot;rw [if_pos hd];generalize m.logicZ c=w at hw;show ∃ t',sndW m (f+1) w lo hi t=some t'/\_;rcases hw with ⟨k1,he,hm⟩ | ⟨k2,k,v,hl,hk⟩ | ⟨k3,d',n',hI,h2,hb,hm,hc⟩ | ⟨k4,tg,gd,hR,hmr,k3,d',n',hI,h2,hb,hm,hc⟩
   ·obtain ⟨e1,e2⟩:=take_ok h ht he.rc (by omega) (fun j a1 a2=>.inl (by rw [show j=ad w by omega];have:=(he.rc.2 0 (by omega) (by omega)).1;rw [Int.add_zero] at this;rw [this];exact .here hm));exact ⟨_,by unfold sndW;rw [if_pos k1];exact e1,e2⟩
   ·have hk':=hk lo hi hsv;have elk:=h.fix hl.c0;obtain ⟨e1,e2⟩:=take_ok h ht hl.rc (by omega) (fun j a1 a2=>by
     have:=(hl.rc.2 (j - ad w) (by omega) (by omega)).1
     rw [show ad w+(j - ad w)=j by omega] at this;exact .inr ⟨k,v,by rw [this];exact hl,hk'.1,hk'.2⟩)
    exact ⟨_,by unfold sndW;rw [if_neg (by rw [k2];decide),if_pos k2,elk,if_pos hk'];exact e1,e2⟩
   ·have hv:=Iv.slot hsv hb hm;obtain ⟨t',e1,e2⟩:=snd_in h (ih f (by omega)) hv hb hm hI h2 hc hf (tok_in h hv hb hm ht);exact ⟨t',by unfold sndW;rw [if_neg (by rw [k3];decide),if_neg (by rw [k3];decide),if_pos k3];exact e1,e2⟩
   ·have hv:=Iv.slot hsv hb hm;have elk:m.look (ad w)=tg:=h.fix hR.c0;have cellr:∀ j,ad w<=j->j < ad w+5->g.rb j=ad w:=fun j a1 a2=>by
     have:=(hR.rc.2 (j - ad w) (by omega) (by omega)).1
     rwa [show ad w+(j - ad w)=j by omega] at this
    obtain ⟨e1,e2⟩:=take_ok h ht hR.rc (by omega) (fun j a1 a2=>.inl (by rw [cellr j a1 a2];exact .here hmr));have fr:=takeO_free e1;have r1:=hR.rc.1;obtain ⟨f',rfl⟩:∃ f',f=f' + 1:=⟨f - 1,by omega⟩;obtain ⟨a',lo',hi',hva⟩:∃ a' lo' hi',Iv g a' lo' hi'/\a'=a:=by
     obtain ⟨a',d2,n2,l',u',i',q1,q2,q3,q4,q5,_,_⟩:=hsv;exact ⟨a',l',u',q1,(Slot.fn (g:=g) (c:=c) ⟨q2,q3,q4,q5⟩ hs).1⟩
    obtain ⟨hva,rfl⟩:=hva;obtain ⟨t',e3,e4⟩:=snd_in h (ih f' (by omega)) (t:=takeT t (ad w).toNat (5:Int).toNat) hv hb hm hI h2 hc (by omega) (by
     intro j hj;unfold takeT at hj;rw [Bool.or_eq_true,decide_eq_true_eq] at hj;rcases hj with hj | hj
     ·exact tok_in h hv hb hm ht j hj
     ·have er:=cellr (j:Int) (by omega) (by omega);rw [er];refine ⟨fun e=>by have q1:=hR.kn;have q2:=hI.kn;rw [e] at q1;omega,fun c' i' hs' hin=>?_⟩;rcases hin with u | ⟨k,v,l,_,_⟩
      ·rw [er] at u;cases u with
       | here e=>
        rw [hmr] at e;have ec:=Option.some.inj e;rw [<- ec] at hs';obtain ⟨rfl,_⟩:=hs'.fn hs;exact acyc h.hm1 hv _ _ _ _ hs' (.here hm)
       | there u2 hs2 e=>
        rw [hmr] at e;have ec:=Option.some.inj e;rw [<- ec] at hs2;obtain ⟨rfl,_⟩:=hs2.fn hs;exact acyc h.hm1 hva _ _ _ _ hs (Un.trans (.here hm) hs' u2)
      ·rw [er] at l
       have:=l.kn.symm.trans hR.kn
       omega)
    refine ⟨t',?_,fun j hj=>?_⟩
    ·unfold sndW;rw [if_neg (by rw [k4];decide),if_neg (by rw [k4];decide),if_neg (by rw [k4];decide),if_pos k4,elk,if_pos k3];show (takeO (m.xs.length+1) t (ad w).toNat (5:Int).toNat).bind _=_;rw [e1];show sndW m (f' + 1) tg lo hi _=_;unfold sndW;rw [if_neg (by rw [k3];decide),if_neg (by rw [k3];decide),if_pos k3];exact e3
    ·rcases e4 j hj with e | e
     ·exact e2 j e
     ·exact .inr e
theorem Inv.sound (h:Inv m g):soundB m=true:=by
 obtain ⟨hI,h6⟩:=h.top;have hs:Slot g 6 1 1 0 0:=⟨hI,by omega,by omega,rfl⟩;have l6:=h.lt (c:=6) (by rw [hs.ro];exact fun e=>by cases e);have e1:m.look 1=1:=h.fix hI.c0;have e3:m.look 3=0:=by
  have e:=h.cell 3;unfold COk at e;rw [show g.ro 3=some .shut from hI.c2] at e;rcases e with e | ⟨_,e,_⟩
  ·exact e
  ·exact absurd (hI.rb (j:=2) (by omega) (by omega)) e
 have sv:=hs.siv (Iv.top hI);have el:gl g 1 (-9223372036854775808) 0=-9223372036854775808:=by simp [gl]
 have eu:gu g 1 1 9223372036854775807 0=9223372036854775807:=by simp [gu]
 rw [el,eu] at sv;have fb:=freeN_le (m.xs.length+1) base0;obtain ⟨t',ht,_⟩:=wok h (fuel m) 6 _ _ base0 _ _ _ _ hs sv h6 (by unfold fuel;omega) (by
  intro j hj hin;unfold base0 takeT at hj;simp only [Bool.false_or,decide_eq_true_eq] at hj;have er:=hI.rb (j:=(j:Int) - 1) (by omega) (by omega);rw [show (1:Int)+((j:Int) - 1)=(j:Int) by omega] at er;rcases hin with u | ⟨k,v,l,_,_⟩
  ·rw [er] at u;obtain ⟨c',e⟩:=u.hm;rw [h.hm1] at e;cases e
  ·rw [er] at l
   have:=l.kn.symm.trans hI.kn
   omega)
 unfold soundB;rw [e1,e3,ht];simp;omega
end Sd
namespace Sd
structure E0 (g g':Gh):Prop where
 ro:∀ c,g.ro c≠none->g'.ro c=g.ro c/\g'.rb c=g.rb c/\g'.kn c=g.kn c
 hm:∀ b c,g.hm b=some c->g'.hm b=some c
structure Ex (m:Mst) (g:Gh) (m':Mst) (g':Gh):Prop extends E0 g g' where
 pl:∀ D,g.pl D=true->g'.pl D=true/\g'.lt D=g.lt D
 shut:∀ c,g.ro c=some .shut->m.look c≠0->m'.look c≠0
 slot:∀ c,g.ro c=some .slot->m.look c≠0->m'.look c≠0
 stay:∀ c,g.ro c=some .sum∨g.ro c=some .root∨g.ro c=some .out->m.look c≠0->m'.look c=m.look c
 fz:∀ c w,Fz m g c w->Fz m' g' c w
 still:∀ c a d n i,Slot g c a d n i->(∀ lo hi,¬ Iv g' a lo hi)->m'.look c=m.look c
 len:∀ c,m.used c=true->m'.used c=true
 key:∀ c z,g.ro c=some (.key z)->m.look c=z->m'.look c=z
 lt:∀ D gd p o x,IsDc g D gd p o x->g'.lt D=true->g.lt D=true∨(g'.ro gd=some .shut/\m'.look gd≠0)
 dcs:∀ c gd o x,g.ro c=some .slot->kd (m.look c)=5->IsDc g (ad (m.look c)) gd c o x->m'.look c=m.look c∨m'.look (ad (m.look c)+4)≠0
theorem Ex.refl (m:Mst) (g:Gh):Ex m g m g:=
 ⟨⟨fun _ _=>⟨rfl,rfl,rfl⟩,fun _ _ h=>h⟩,fun _ h=>⟨h,rfl⟩,fun _ _ h=>h,fun _ _ h=>h,fun _ _ _=>rfl,fun _ _ h=>h,fun _ _ _ _ _ _ _=>rfl,fun _ h=>h,fun _ _ _ e=>e,fun _ _ _ _ _ _ e=>.inl e,fun _ _ _ _ _ _ _=>.inl rfl⟩
section
variable {m m':Mst} {g g':Gh}
theorem E0.so (h:E0 g g') {c:Int} {r:Ro} (e:g.ro c=some r):g'.ro c=some r:=(h.ro c (by rw [e];exact fun e=>by cases e)).1.trans e
theorem E0.rc (h:E0 g g') {a n:Int} (hr:Rec g a n):Rec g' a n:=⟨hr.1,fun j h0 h1=>by
 obtain ⟨e1,e2,_⟩:=h.ro (a+j) (hr.2 j h0 h1).2;exact ⟨e2.trans (hr.2 j h0 h1).1,by rw [e1];exact (hr.2 j h0 h1).2⟩⟩
theorem E0.kn (h:E0 g g') {a k:Int} {r:Ro} (e:g.kn a=k) (e2:g.ro a=some r):g'.kn a=k:=(h.ro a (by rw [e2];exact fun e=>by cases e)).2.2.trans e
theorem E0.empty (h:E0 g g') {a:Int} (q:IsEmpty g a):IsEmpty g' a:=⟨h.kn q.kn q.c0,h.rc q.rc,h.so q.c0⟩
theorem E0.leaf (h:E0 g g') {a k v:Int} (q:IsLeaf g a k v):IsLeaf g' a k v:=⟨h.kn q.kn q.c0,h.rc q.rc,h.so q.c0,h.so q.c1⟩
theorem E0.inner (h:E0 g g') {a d n:Int} (q:IsInner g a d n):IsInner g' a d n:=
 ⟨h.kn q.kn q.c0,h.rc q.rc,q.pos,h.so q.c0,h.so q.c1,h.so q.c2,h.so q.c3,h.so q.c4,fun i h1 h2=>by obtain ⟨z,e⟩:=q.ck i h1 h2;exact ⟨z,h.so e⟩,fun i h1 h2=>h.so (q.cs i h1 h2)⟩
theorem E0.reb (h:E0 g g') {a t gd p:Int} (q:IsReb g a t gd p):IsReb g' a t gd p:=⟨h.kn q.kn q.c0,h.rc q.rc,h.so q.c0,h.so q.c1,h.so q.c2,h.so q.c3,h.so q.c4⟩
theorem E0.dc (h:E0 g g') {a gd p o x:Int} (q:IsDc g a gd p o x):IsDc g' a gd p o x:=⟨h.kn q.kn q.c0,h.rc q.rc,h.so q.c0,h.so q.c1,h.so q.c2,h.so q.c3,h.so q.c4⟩
theorem E0.sl (h:E0 g g') {c a d n i:Int} (q:Slot g c a d n i):Slot g' c a d n i:=⟨h.inner q.1,q.2⟩
theorem E0.gk (h:E0 g g') {a d n i:Int} (q:IsInner g a d n) (h1:1<=i) (h2:i < d):gk g' a i=gk g a i:=by
 obtain ⟨z,e⟩:=q.ck i h1 h2;unfold Sd.gk;rw [e,h.so e]
theorem E0.gl (h:E0 g g') {a d n lo i:Int} (q:IsInner g a d n) (h1:0<=i) (h2:i < d):gl g' a lo i=gl g a lo i:=by
 unfold Sd.gl
 split
 ·rfl
 ·exact h.gk q (by omega) h2
theorem E0.gu (h:E0 g g') {a d n hi i:Int} (q:IsInner g a d n) (h1:0<=i):gu g' a d hi i=gu g a d hi i:=by
 unfold Sd.gu
 split
 ·rw [h.gk q (by omega) (by omega)]
 ·rfl
theorem E0.iv (h:E0 g g') {a lo hi:Int} (q:Iv g a lo hi):Iv g' a lo hi:=by
 induction q with
 | top h1=>exact Iv.top (h.inner h1)
 | sub h1 h2 h3 h4 hb e ih=>
  rw [<- h.gl h2 h3 h4,<- h.gu h2 h3];exact Iv.sub ih (h.inner h2) h3 h4 hb (h.hm _ _ e)
theorem E0.siv (h:E0 g g') {c lo hi:Int} (q:SIv g c lo hi):SIv g' c lo hi:=by
 obtain ⟨a,d,n,l,u,i,h1,h2,h3,h4,e,rfl,rfl⟩:=q;exact ⟨a,d,n,l,u,i,h.iv h1,h.inner h2,h3,h4,e,(h.gl h2 h3 h4).symm,(h.gu h2 h3).symm⟩
theorem E0.back (h:E0 g g') {c lo hi:Int} (hc:∃ l u,SIv g c l u) (q:SIv g' c lo hi):SIv g c lo hi:=by
 obtain ⟨l,u,e⟩:=hc;obtain ⟨rfl,rfl⟩:=(h.siv e).fn q;exact e
theorem At.siv {gd p:Int} (h:At g gd p):∃ l u,SIv g p l u:=by
 obtain ⟨a,d,n,i,lo,hi,h1,_,h3⟩:=h;exact ⟨_,_,h1.siv h3⟩
theorem E0.at (h:E0 g g') {gd p:Int} (q:At g gd p):At g' gd p:=by
 obtain ⟨a,d,n,i,lo,hi,h1,h2,h3⟩:=q;exact ⟨a,d,n,i,lo,hi,h.sl h1,h2,h.iv h3⟩
theorem Ex.compl (h:Ex m g m' g') {a d n:Int} (q:IsInner g a d n) (hc:Compl m g a):Compl m' g' a:=by
 intro d' n' i q' h0 h1;obtain ⟨rfl,rfl⟩:=(h.inner q).deg q';exact h.slot _ (q.cs i h0 h1) (hc d n i q h0 h1)
theorem Ex.okI (h:Ex m g m' g') {c w:Int} (q:OkI m g c w):OkI m' g' c w:=by
 obtain ⟨k,d,n,h1,h2,h3,h4,h5⟩:=q;exact ⟨k,d,n,h.inner h1,h2,h3,h.hm _ _ h4,h.compl h1 h5⟩
theorem Ex.okW (h:Ex m g m' g') {c w:Int} (hc:∀ lo hi,SIv g' c lo hi->SIv g c lo hi) (q:OkW m g c w):OkW m' g' c w:=by
 rcases q with ⟨k,h1,h2⟩ | ⟨k,a,v,h1,h2⟩ | q | ⟨k,t,gd,h1,h2,h3⟩
 ·exact .inl ⟨k,h.empty h1,h.hm _ _ h2⟩
 ·exact .inr (.inl ⟨k,a,v,h.leaf h1,fun lo hi e=>h2 lo hi (hc lo hi e)⟩)
 ·exact .inr (.inr (.inl (h.okI q)))
 ·exact .inr (.inr (.inr ⟨k,t,gd,h.reb h1,h.hm _ _ h2,h.okI h3⟩))
theorem Ex.fs (h:Ex m g m' g') {F F':Int->Ps->Prop} (hF:∀ a ps,F a ps->F' a ps) (hi:∀ a ps,F a ps->∃ d n,IsInner g a d n) {c:Int} {ps:Ps} (q:FS m g F c ps):FS m' g' F' c ps:=by
 have hs:∀ a,F a ps->m.look (a+4)=ps.length+1->m'.look (a+4)=ps.length+1:=fun a e1 e2=>by
  obtain ⟨d,n,hI⟩:=hi a ps e1;rw [h.stay _ (.inl hI.c4) (by omega),e2]
 obtain ⟨w,h1,h2⟩:=q;refine ⟨w,h.fz c w h1,?_⟩;rcases h2 with ⟨k,e⟩ | ⟨k,a,v,e1,e2⟩ | ⟨k,e1,e2⟩ | ⟨k,t,gd,p,e0,e1,e2⟩
 ·exact .inl ⟨k,e⟩
 ·exact .inr (.inl ⟨k,a,v,h.leaf e1,e2⟩)
 ·exact .inr (.inr (.inl ⟨k,hF _ _ e1,hs _ e1 e2⟩))
 ·exact .inr (.inr (.inr ⟨k,t,gd,p,h.reb e0,hF _ _ e1,hs _ e1 e2⟩))
theorem FTf.inner:∀ {f:Nat} {a:Int} {ps:Ps},FTf m g f a ps->∃ d n,IsInner g a d n
 | 0,_,_,h=>h.elim
 | _+1,_,_,⟨d,n,_,h,_⟩=>⟨d,n,h⟩
theorem Ex.ftf (h:Ex m g m' g'):∀ (f:Nat) (a:Int) (ps:Ps),FTf m g f a ps->FTf m' g' f a ps
 | 0,_,_,q=>q.elim
 | f+1,_,_,⟨d,n,q,h1,h2,h3,h4⟩=>⟨d,n,q,h.inner h1,h.shut _ h1.c2 h2,fun i hi=>h.fs (h.ftf f) (fun _ _ e=>FTf.inner e) (h3 i hi),h4⟩
theorem Ex.ft (h:Ex m g m' g') {a:Int} {ps:Ps} (q:FT m g a ps):FT m' g' a ps:=by
 obtain ⟨f,q⟩:=q;exact ⟨f,h.ftf f a ps q⟩
theorem Ex.dcOk (h:Ex m g m' g') {D:Int} (hp:g'.pl D=true->g.pl D=true∨∃ gd p o x,IsDc g D gd p o x/\OkW m' g' p o) (q:DcOk m g D):DcOk m' g' D:=by
 obtain ⟨gd,p,o,x,h1,h2,h3,h4,h5⟩:=q;refine ⟨gd,p,o,x,h.dc h1,fun e=>?_,h.okW (fun _ _ e=>h.back h4.siv e) h3,h.at h4,fun e=>?_⟩
 ·rcases hp e with e | ⟨_,_,_,_,e1,e2⟩
  ·exact h.okW (fun _ _ e=>h.back h4.siv e) (h2 e)
  ·obtain ⟨rfl,rfl,rfl,rfl⟩:=h1.fn e1;exact e2
 rcases h.lt D gd p o x h1 e with e | ⟨_,e⟩
 ·obtain ⟨a,d,n,i,lo,hi,q1,q2,_⟩:=h4;exact h.shut gd (by rw [q2];exact q1.1.c2) (h5 e)
 ·exact e
theorem Ex.rbOk (h:Ex m g m' g') {r:Int} (q:RbOk m g r):RbOk m' g' r:=by
 obtain ⟨t,gd,p,h1,h2,h3⟩:=q;exact ⟨t,gd,p,h.reb h1,h.okI h2,h.at h3⟩
theorem Ex.rtOk (h:Ex m g m' g') {r w:Int} (hr:RbOk m g r) (q:RtOk m g r w):RtOk m' g' r w:=by
 obtain ⟨t,gd,p,ps,h1,h2,h3⟩:=q;obtain ⟨t',gd',p',h1',_,h3'⟩:=hr;obtain ⟨rfl,rfl,rfl⟩:=h1.fn h1';refine ⟨t,gd,p,ps,h.reb h1,h.ft h2,?_⟩;rcases h3 with ⟨e1,e2,e3⟩ | ⟨e1,e2,e3,e4,d,e5,e6,e7,e8⟩
 ·exact .inl ⟨e1,h.okW (fun _ _ e=>h.back h3'.siv e) e2,e3⟩
 ·exact .inr ⟨e1,e2,e3,h.hm _ _ e4,d,h.inner e5,e6,e7,fun i a b=>by rw [h.gk e5 a b];exact e8 i a b⟩
theorem Ex.cok (h:Ex m g m' g') {c:Int} (hu:g.ro c≠none) (e:m'.look c=m.look c) (hc:g.ro c=some .slot->∀ lo hi,SIv g' c lo hi->SIv g c lo hi) (hp:g'.pl (g.rb c)=true->g.pl (g.rb c)=true∨∃ gd p o x,IsDc g (g.rb c) gd p o x/\OkW m' g' p o) (q:COk m g c):COk m' g' c:=by
 obtain ⟨r1,r2,_⟩:=h.ro c hu;unfold COk at q ⊢;rw [r1,e];cases er:g.ro c with
 | none=>exact absurd er hu
 | some r=>
  rw [er] at q;cases r with
  | fix z=>exact q
  | key z=>exact q
  | shut=>
   simp only at q ⊢;rw [r2];rcases q with q | ⟨q1,q2,d,n,q3,q4⟩
   ·exact .inl q
   ·exact .inr ⟨q1,q2,d,n,h.inner q3,h.compl q3 q4⟩
  | chg=>trivial
  | cnt=>trivial
  | sum=>
   simp only at q ⊢;rw [r2];rcases q with q | ⟨ps,q1,q2⟩
   ·exact .inl q
   ·exact .inr ⟨ps,h.ft q1,q2⟩
  | slot=>
   simp only at q ⊢;rcases q with q | q | ⟨q1,q2,gd,o,x,q3⟩
   ·exact .inl q
   ·exact .inr (.inl (h.okW (hc er) q))
   ·exact .inr (.inr ⟨q1,(h.pl _ q2).1,gd,o,x,h.dc q3⟩)
  | root=>
   simp only at q ⊢;rw [r2];refine ⟨h.rbOk q.1,?_⟩;rcases q.2 with q2 | q2
   ·exact .inl q2
   ·exact .inr (h.rtOk q.1 q2)
  | out=>
   simp only at q ⊢;rw [r2];obtain ⟨q1,q2,q3⟩:=q;refine ⟨h.dcOk hp q1,?_,?_⟩
   ·rcases q2 with q2 | ⟨q2,q4⟩
    ·exact .inl q2
    ·exact .inr ⟨q2,(h.pl _ q4).1⟩
   ·intro hl;rcases q2 with q2 | ⟨_,q4⟩
    ·rw [q2];decide
    ·exact q3 ((h.pl _ q4).2.symm.trans hl)
end
theorem Ex.trans {m m' m'':Mst} {g g' g'':Gh} (h:Ex m g m' g') (h':Ex m' g' m'' g''):Ex m g m'' g'':=by
 have rr:∀ c,g.ro c≠none->g'.ro c≠none:=fun c hc=>by rw [(h.ro c hc).1];exact hc
 have rs':∀ {c r},g'.ro c=some r->g''.ro c=some r:=fun {c r} e=>(h'.ro c (by rw [e];exact fun e=>by cases e)).1.trans e;have rs:∀ {c r},g.ro c=some r->g'.ro c=some r:=fun {c r} e=>(h.ro c (by rw [e];exact fun e=>by cases e)).1.trans e;refine ⟨⟨fun c hc=>?_,fun b c e=>h'.hm b c (h.hm b c e)⟩,fun D e=>?_,fun c e q=>h'.shut c (rs e) (h.shut c e q),fun c e q=>h'.slot c (rs e) (h.slot c e q),fun c e q=>?_,fun c w e=>h'.fz c w (h.fz c w e),fun c a d n i hs hn=>?_,fun c e=>h'.len c (h.len c e),fun c z e q=>h'.key c z (rs e) (h.key c z e q),fun D gd p o x hD e=>?_,fun c gd o x r k hD=>?_⟩
 ·obtain ⟨a1,a2,a3⟩:=h.ro c hc;obtain ⟨b1,b2,b3⟩:=h'.ro c (rr c hc);exact ⟨b1.trans a1,b2.trans a2,b3.trans a3⟩
 ·obtain ⟨a1,a2⟩:=h.pl D e;obtain ⟨b1,b2⟩:=h'.pl D a1;exact ⟨b1,b2.trans a2⟩
 ·have e1:=h.stay c e q;rw [h'.stay c (by rcases e with e | e | e;exact .inl (rs e);exact .inr (.inl (rs e));exact .inr (.inr (rs e))) (by rw [e1];exact q),e1]
 ·rw [h'.still c a d n i (h.sl hs) hn,h.still c a d n i hs (fun lo hi e=>hn lo hi (h'.iv e))]
 ·rcases h'.lt D gd p o x (h.dc hD) e with e | e
  ·rcases h.lt D gd p o x hD e with e | ⟨e1,e2⟩
   ·exact .inl e
   ·exact .inr ⟨rs' e1,h'.shut gd e1 e2⟩
  ·exact .inr e
 ·rcases h.dcs c gd o x r k hD with e | e
  ·rcases h'.dcs c gd o x (rs r) (by rw [e];exact k) (by rw [e];exact h.dc hD) with e2 | e2
   ·exact .inl (e2.trans e)
   ·rw [e] at e2;exact .inr e2
  ·refine .inr ?_;rw [h'.stay _ (.inr (.inr (rs hD.c4))) e];exact e
end Sd
namespace Sd
structure Put1 (m m':Mst) (c0 x:Int):Prop where
 look:∀ c,m'.look c=if c=c0 then x else m.look c
 used:∀ c,m'.used c=m.used c
 ok:m'.ok
 size:m'.size=m.size
 len:m'.xs.length=m.xs.length
theorem look_set {s:Mst} {a x:Int} (hu:s.used a=true) (c:Int):(s.write a x).look c=if c=a then x else s.look c:=by
 obtain ⟨j,rfl,hj⟩:=Mst.used_nat hu;rw [Mst.write_in hj]
 by_cases hc:s.used c=true
 ·obtain ⟨i,rfl,hi⟩:=Mst.used_nat hc
  by_cases e:i=j
  ·subst e;rw [if_pos rfl];exact Mst.look_succ (by simp [hi])
  ·rw [if_neg (by omega)];have h1:s.look ((i:Int)+1)=s.xs[i]:=Mst.look_succ (List.getElem?_eq_getElem hi);rw [h1];refine Mst.look_succ ?_;show (s.xs.set j x)[i]? = _;rw [List.getElem?_set_ne (by omega),List.getElem?_eq_getElem hi]
 ·have h1:s.used c=false:=by simpa using hc
  have h2:Mst.used { s with count:=wrap64 (s.count+1),xs:=s.xs.set j x } c=false:=by
   unfold Mst.used at h1 ⊢;simpa using h1
  rw [Mst.look_none h1,Mst.look_none h2,if_neg];rintro rfl;rw [hu] at h1;cases h1
theorem len_set (s:Mst) (a x:Int):(s.write a x).xs.length=s.xs.length:=by
 unfold Mst.write Mst.put
 split
 ·simp [Mst.touch_xs]
 ·rw [Mst.touch_xs]
theorem used_set (s:Mst) (a x c:Int):(s.write a x).used c=s.used c:=by
 unfold Mst.used;rw [len_set s a x]
theorem size_touch (s:Mst) (a:Int):(s.touch a).size=s.size:=by unfold Mst.touch;split <;> rfl
theorem size_set (s:Mst) (a x:Int):(s.write a x).size=s.size:=by
 unfold Mst.write Mst.put
 split
 ·exact size_touch s a
 ·exact size_touch s a
theorem write_put {s:Mst} (h:s.ok) {a x:Int} (hu:s.used a=true) (hx:I64 x):Put1 s (s.write a x) a x:=by
 refine ⟨look_set hu,used_set s a x,?_,size_set s a x,len_set s a x⟩;obtain ⟨j,rfl,hj⟩:=Mst.used_nat hu;rw [Mst.write_in hj];refine ⟨fun z hz=>?_,by simpa using h.2⟩;rcases List.mem_or_eq_of_mem_set hz with hz | rfl
 ·exact h.1 z hz
 ·exact hx
variable {m m':Mst} {g:Gh} {c0 x:Int}
theorem Put1.ne (hp:Put1 m m' c0 x) {c:Int} (h:c≠c0):m'.look c=m.look c:=by rw [hp.look,if_neg h]
theorem Put1.eq (hp:Put1 m m' c0 x):m'.look c0=x:=by rw [hp.look,if_pos rfl]
theorem Put1.ex (hp:Put1 m m' c0 x) (h1:g.ro c0=some .shut->x≠0) (h2:g.ro c0=some .sum∨g.ro c0=some .root∨g.ro c0=some .out->m.look c0≠0->x=m.look c0)
  (h3:g.ro c0=some .slot->x≠0/\(∀ a d n i,Slot g c0 a d n i->∃ lo hi,Iv g a lo hi)/\(∀ w,Fz m g c0 w->Fz m' g c0 w)/\∀ gd o y,kd (m.look c0)=5->IsDc g (ad (m.look c0)) gd c0 o y->m'.look (ad (m.look c0)+4)≠0) (h4:∀ z,g.ro c0=some (.key z)->x=z):Ex m g m' g:=by
 refine ⟨⟨fun _ _=>⟨rfl,rfl,rfl⟩,fun _ _ e=>e⟩,fun _ e=>⟨e,rfl⟩,fun c e q=>?_,fun c e q=>?_,fun c e q=>?_,fun c w q=>?_,fun c a d n i hs hn=>?_,fun c e=>by rw [hp.used];exact e,fun c z e q=>?_,fun _ _ _ _ _ _ e=>.inl e,fun c gd o y r k hD=>?_⟩
 ·by_cases ec:c=c0
  ·rw [ec,hp.eq];exact h1 (ec ▸ e)
  ·rw [hp.ne ec];exact q
 ·by_cases ec:c=c0
  ·rw [ec,hp.eq];exact (h3 (ec ▸ e)).1
  ·rw [hp.ne ec];exact q
 ·by_cases ec:c=c0
  ·rw [ec,hp.eq];exact h2 (ec ▸ e) (ec ▸ q)
  ·exact hp.ne ec
 ·by_cases ec:c=c0
  ·have hs:g.ro c0=some .slot:=by
    obtain ⟨a,d,n,i,hs,_⟩:=q;rw [<- ec];exact hs.ro
   rw [ec] at q ⊢;exact (h3 hs).2.2.1 w q
  ·obtain ⟨a,d,n,i,hs,q1,q2,q3,q4⟩:=q;refine ⟨a,d,n,i,hs,?_,q2,q3,by rw [hp.ne ec];exact q4⟩
   by_cases e2:a+2=c0
   ·rw [e2,hp.eq];exact h1 (e2 ▸ hs.1.c2)
   ·rw [hp.ne e2];exact q1
 ·by_cases ec:c=c0
  ·rw [ec] at hs;obtain ⟨lo,hi,e⟩:=(h3 hs.ro).2.1 a d n i hs;exact absurd e (hn lo hi)
  ·exact hp.ne ec
 ·by_cases ec:c=c0
  ·rw [ec,hp.eq];exact h4 z (ec ▸ e)
  ·rw [hp.ne ec];exact q
 ·by_cases ec:c=c0
  ·subst ec;exact .inr ((h3 r).2.2.2 gd o y k hD)
  ·exact .inl (hp.ne ec)
theorem Inv.put (h:Inv m g) (hp:Put1 m m' c0 x) (hE:Ex m g m' g) (hc:COk m' g c0)
  (hk:∀ a d n i,IsInner g a d n->1<=i->i < d->m'.look (a+4+d+i)≠0->m'.look (a+4+i)=gk g a i):Inv m' g:=by
 refine ⟨hp.ok,by rw [hp.size,hp.len];exact h.sz,fun c=>by rw [hp.used];exact h.used c,fun c=>?_,⟨h.top.1,?_⟩,h.keys,hk,fun b c e=>?_,h.hm1,h.hml,h.hmu,h.late,h.plw⟩
 ·by_cases ec:c=c0
  ·rw [ec];exact hc
  ·by_cases hu:g.ro c=none
   ·unfold COk;rw [hu];trivial
   ·exact hE.cok hu (hp.ne ec) (fun _ _ _ e=>e) .inl (h.cell c)
 ·have hs:Slot g 6 1 1 0 0:=⟨h.top.1,by omega,by omega,rfl⟩;exact hE.slot 6 hs.ro h.top.2
 ·obtain ⟨a,d,n,i,hs,q⟩:=h.home b c e;refine ⟨a,d,n,i,hs,?_⟩;rcases q with q | q
  ·exact .inl q
  ·by_cases hr:∃ lo hi,Iv g a lo hi
   ·exact .inl hr
   ·exact .inr (by rw [hE.still c a d n i hs (fun lo hi e=>hr ⟨lo,hi,e⟩)];exact q)
theorem Inv.put_plain (h:Inv m g) (hp:Put1 m m' c0 x) (hs:g.ro c0≠some .slot) (hk:∀ z,g.ro c0≠some (.key z)) (h1:g.ro c0=some .shut->x≠0) (h2:g.ro c0=some .sum∨g.ro c0=some .root∨g.ro c0=some .out->m.look c0≠0->x=m.look c0) (hc:Ex m g m' g->COk m' g c0):Inv m' g/\Ex m g m' g:=by
 have hE:=hp.ex (g:=g) h1 h2 (fun e=>absurd e hs) (fun z e=>absurd e (hk z));refine ⟨h.put hp hE (hc hE) (fun a d n i hI a1 a2 q=>?_),hE⟩;have e1:a+4+d+i≠c0:=fun e=>hs (e ▸ hI.cs i (by omega) a2);have e2:a+4+i≠c0:=fun e=>by obtain ⟨z,ez⟩:=hI.ck i a1 a2;exact hk z (e ▸ ez)
 rw [hp.ne e1] at q;rw [hp.ne e2];exact h.kin a d n i hI a1 a2 q
theorem Fz.fn {c w w':Int} (h:Fz m g c w) (h':Fz m g c w'):w=w':=by
 obtain ⟨_,_,_,_,_,_,_,k,q⟩:=h;obtain ⟨_,_,_,_,_,_,_,k',q'⟩:=h';rcases q with q | ⟨q,_,_,gd,x,hD⟩
 ·rcases q' with q' | ⟨q',_⟩
  ·exact q.symm.trans q'
  ·rw [q] at q';exact absurd q' k
 ·rcases q' with q' | ⟨_,_,_,gd',x',hD'⟩
  ·rw [q'] at q;exact absurd q k'
  ·exact (hD.fn hD').2.2.1
theorem FTf.fn:∀ {f f':Nat} {a:Int} {ps ps':Ps},FTf m g f a ps->FTf m g f' a ps'->ps=ps'
 | 0,_,_,_,_,h,_=>h.elim
 | _+1,0,_,_,_,_,h=>h.elim
 | f+1,f' + 1,a,ps,ps',⟨d,n,q,hI,_,hq,e⟩,⟨d',n',q',hI',_,hq',e'⟩=>by
  obtain ⟨rfl,rfl⟩:=hI.deg hI';rw [e,e']
  suffices hh:∀ i:Nat,(i:Int) < d->q i=q' i by
   have:∀ l:List Nat,(∀ i ∈ l,(i:Int) < d)->l.flatMap q=l.flatMap q':=by
    intro l
    induction l with
    | nil=>intro _;rfl
    | cons i l ih=>
     intro hl;rw [List.flatMap_cons,List.flatMap_cons,hh i (hl i (by simp)),ih (fun j hj=>hl j (by simp [hj]))]
   exact this (List.range d.toNat) (fun i hi=>by have:=List.mem_range.1 hi;omega)
  intro i hi;obtain ⟨w,z,hw⟩:=hq i hi;obtain ⟨w',z',hw'⟩:=hq' i hi;obtain rfl:=z.fn z';rcases hw with ⟨k,e1⟩ | ⟨k,u,v,hl,e1⟩ | ⟨k,e1,_⟩ | ⟨k,t,gd,p,hR,e1,_⟩
  ·rcases hw' with ⟨k',e2⟩ | ⟨k',_⟩ | ⟨k',_⟩ | ⟨k',_⟩
   ·rw [e1,e2]
   all_goals omega
  ·rcases hw' with ⟨k',_⟩ | ⟨k',u',v',hl',e2⟩ | ⟨k',_⟩ | ⟨k',_⟩
   ·omega
   ·have a1:=hl.c0.symm.trans hl'.c0;have a2:=hl.c1.symm.trans hl'.c1;cases a1;cases a2;rw [e1,e2]
   all_goals omega
  ·rcases hw' with ⟨k',_⟩ | ⟨k',_⟩ | ⟨k',e2,_⟩ | ⟨k',_⟩
   ·omega
   ·omega
   ·exact FTf.fn e1 e2
   ·omega
  ·rcases hw' with ⟨k',_⟩ | ⟨k',_⟩ | ⟨k',_⟩ | ⟨k',t',gd',p',hR',e2,_⟩
   ·omega
   ·omega
   ·omega
   ·obtain ⟨rfl,_⟩:=hR.fn hR';exact FTf.fn e1 e2
theorem FT.fn {a:Int} {ps ps':Ps} (h:FT m g a ps) (h':FT m g a ps'):ps=ps':=by
 obtain ⟨f,h⟩:=h;obtain ⟨f',h'⟩:=h';exact h.fn h'
theorem step_shut (h:Inv m g) {a d n:Int} (hI:IsInner g a d n) (ha:a≠1) (hc:Compl m g a) (hp:Put1 m m' (a+2) 1):Inv m' g/\Ex m g m' g:=by
 have r:=hI.c2;refine h.put_plain hp (by rw [r];exact fun e=>by cases e) (fun z=>by rw [r];exact fun e=>by cases e) (fun _=>by decide) (fun e=>by rw [r] at e;rcases e with e | e | e <;> cases e) (fun hE=>?_);unfold COk;rw [r];refine .inr ⟨hp.eq,?_,d,n,?_,?_⟩
 ·rw [hI.rb (j:=2) (by omega) (by have:=hI.pos;omega)];exact ha
 ·rw [hI.rb (j:=2) (by omega) (by have:=hI.pos;omega)];exact hI
 ·rw [hI.rb (j:=2) (by omega) (by have:=hI.pos;omega)];exact hE.compl hI hc
theorem step_sum (h:Inv m g) {a d n:Int} (hI:IsInner g a d n) {ps:Ps} (hF:FT m g a ps) (hp:Put1 m m' (a+4) (ps.length+1)):Inv m' g/\Ex m g m' g:=by
 have r:=hI.c4;have er:g.rb (a+4)=a:=hI.rb (j:=4) (by omega) (by have:=hI.pos;omega);refine h.put_plain hp (by rw [r];exact fun e=>by cases e) (fun z=>by rw [r];exact fun e=>by cases e) (fun e=>by rw [r] at e;cases e) (fun _ q=>?_) (fun hE=>?_)
 ·have e:=h.cell (a+4);unfold COk at e;rw [r,er] at e;rcases e with e | ⟨ps',e1,e2⟩
  ·exact absurd e q
  ·rw [e2,hF.fn e1]
 ·unfold COk;rw [r,er];exact .inr ⟨ps,hE.ft hF,hp.eq⟩
theorem step_count (h:Inv m g) {c:Int} (r:g.ro c=some .chg∨g.ro c=some .cnt) (hp:Put1 m m' c x):Inv m' g/\Ex m g m' g:=by
 refine h.put_plain hp (fun e=>by rcases r with r | r <;> (rw [r] at e;cases e)) (fun z e=>by rcases r with r | r <;> (rw [r] at e;cases e)) (fun e=>by rcases r with r | r <;> (rw [r] at e;cases e)) (fun e=>by rcases r with r | r <;> (rw [r] at e;rcases e with e | e | e <;> cases e)) (fun hE=>?_);unfold COk;rcases r with r | r <;> (rw [r];trivial)
theorem step_out (h:Inv m g) {D gd p o y:Int} (hD:IsDc g D gd p o y) (hpl:g.pl D=true) (h0:m.look (D+4)=0) (hx:x=1/\g.lt D=false∨x=2) (hp:Put1 m m' (D+4) x):Inv m' g/\Ex m g m' g:=by
 have r:=hD.c4;have er:g.rb (D+4)=D:=(hD.rc.2 4 (by omega) (by omega)).1;refine h.put_plain hp (by rw [r];exact fun e=>by cases e) (fun z=>by rw [r];exact fun e=>by cases e) (fun e=>by rw [r] at e;cases e) (fun _ q=>absurd h0 q) (fun hE=>?_);have e:=h.cell (D+4);unfold COk at e ⊢;rw [r,er] at e;rw [r,er];simp only at e ⊢;rw [hp.eq];refine ⟨hE.dcOk .inl e.1,.inr ⟨by omega,hpl⟩,fun hl=>?_⟩;rcases hx with ⟨_,e2⟩ | e2
 ·rw [hl] at e2;cases e2
 ·omega
theorem step_root (h:Inv m g) {b t gd p:Int} (hR:IsReb g b t gd p) (h0:m.look (b+3)=0) (hw:RtOk m g b x) (hp:Put1 m m' (b+3) x):Inv m' g/\Ex m g m' g:=by
 have r:=hR.c3;have er:g.rb (b+3)=b:=(hR.rc.2 3 (by omega) (by omega)).1;refine h.put_plain hp (by rw [r];exact fun e=>by cases e) (fun z=>by rw [r];exact fun e=>by cases e) (fun e=>by rw [r] at e;cases e) (fun _ q=>absurd h0 q) (fun hE=>?_);have e:=h.cell (b+3);unfold COk at e ⊢;rw [r,er] at e;rw [r,er];simp only at e ⊢;rw [hp.eq];exact ⟨hE.rbOk e.1,.inr (hE.rtOk e.1 hw)⟩
theorem step_key (h:Inv m g) {a d n i:Int} (hI:IsInner g a d n) (h1:1<=i) (h2:i < d) (hp:Put1 m m' (a+4+i) (gk g a i)):Inv m' g/\Ex m g m' g:=by
 obtain ⟨z,r⟩:=hI.ck i h1 h2;have ez:gk g a i=z:=by unfold gk;rw [r]
 rw [ez] at hp;have hE:=hp.ex (g:=g) (fun e=>by rw [r] at e;cases e) (fun e=>by rw [r] at e;rcases e with e | e | e <;> cases e) (fun e=>by rw [r] at e;cases e) (fun z' e=>by rw [r] at e;cases e;rfl);refine ⟨h.put hp hE ?_ (fun a' d' n' i' hI' q1 q2 q=>?_),hE⟩
 ·unfold COk;rw [r];exact .inr hp.eq
 ·have e1:a' + 4+d' + i'≠a+4+i:=fun e=>by have:=hI'.cs i' (by omega) q2;rw [e,r] at this;cases this
  rw [hp.ne e1] at q;have hk:=h.kin a' d' n' i' hI' q1 q2 q
  by_cases e2:a' + 4+i'=a+4+i
  ·rw [e2,hp.eq];unfold gk;rw [e2,r]
  ·rw [hp.ne e2];exact hk
theorem step_slot (h:Inv m g) {c a d n i lo hi:Int} (hs:Slot g c a d n i) (hv:Iv g a lo hi) (hx:x≠0) (hfz:∀ w,Fz m g c w->Fz m' g c w) (hk:1<=i->m.look (a+4+i)=gk g a i) (hp:Put1 m m' c x) (hds:∀ gd o y,kd (m.look c)=5->IsDc g (ad (m.look c)) gd c o y->m'.look (ad (m.look c)+4)≠0) (hc:Ex m g m' g->OkW m' g c x∨(kd x=5/\g.pl (ad x)=true/\∃ gd o y,IsDc g (ad x) gd c o y)):Inv m' g/\Ex m g m' g:=by
 have r:=hs.ro;have hE:=hp.ex (g:=g) (fun e=>by rw [r] at e;cases e) (fun e=>by rw [r] at e;rcases e with e | e | e <;> cases e) (fun _=>⟨hx,fun a' d' n' i' hs'=>by obtain ⟨rfl,_⟩:=hs.fn hs';exact ⟨lo,hi,hv⟩,hfz,hds⟩) (fun z e=>by rw [r] at e;cases e);refine ⟨h.put hp hE ?_ (fun a' d' n' i' hI' q1 q2 q=>?_),hE⟩
 ·unfold COk;rw [r];simp only;rw [hp.eq];exact .inr (hc hE)
 ·have e2:a' + 4+i'≠c:=fun e=>by obtain ⟨z,ez⟩:=hI'.ck i' q1 q2;rw [e,r] at ez;cases ez
  rw [hp.ne e2]
  by_cases e1:a' + 4+d' + i'=c
  ·obtain ⟨rfl,rfl,rfl,rfl⟩:=Slot.fn (g:=g) (c:=c) ⟨hI',by omega,q2,e1.symm⟩ hs;exact hk q1
  ·rw [hp.ne e1] at q;exact h.kin a' d' n' i' hI' q1 q2 q
end Sd
namespace Sd
variable {m m':Mst} {g:Gh}
def Gh.put (g:Gh) (D:Int) (b:Bool):Gh:={ g with pl:=fun x=>if x=D then true else g.pl x,lt:=fun x=>if x=D then b else g.lt x }
theorem Gh.put_e0 (g:Gh) (D:Int) (b:Bool):E0 g (g.put D b):=⟨fun _ _=>⟨rfl,rfl,rfl⟩,fun _ _ e=>e⟩
theorem Gh.put_e0' (g:Gh) (D:Int) (b:Bool):E0 (g.put D b) g:=⟨fun _ _=>⟨rfl,rfl,rfl⟩,fun _ _ e=>e⟩
theorem step_pl (h:Inv m g) {D gd p o x:Int} (hD:IsDc g D gd p o x) (h0:g.pl D=false) (ho:OkW m g p o) (b:Bool) (hb:b=true->m.look gd≠0):Inv m (g.put D b)/\Ex m g m (g.put D b):=by
 have f:=g.put_e0 D b;have r:=g.put_e0' D b;have hp:∀ E,g.pl E=true->(g.put D b).pl E=true/\(g.put D b).lt E=g.lt E:=fun E e=>by
  have:E≠D:=fun q=>by rw [q,h0] at e;cases e
  exact ⟨by show (if E=D then true else g.pl E)=true;rw [if_neg this];exact e,by show (if E=D then b else g.lt E)=_;rw [if_neg this]⟩
 have hE:Ex m g m (g.put D b):=⟨f,hp,fun _ _ e=>e,fun _ _ e=>e,fun _ _ _=>rfl,fun c w q=>by
  obtain ⟨a,d,n,i,hs,q1,q2,q3,q4⟩:=q;refine ⟨a,d,n,i,f.sl hs,q1,q2,q3,?_⟩;rcases q4 with q4 | ⟨k,p1,p2,gd',x',hD'⟩
  ·exact .inl q4
  ·exact .inr ⟨k,(hp _ p1).1,by rw [(hp _ p1).2];exact p2,gd',x',f.dc hD'⟩,fun _ _ _ _ _ _ _=>rfl,fun _ e=>e,fun _ _ _ e=>e,fun E gd' p' o' x' hE' e=>by
  have e':(if E=D then b else g.lt E)=true:=e
  by_cases ed:E=D
  ·rw [if_pos ed] at e';rw [ed] at hE';obtain ⟨rfl,rfl,rfl,rfl⟩:=hD.fn hE';refine .inr ⟨?_,hb e'⟩;have q:=h.cell (D+4);unfold COk at q;rw [hD.c4,(hD.rc.2 4 (by omega) (by omega)).1] at q;obtain ⟨⟨gd2,p2,o2,x2,q1,_,_,⟨a,d,n,i,lo,hi,q2,q3,_⟩,_⟩,_⟩:=q;obtain ⟨rfl,_⟩:=hD.fn q1;rw [q3];exact q2.1.c2
  ·rw [if_neg ed] at e';exact .inl e',fun _ _ _ _ _ _ _=>.inl rfl⟩
 refine ⟨⟨h.ok,h.sz,h.used,fun c=>?_,⟨f.inner h.top.1,h.top.2⟩,fun a lo hi d n hv hI=>h.keys a lo hi d n (r.iv hv) (r.inner hI),fun a d n i hI=>h.kin a d n i (r.inner hI),fun x c e=>?_,h.hm1,h.hml,h.hmu,fun E e=>?_,fun E e=>?_⟩,hE⟩
 ·by_cases hu:g.ro c=none
  ·unfold COk;rw [show (g.put D b).ro c=g.ro c from rfl,hu];trivial
  ·exact hE.cok hu rfl (fun _ _ _ e=>r.siv e) (fun e=>by
    have e':(if g.rb c=D then true else g.pl (g.rb c))=true:=e
    by_cases ed:g.rb c=D
    ·exact .inr ⟨gd,p,o,x,by rw [ed];exact hD,hE.okW (fun _ _ e=>r.siv e) ho⟩
    ·rw [if_neg ed] at e';exact .inl e') (h.cell c)
 ·obtain ⟨a,d,n,i,hs,q⟩:=h.home x c e;exact ⟨a,d,n,i,f.sl hs,q.imp (fun ⟨lo,hi,e⟩=>⟨lo,hi,f.iv e⟩) id⟩
 ·show (if E=D then true else g.pl E)=true
  split
  ·rfl
  ·rename_i ne;have e':(if E=D then b else g.lt E)=true:=e;rw [if_neg ne] at e';exact h.late E e'
 ·by_cases ed:E=D
  ·exact ⟨gd,p,o,x,f.dc (ed ▸ hD)⟩
  ·have e':(if E=D then true else g.pl E)=true:=e;rw [if_neg ed] at e';obtain ⟨gd',p',o',x',q⟩:=h.plw E e';exact ⟨gd',p',o',x',f.dc q⟩
def PTf (m:Mst) (g:Gh):Nat->Int->Int->Int->Prop
 | 0=>fun _ _ _=>False
 | f+1=>fun b lo hi=>∀ d n,IsInner g b d n->(∀ i,0<=i->i+1 < d->gl g b lo i < gk g b (i+1)/\gk g b (i+1)<=hi)/\
   ∀ i,0<=i->i < d->m.look (b+4+d+i)=0∨(kd (m.look (b+4+d+i))≠5/\
    (∀ k v,IsLeaf g (ad (m.look (b+4+d+i))) k v->gl g b lo i<=k/\k<=gu g b d hi i)/\
    ∀ d' n',IsInner g (ad (m.look (b+4+d+i))) d' n'->PTf m g f (ad (m.look (b+4+d+i))) (gl g b lo i) (gu g b d hi i))
def Gh.link (g:Gh) (b c:Int):Gh:={ g with hm:=fun x=>if x=b then some c else g.hm x }
theorem Gh.link_inner {b c a d n:Int} (h:IsInner (g.link b c) a d n):IsInner g a d n:=⟨h.kn,h.rc,h.pos,h.c0,h.c1,h.c2,h.c3,h.c4,h.ck,h.cs⟩
theorem Gh.link_e0 {b c:Int} (h:g.hm b=none):E0 g (g.link b c):=⟨fun _ _=>⟨rfl,rfl,rfl⟩,fun x c' e=>by
 show (if x=b then some c else g.hm x)=some c';rw [if_neg (fun q=>by rw [q,h] at e;cases e)];exact e⟩
theorem link_iv (h:Inv m g) {b c a d n i l u:Int} (hb:g.hm b=none) (hb1:b≠1) (hs:Slot g c a d n i) (hv:Iv g a l u)
  (hP:∀ d' n',IsInner g b d' n'->∃ f,PTf m g f b (gl g a l i) (gu g a d u i)) {x lo hi:Int} (hx:Iv (g.link b c) x lo hi) :
  Iv g x lo hi∨((∀ lo hi,¬ Iv g x lo hi)/\∀ d' n',IsInner g x d' n'->∃ f,PTf m g f x lo hi):=by
 have f:=Gh.link_e0 (c:=c) hb
 induction hx with
 | top h1=>exact .inl (Iv.top (Gh.link_inner h1))
 | @sub a' l' u' d' n' i' x hv' hI' h3 h4 hx1 e ih=>
  have hI:=Gh.link_inner hI';have hs':Slot g (a' + 4+d' + i') a' d' n' i':=⟨hI,h3,h4,rfl⟩
  by_cases hr:∃ l0 u0,Iv g a' l0 u0
  ·obtain ⟨l0,u0,h0⟩:=hr;obtain ⟨rfl,rfl⟩:=(f.iv h0).fn hv';have e':(if x=b then some c else g.hm x)=some (a' + 4+d' + i'):=e
   by_cases ex:x=b
   ·rw [if_pos ex] at e';have ec:=Option.some.inj e';rw [<- ec] at hs';obtain ⟨rfl,rfl,rfl,rfl⟩:=hs'.fn hs;obtain ⟨rfl,rfl⟩:=h0.fn hv;subst ex;refine .inr ⟨fun lo hi q=>?_,hP⟩;cases q with
    | top _=>exact hb1 rfl
    | sub _ _ _ _ _ e2=>rw [hb] at e2;cases e2
   ·rw [if_neg ex] at e';exact .inl (Iv.sub h0 hI h3 h4 hx1 e')
  ·have e':(if x=b then some c else g.hm x)=some (a' + 4+d' + i'):=e
   by_cases ex:x=b
   ·rw [if_pos ex] at e';have ec:=Option.some.inj e';rw [<- ec] at hs';obtain ⟨rfl,_⟩:=hs'.fn hs;exact absurd ⟨l,u,hv⟩ hr
   ·rw [if_neg ex] at e';have hun:∀ lo hi,¬ Iv g x lo hi:=fun lo hi q=>by
     cases q with
     | top _=>exact hx1 rfl
     | @sub a2 l2 u2 d2 n2 i2 _ q1 q2 q3 q4 _ e2=>
      rw [e'] at e2;have ec:=Option.some.inj e2;obtain ⟨rfl,_⟩:=Slot.fn (g:=g) (c:=a2+4+d2+i2) ⟨q2,q3,q4,rfl⟩ (ec ▸ hs');exact hr ⟨_,_,q1⟩
    refine .inr ⟨hun,fun d2 n2 hI2=>?_⟩;rcases ih with q | ⟨_,q⟩
    ·exact absurd ⟨_,_,q⟩ hr
    ·obtain ⟨fu,q⟩:=q d' n' hI;obtain ⟨a3,d3,n3,i3,hs3,q3⟩:=h.home x _ e';obtain ⟨rfl,rfl,rfl,rfl⟩:=hs3.fn hs';rcases q3 with q3 | q3
     ·exact absurd q3 hr
     ·cases fu with
      | zero=>exact q.elim
      | succ fu=>
       rcases (q _ _ hI).2 _ h3 h4 with q0 | ⟨_,_,q5⟩
       ·rw [q0] at q3
        have:ad 0=0:=by decide
        rw [this] at q3
        have:=hI2.rc.1
        omega
       ·rw [q3] at q5;exact ⟨fu,q5 d2 n2 hI2⟩
theorem step_link (h:Inv m g) {b c a d n i l u:Int} (hb:g.hm b=none) (hb1:b≠1) (hk:g.kn b≠2) (hu:g.ro b≠none) (hs:Slot g c a d n i) (hv:Iv g a l u)
  (hP:∀ d' n',IsInner g b d' n'->∃ f,PTf m g f b (gl g a l i) (gu g a d u i)):Inv m (g.link b c)/\Ex m g m (g.link b c):=by
 have f:=Gh.link_e0 (c:=c) hb;have cl:∀ {x lo hi:Int},Iv (g.link b c) x lo hi->Iv g x lo hi∨((∀ lo hi,¬ Iv g x lo hi)/\∀ d' n',IsInner g x d' n'->∃ f,PTf m g f x lo hi):=fun q=>link_iv h hb hb1 hs hv hP q;have hE:Ex m g m (g.link b c):=⟨f,fun _ e=>⟨e,rfl⟩,fun _ _ e=>e,fun _ _ e=>e,fun _ _ _=>rfl,fun c' w q=>by
  obtain ⟨a',d',n',i',hs',q1,q2,q3,q4⟩:=q;refine ⟨a',d',n',i',f.sl hs',q1,q2,q3,?_⟩;rcases q4 with q4 | ⟨k,p1,p2,gd',x',hD'⟩
  ·exact .inl q4
  ·exact .inr ⟨k,p1,p2,gd',x',f.dc hD'⟩,fun _ _ _ _ _ _ _=>rfl,fun _ e=>e,fun _ _ _ e=>e,fun _ _ _ _ _ _ e=>.inl e,fun _ _ _ _ _ _ _=>.inl rfl⟩
 refine ⟨⟨h.ok,h.sz,h.used,fun c'=>?_,⟨f.inner h.top.1,h.top.2⟩,fun a' lo hi d' n' hv' hI'=>?_,fun a' d' n' i' hI'=>h.kin a' d' n' i' (Gh.link_inner hI'),fun x c' e=>?_,?_,fun x c' e=>?_,fun x c' e=>?_,h.late,fun E e=>?_⟩,hE⟩
 ·by_cases hu':g.ro c'=none
  ·unfold COk;rw [show (g.link b c).ro c'=g.ro c' from rfl,hu'];trivial
  ·by_cases hr:g.ro c'=some .slot/\¬ ∃ lo hi,SIv g c' lo hi
   ·obtain ⟨r,hr⟩:=hr;have q:=h.cell c';unfold COk at q ⊢;rw [show (g.link b c).ro c'=g.ro c' from rfl,r];rw [r] at q;simp only at q ⊢;rcases q with q | q | ⟨q1,q2,gd,o,x,q3⟩
    ·exact .inl q
    ·rcases q with ⟨k,h1,h2⟩ | ⟨k,ky',v,h1,h2⟩ | q | ⟨k,t,gd,h1,h2,h3⟩
     ·exact .inr (.inl (.inl ⟨k,f.empty h1,f.hm _ _ h2⟩))
     ·refine .inr (.inl (.inr (.inl ⟨k,ky',v,f.leaf h1,fun lo hi e=>?_⟩)));obtain ⟨a',d',n',l',u',i',q1,q2,q3,q4,q5,rfl,rfl⟩:=e;have hI:=Gh.link_inner q2;rcases cl q1 with e1 | ⟨_,e1⟩
      ·exact absurd ⟨_,_,Slot.siv ⟨hI,q3,q4,q5⟩ e1⟩ hr
      ·obtain ⟨fu,e1⟩:=e1 _ _ hI;cases fu with
       | zero=>exact e1.elim
       | succ fu=>
        have e2:=(e1 _ _ hI).2 i' q3 q4;rw [<- q5] at e2;rcases e2 with e2 | ⟨_,e2,_⟩
        ·rw [e2] at k;exact absurd k (by decide)
        ·exact e2 _ _ h1
     ·exact .inr (.inl (.inr (.inr (.inl (hE.okI q)))))
     ·exact .inr (.inl (.inr (.inr (.inr ⟨k,t,gd,f.reb h1,f.hm _ _ h2,hE.okI h3⟩))))
    ·exact .inr (.inr ⟨q1,q2,gd,o,x,f.dc q3⟩)
   ·exact hE.cok hu' rfl (fun r lo hi e=>f.back (Classical.byContradiction fun q=>hr ⟨r,q⟩) e) .inl (h.cell c')
 ·have hI:=Gh.link_inner hI';rcases cl hv' with e | ⟨_,e⟩
  ·exact h.keys a' lo hi d' n' e hI
  ·obtain ⟨fu,e⟩:=e _ _ hI;cases fu with
   | zero=>exact e.elim
   | succ fu=>exact (e _ _ hI).1
 ·have e':(if x=b then some c else g.hm x)=some c':=e
  by_cases ex:x=b
  ·rw [if_pos ex] at e';have ec:=Option.some.inj e';rw [<- ec];exact ⟨a,d,n,i,f.sl hs,.inl ⟨l,u,f.iv hv⟩⟩
  ·rw [if_neg ex] at e';obtain ⟨a',d',n',i',hs',q⟩:=h.home x c' e';exact ⟨a',d',n',i',f.sl hs',q.imp (fun ⟨lo,hi,e⟩=>⟨lo,hi,f.iv e⟩) id⟩
 ·show (if (1:Int)=b then some c else g.hm 1)=none;rw [if_neg (fun e=>hb1 e.symm)];exact h.hm1
 ·have e':(if x=b then some c else g.hm x)=some c':=e
  by_cases ex:x=b
  ·rw [ex];exact hk
  ·rw [if_neg ex] at e';exact h.hml x c' e'
 ·have e':(if x=b then some c else g.hm x)=some c':=e
  by_cases ex:x=b
  ·rw [ex];exact hu
  ·rw [if_neg ex] at e';exact h.hmu x c' e'
 ·obtain ⟨gd',p',o',x',q⟩:=h.plw E e;exact ⟨gd',p',o',x',f.dc q⟩
end Sd
namespace Sd
variable {m m':Mst} {g:Gh}
def Gh.add (g:Gh) (A n:Int) (R:Int->Ro) (K:Int) (H:Int->Option Int) (t:Nat):Gh where
 ro:=fun c=>if A<=c/\c < A+n then some (R (c - A)) else g.ro c
 rb:=fun c=>if A<=c/\c < A+n then A else g.rb c
 kn:=fun c=>if A<=c/\c < A+n then K else g.kn c
 hm:=H
 ow:=fun c=>if A<=c/\c < A+n then t else g.ow c
 lt:=g.lt
 pl:=g.pl
structure More (m m':Mst) (ws:List Int):Prop where
 old:∀ c,m.used c=true->m'.look c=m.look c
 new:∀ i:Nat,i < ws.length->m'.look ((m.xs.length:Int)+1+i)=ws.getD i 0
 used:∀ c,m'.used c=true↔m.used c=true∨((m.xs.length:Int)+1<=c/\c < (m.xs.length:Int)+1+ws.length)
 ok:m'.ok
 size:m'.size=m.size
 cap:(m'.xs.length:Int)<=m'.size
theorem more_of {s s':Mst} {ws:List Int} (e:s'.xs=s.xs++ws) (h:s'.ok) (hz:s'.size=s.size) (hc:(s'.xs.length:Int)<=s'.size):More s s' ws:=by
 have hu:∀ c,s'.used c=true↔s.used c=true∨((s.xs.length:Int)+1<=c/\c < (s.xs.length:Int)+1+ws.length):=fun c=>by
  rw [Mst.used_iff,Mst.used_iff,e,List.length_append];omega
 refine ⟨fun c hc=>?_,fun i hi=>?_,hu,h,hz,hc⟩
 ·obtain ⟨j,rfl,hj⟩:=Mst.used_nat hc;have h1:s.look ((j:Int)+1)=s.xs[j]:=Mst.look_succ (List.getElem?_eq_getElem hj);rw [h1];refine Mst.look_succ ?_;rw [e,List.getElem?_append_left hj,List.getElem?_eq_getElem hj]
 ·rw [show (s.xs.length:Int)+1+i=((s.xs.length+i:Nat):Int)+1 by omega];refine Mst.look_succ ?_;rw [e,List.getElem?_append_right (by omega),show s.xs.length+i - s.xs.length=i by omega,List.getElem?_eq_getElem hi,List.getD_eq_getElem?_getD,List.getElem?_eq_getElem hi];rfl
section
variable {A n K:Int} {R:Int->Ro} {H:Int->Option Int} {t:Nat}
theorem Gh.add_in {c:Int} (h1:A<=c) (h2:c < A+n):(g.add A n R K H t).ro c=some (R (c - A))/\(g.add A n R K H t).rb c=A/\(g.add A n R K H t).kn c=K/\(g.add A n R K H t).ow c=t:=by
 unfold Gh.add;simp only;rw [if_pos ⟨h1,h2⟩,if_pos ⟨h1,h2⟩,if_pos ⟨h1,h2⟩,if_pos ⟨h1,h2⟩];exact ⟨rfl,rfl,rfl,rfl⟩
theorem Gh.add_out {c:Int} (h:¬ (A<=c/\c < A+n)):(g.add A n R K H t).ro c=g.ro c/\(g.add A n R K H t).rb c=g.rb c/\(g.add A n R K H t).kn c=g.kn c/\(g.add A n R K H t).ow c=g.ow c:=by
 unfold Gh.add;simp only;rw [if_neg h,if_neg h,if_neg h,if_neg h];exact ⟨rfl,rfl,rfl,rfl⟩
theorem Gh.add_rec (h0:1<=A) {k:Int} (hk:k<=n):Rec (g.add A n R K H t) A k:=⟨h0,fun j h1 h2=>by
 obtain ⟨e1,e2,_⟩:=Gh.add_in (g:=g) (A:=A) (n:=n) (R:=R) (K:=K) (H:=H) (t:=t) (c:=A+j) (by omega) (by omega);exact ⟨e2,by rw [e1];exact fun e=>by cases e⟩⟩
structure Links (m':Mst) (g g':Gh) (A:Int) (H:Int->Option Int):Prop where
 none:H A=none
 keep:∀ b c,g.hm b=some c->H b=some c
 new:∀ b c,H b=some c->g.hm b=some c∨(b≠1/\g.kn b≠2/\g.ro b≠Option.none/\∃ d n i,Slot g' c A d n i/\ad (m'.look c)=b)
theorem Inv.free (h:Inv m g) {ws:List Int} {c:Int} (hc:(m.xs.length:Int)+1<=c/\c < (m.xs.length:Int)+1+ws.length):g.ro c=none:=by
 cases e:g.ro c with
 | none=>rfl
 | some r=>
  have:=h.lt (c:=c) (by rw [e];exact fun e=>by cases e)
  omega
theorem step_add (h:Inv m g) {ws:List Int} (hm:More m m' ws) (hA:A=(m.xs.length:Int)+1) (hn:n=(ws.length:Int)) (hL:Links m' g (g.add A n R K H t) A H)
  (hc:Ex m g m' (g.add A n R K H t)->∀ j,0<=j->j < n->COk m' (g.add A n R K H t) (A+j))
  (hk:∀ d n' i,IsInner (g.add A n R K H t) A d n'->1<=i->i < d->m'.look (A+4+d+i)≠0->m'.look (A+4+i)=gk (g.add A n R K H t) A i) :
  Inv m' (g.add A n R K H t)/\Ex m g m' (g.add A n R K H t):=by
 have used_out:∀ c,g.ro c≠none->¬ (A<=c/\c < A+n):=fun c hc q=>hc (h.free (ws:=ws) ⟨by omega,by omega⟩);have f:E0 g (g.add A n R K H t):=⟨fun c hc=>by
  obtain ⟨e1,e2,e3,_⟩:=Gh.add_out (g:=g) (A:=A) (n:=n) (R:=R) (K:=K) (H:=H) (t:=t) (used_out c hc);exact ⟨e1,e2,e3⟩,hL.keep⟩
 generalize hg:g.add A n R K H t=g' at *;have hlook:∀ c,g.ro c≠none->m'.look c=m.look c:=fun c hc=>hm.old c ((h.used c).1 hc);have so:∀ {c r},g.ro c=some r->m'.look c=m.look c:=fun e=>hlook _ (by rw [e];exact fun e=>by cases e);have hpl:g'.pl=g.pl:=by rw [<- hg];rfl
 have hlt:g'.lt=g.lt:=by rw [<- hg];rfl
 have hhm:g'.hm=H:=by rw [<- hg];rfl
 have out:∀ {c},¬ (A<=c/\c < A+n)->g'.ro c=g.ro c/\g'.rb c=g.rb c/\g'.kn c=g.kn c:=fun {c} q=>by
  obtain ⟨e1,e2,e3,_⟩:=Gh.add_out (g:=g) (A:=A) (n:=n) (R:=R) (K:=K) (H:=H) (t:=t) q;rw [<- hg];exact ⟨e1,e2,e3⟩
 have inn:∀ {c},A<=c->c < A+n->g'.ro c=some (R (c - A))/\g'.rb c=A/\g'.kn c=K:=fun {c} q1 q2=>by
  obtain ⟨e1,e2,e3,_⟩:=Gh.add_in (g:=g) (A:=A) (n:=n) (R:=R) (K:=K) (H:=H) (t:=t) q1 q2;rw [<- hg];exact ⟨e1,e2,e3⟩
 have hE:Ex m g m' g':=⟨f,fun D e=>⟨by rw [hpl];exact e,by rw [hlt]⟩,fun c e q=>by rw [so e];exact q,fun c e q=>by rw [so e];exact q,fun c e _=>by rcases e with e | e | e <;> exact so e,fun c w q=>by
  obtain ⟨a,d,n,i,hs,q1,q2,q3,q4⟩:=q;refine ⟨a,d,n,i,f.sl hs,by rw [so hs.1.c2];exact q1,q2,q3,?_⟩;rw [so hs.ro];rcases q4 with q4 | ⟨k,p1,p2,gd',x',hD'⟩
  ·exact .inl q4
  ·exact .inr ⟨k,by rw [hpl];exact p1,by rw [hlt];exact p2,gd',x',f.dc hD'⟩,fun c a d n i hs _=>so hs.ro,fun c e=>(hm.used c).2 (.inl e),fun c z e q=>by rw [so e];exact q,fun D _ _ _ _ _ e=>.inl (by rw [hlt] at e;exact e),fun _ _ _ _ r _ _=>.inl (so r)⟩
 have oldI:∀ a d n',g.ro a≠none->IsInner g' a d n'->IsInner g a d n':=fun a d n' ha hI=>by
  have hj:∀ j,0<=j->j < 2 * d+4->¬ (A<=a+j/\a+j < A+n):=fun j h1 h2 q=>by
   have e1:=hI.rb h1 h2;rw [(inn q.1 q.2).2.1] at e1;exact used_out a ha ⟨by omega,by have:=q.1;have:=q.2;omega⟩
  have o:=fun j h1 h2=>out (hj j h1 h2);have p:=hI.pos;have e0:=o 0 (by omega) (by omega);rw [Int.add_zero] at e0;exact ⟨e0.2.2.symm.trans hI.kn,⟨hI.rc.1,fun j h1 h2=>by have:=o j h1 h2;rw [<- this.1,<- this.2.1];exact hI.rc.2 j h1 h2⟩,p,e0.1.symm.trans hI.c0,(o 1 (by omega) (by omega)).1.symm.trans hI.c1,(o 2 (by omega) (by omega)).1.symm.trans hI.c2,(o 3 (by omega) (by omega)).1.symm.trans hI.c3,(o 4 (by omega) (by omega)).1.symm.trans hI.c4,
   fun i h1 h2=>by obtain ⟨z,e⟩:=hI.ck i h1 h2;exact ⟨z,by have e3:=(o (4+i) (by omega) (by omega)).1;rw [show a+(4+i)=a+4+i by omega] at e3;exact e3.symm.trans e⟩,
   fun i h1 h2=>by have e3:=(o (4+d+i) (by omega) (by omega)).1;rw [show a+(4+d+i)=a+4+d+i by omega] at e3;exact e3.symm.trans (hI.cs i h1 h2)⟩
 have newA:∀ a d n',g.ro a=none->IsInner g' a d n'->a=A:=fun a d n' ha hI=>by
  by_cases q:A<=a/\a < A+n
  ·have e1:=hI.rb (j:=0) (by omega) (by have:=hI.pos;omega);rw [Int.add_zero,(inn q.1 q.2).2.1] at e1;exact e1.symm
  ·have:=(out q).1.symm.trans hI.c0
   rw [ha] at this;cases this
 have cl:∀ {x lo hi:Int},Iv g' x lo hi->Iv g x lo hi:=fun {x lo hi} hx=>by
  induction hx with
  | top h1=>exact Iv.top h.top.1
  | @sub a' l' u' d' n' i' x hv' hI' h3 h4 hx1 e ih=>
   have ha:g.ro a'≠none:=by
    cases ih with
    | top h1=>rw [h1.c0];exact fun e=>by cases e
    | sub _ _ _ _ _ e2=>exact h.hmu _ _ e2
   have hI:=oldI a' d' n' ha hI';rw [f.gl hI h3 h4,f.gu hI h3];rw [hhm] at e;rcases hL.new _ _ e with e2 | ⟨_,_,_,d2,n2,i2,hs,_⟩
   ·exact Iv.sub ih hI h3 h4 hx1 e2
   ·obtain ⟨rfl,_⟩:=hs.fn (⟨hI',h3,h4,rfl⟩:Slot g' (a' + 4+d' + i') a' d' n' i');exact absurd ha (by rw [h.free (ws:=ws) (c:=A) ⟨by omega,by have:=hI'.pos;have:=hI'.rc;have q:=(hm.used A);have e5:=hI'.c0;by_cases q2:A < A+n;omega;exfalso;have e6:=(out (c:=A) (by omega)).1;rw [e6] at e5;have:=h.lt (c:=A) (by rw [e5];exact fun e=>by cases e);omega⟩];simp)
 refine ⟨⟨hm.ok,⟨by rw [hm.size];exact h.sz.1,hm.cap⟩,fun c=>?_,fun c=>?_,⟨f.inner h.top.1,by rw [so (Slot.ro (g:=g) (c:=6) (a:=1) (d:=1) (n:=0) (i:=0) ⟨h.top.1,by omega,by omega,rfl⟩)];exact h.top.2⟩,fun a lo hi d n' hv hI=>?_,fun a d n' i hI h1 h2 q=>?_,fun x c e=>?_,?_,fun x c e=>?_,fun x c e=>?_,fun D e=>?_,fun D e=>?_⟩,hE⟩
 ·rw [hm.used]
  by_cases q:A<=c/\c < A+n
  ·rw [(inn q.1 q.2).1];exact ⟨fun _=>.inr (by omega),fun _ e=>by cases e⟩
  ·rw [(out q).1,h.used];exact ⟨fun e=>.inl e,fun e=>e.resolve_right (by omega)⟩
 ·by_cases q:A<=c/\c < A+n
  ·have:=hc hE (c - A) (by omega) (by omega)
   rwa [show A+(c - A)=c by omega] at this
  ·by_cases hu:g.ro c=none
   ·unfold COk;rw [(out q).1,hu];trivial
   ·refine hE.cok hu (hlook c hu) (fun _ lo hi e=>?_) (fun e=>.inl (by rw [hpl] at e;exact e)) (h.cell c);obtain ⟨a,d,n',l,u,i,e1,e2,e3,e4,e5,rfl,rfl⟩:=e;have e1':=cl e1;have ha:g.ro a≠none:=by
     cases e1' with
     | top h1=>rw [h1.c0];exact fun e=>by cases e
     | sub _ _ _ _ _ e2=>exact h.hmu _ _ e2
    have hI:=oldI a d n' ha e2;exact ⟨a,d,n',l,u,i,e1',hI,e3,e4,e5,f.gl hI e3 e4,f.gu hI e3⟩
 ·have hv':=cl hv;have ha:g.ro a≠none:=by
   cases hv' with
   | top h1=>rw [h1.c0];exact fun e=>by cases e
   | sub _ _ _ _ _ e2=>exact h.hmu _ _ e2
  have hI':=oldI a d n' ha hI;intro i h1 h2
  have:=h.keys a lo hi d n' hv' hI' i h1 h2
  rw [f.gl hI' h1 (by omega),f.gk hI' (by omega) h2];exact this
 ·by_cases ha:g.ro a=none
  ·obtain rfl:=newA a d n' ha hI;exact hk d n' i hI h1 h2 q
  ·have hI':=oldI a d n' ha hI;obtain ⟨z,ez⟩:=hI'.ck i h1 h2;rw [so (hI'.cs i (by omega) h2)] at q;rw [so ez,f.gk hI' h1 h2];exact h.kin a d n' i hI' h1 h2 q
 ·rw [hhm] at e;rcases hL.new _ _ e with e2 | ⟨_,_,_,d2,n2,i2,hs,e3⟩
  ·obtain ⟨a,d,n',i,hs,q⟩:=h.home x c e2;refine ⟨a,d,n',i,f.sl hs,q.imp (fun ⟨lo,hi,e⟩=>⟨lo,hi,f.iv e⟩) (fun e=>by rw [so hs.ro];exact e)⟩
  ·exact ⟨A,d2,n2,i2,hs,.inr e3⟩
 ·rw [hhm];cases e:H 1 with
  | none=>rfl
  | some c=>
   rcases hL.new _ _ e with e2 | ⟨e2,_⟩
   ·rw [h.hm1] at e2;cases e2
   ·exact absurd rfl e2
 ·rw [hhm] at e;rcases hL.new _ _ e with e2 | ⟨_,e3,e4,_⟩
  ·rw [(f.ro x (h.hmu x c e2)).2.2];exact h.hml x c e2
  ·rw [(f.ro x e4).2.2];exact e3
 ·rw [hhm] at e;rcases hL.new _ _ e with e2 | ⟨_,e3,e4,_⟩
  ·rw [(f.ro x (h.hmu x c e2)).1];exact h.hmu x c e2
  ·rw [(f.ro x e4).1];exact e4
 ·rw [hpl];rw [hlt] at e;exact h.late D e
 ·rw [hpl] at e;obtain ⟨gd',p',o',x',q⟩:=h.plw D e;exact ⟨gd',p',o',x',f.dc q⟩
end
end Sd
namespace Sd
variable {m m':Mst} {g:Gh}
structure Rl (t:Nat) (m:Mst) (g:Gh) (m':Mst) (g':Gh):Prop where
 inv:Inv m' g'
 ex:Ex m g m' g'
 own:∀ b,g.ro b≠none->g'.ow b=g.ow b/\(g.ow b=t->g'.hm b=g.hm b/\g'.pl b=g.pl b)
structure Gt (t:Nat) (m:Mst) (g:Gh) (m':Mst) (g':Gh):Prop where
 inv:Inv m' g'
 ex:Ex m g m' g'
 own:∀ b,g.ro b≠none->g'.ow b=g.ow b/\(g.ow b≠t->g'.hm b=g.hm b/\g'.pl b=g.pl b)
theorem Rl.refl {t:Nat} (h:Inv m g):Rl t m g m g:=⟨h,Ex.refl m g,fun _ _=>⟨rfl,fun _=>⟨rfl,rfl⟩⟩⟩
theorem Rl.trans {t:Nat} {m1 m2 m3:Mst} {g1 g2 g3:Gh} (h:Rl t m1 g1 m2 g2) (h':Rl t m2 g2 m3 g3):Rl t m1 g1 m3 g3:=
 ⟨h'.inv,h.ex.trans h'.ex,fun b hb=>by
  obtain ⟨e1,e2⟩:=h.own b hb;obtain ⟨e3,e4⟩:=h'.own b (by rw [(h.ex.ro b hb).1];exact hb);exact ⟨e3.trans e1,fun e=>⟨(e4 (e1.trans e)).1.trans (e2 e).1,(e4 (e1.trans e)).2.trans (e2 e).2⟩⟩⟩
theorem Gt.trans {t:Nat} {m1 m2 m3:Mst} {g1 g2 g3:Gh} (h:Gt t m1 g1 m2 g2) (h':Gt t m2 g2 m3 g3):Gt t m1 g1 m3 g3:=
 ⟨h'.inv,h.ex.trans h'.ex,fun b hb=>by
  obtain ⟨e1,e2⟩:=h.own b hb;obtain ⟨e3,e4⟩:=h'.own b (by rw [(h.ex.ro b hb).1];exact hb);exact ⟨e3.trans e1,fun e=>⟨(e4 (by rw [e1];exact e)).1.trans (e2 e).1,(e4 (by rw [e1];exact e)).2.trans (e2 e).2⟩⟩⟩
theorem Gt.rl {t t':Nat} (ht:t≠t') {m':Mst} {g':Gh} (h:Gt t m g m' g'):Rl t' m g m' g':=⟨h.inv,h.ex,fun b hb=>⟨(h.own b hb).1,fun e=>(h.own b hb).2 (fun e2=>ht (e2.symm.trans e))⟩⟩
theorem Gt.same {t:Nat} (h:Inv m' g/\Ex m g m' g):Gt t m g m' g:=⟨h.1,h.2,fun _ _=>⟨rfl,fun _=>⟨rfl,rfl⟩⟩⟩
theorem Inv.hmA (h:Inv m g) {b:Int} (hb:g.ro b=none):g.hm b=none:=by
 cases e:g.hm b with
 | none=>rfl
 | some c=>exact absurd hb (h.hmu b c e)
theorem Inv.noA (h:Inv m g):g.ro ((m.xs.length:Int)+1)=none:=by
 cases e:g.ro ((m.xs.length:Int)+1) with
 | none=>rfl
 | some r=>
  have:=h.lt (c:=(m.xs.length:Int)+1) (by rw [e];exact fun e=>by cases e)
  omega
theorem Links.old (h:Inv m g) {g':Gh} {A:Int} (hA:A=(m.xs.length:Int)+1):Links m' g g' A g.hm:=
 ⟨h.hmA (by rw [hA];exact h.noA),fun _ _ e=>e,fun _ _ e=>.inl e⟩
theorem add_own {A n K:Int} {R:Int->Ro} {H:Int->Option Int} {t:Nat} (h:Inv m g) {ws:List Int} (hA:A=(m.xs.length:Int)+1) (hn:n=(ws.length:Int)) (hH:∀ b,g.ow b≠t->H b=g.hm b):∀ b,g.ro b≠none->(g.add A n R K H t).ow b=g.ow b/\(g.ow b≠t->(g.add A n R K H t).hm b=g.hm b/\(g.add A n R K H t).pl b=g.pl b):=fun b hb=>
 ⟨(Gh.add_out (fun q=>hb (h.free (ws:=ws) ⟨by omega,by omega⟩))).2.2.2,fun e=>⟨hH b e,rfl⟩⟩
theorem More.at {ws:List Int} (hm:More m m' ws) {A j:Int} (hA:A=(m.xs.length:Int)+1) (h0:0<=j) (h1:j < (ws.length:Int)):m'.look (A+j)=ws.getD j.toNat 0:=by
 have:=hm.new j.toNat (by omega)
 rwa [show (m.xs.length:Int)+1+(j.toNat:Int)=A+j by omega] at this
theorem COk.fix {c z:Int} (r:g.ro c=some (.fix z)) (e:m.look c=z):COk m g c:=by unfold COk;rw [r];exact e
theorem COk.key {c z:Int} (r:g.ro c=some (.key z)) (e:m.look c=0∨m.look c=z):COk m g c:=by unfold COk;rw [r];exact e
theorem COk.free {c:Int} (r:g.ro c=some .chg∨g.ro c=some .cnt):COk m g c:=by unfold COk;rcases r with r | r <;> (rw [r];trivial)
theorem COk.zero {c:Int} (r:g.ro c=some .shut∨g.ro c=some .sum∨g.ro c=some .slot) (e:m.look c=0):COk m g c:=by unfold COk;rcases r with r | r | r <;> (rw [r];exact .inl e)
theorem COk.child {c:Int} (r:g.ro c=some .slot) (e:OkW m g c (m.look c)):COk m g c:=by unfold COk;rw [r];exact .inr (.inl e)
theorem COk.root {c b:Int} (r:g.ro c=some .root) (eb:g.rb c=b) (h:RbOk m g b) (e:m.look c=0):COk m g c:=by unfold COk;rw [r];simp only;rw [eb];exact ⟨h,.inl e⟩
theorem COk.o {c b:Int} (r:g.ro c=some .out) (eb:g.rb c=b) (h:DcOk m g b) (e:m.look c=0):COk m g c:=by unfold COk;rw [r];simp only;rw [eb];exact ⟨h,.inl e,fun _=>by rw [e];decide⟩
section
variable {t:Nat} {A:Int}
theorem mk_empty (h:Inv m g) (hA:A=(m.xs.length:Int)+1) (hm:More m m' [0]):∃ g',Gt t m g m' g'/\IsEmpty g' A/\g'.hm A=none/\g'.ow A=t/\g'.hm=g.hm/\g'.pl=g.pl:=by
 have h0:1<=A:=by omega
 have e:=fun c=>Gh.add_in (g:=g) (A:=A) (n:=1) (R:=fun _=>.fix 0) (K:=1) (H:=g.hm) (t:=t) (c:=c);obtain ⟨a1,a2,a3,a4⟩:=e A (by omega) (by omega);have st:=step_add h hm hA (n:=1) rfl (Links.old h hA) (R:=fun _=>.fix 0) (K:=1) (t:=t) (fun _ j j0 j1=>by
  have lk:m'.look (A+j)=[(0:Int)].getD j.toNat 0:=hm.at hA j0 (by simp;omega);refine COk.fix (e (A+j) (by omega) (by omega)).1 ?_;rw [lk,show j=0 by omega];rfl) (fun d n' i hI _ _ _=>by have:=hI.kn;rw [a3] at this;omega)
 exact ⟨_,⟨st.1,st.2,add_own h (ws:=[0]) hA rfl (fun _ _=>rfl)⟩,⟨a3,Gh.add_rec h0 (Int.le_refl _),a1⟩,h.hmA (by rw [hA];exact h.noA),a4,rfl,rfl⟩
theorem mk_leaf (h:Inv m g) (hA:A=(m.xs.length:Int)+1) {k v:Int} (hm:More m m' [k,v]):∃ g',Gt t m g m' g'/\IsLeaf g' A k v/\g'.hm=g.hm/\g'.pl=g.pl:=by
 have h0:1<=A:=by omega
 have e:=fun c=>Gh.add_in (g:=g) (A:=A) (n:=2) (R:=fun j=>.fix ([k,v].getD j.toNat 0)) (K:=2) (H:=g.hm) (t:=t) (c:=c);obtain ⟨a1,a2,a3,a4⟩:=e A (by omega) (by omega);obtain ⟨b1,_⟩:=e (A+1) (by omega) (by omega);rw [Int.sub_self] at a1;rw [show A+1 - A=1 by omega] at b1;have st:=step_add h hm hA (n:=2) rfl (Links.old h hA) (R:=fun j=>.fix ([k,v].getD j.toNat 0)) (K:=2) (t:=t) (fun _ j j0 j1=>by
  refine COk.fix (e (A+j) (by omega) (by omega)).1 ?_;rw [hm.at hA j0 (by simpa using j1),show A+j - A=j by omega]) (fun d n' i hI _ _ _=>by have:=hI.kn;rw [a3] at this;omega)
 exact ⟨_,⟨st.1,st.2,add_own h (ws:=[k,v]) hA rfl (fun _ _=>rfl)⟩,⟨a3,Gh.add_rec h0 (Int.le_refl _),a1,b1⟩,rfl,rfl⟩
theorem mk_dc (h:Inv m g) (hA:A=(m.xs.length:Int)+1) {gd p o x:Int} (hx:OkW m g p x) (hat:At g gd p) (hm:More m m' [gd,p,o,x,0]):∃ g',Gt t m g m' g'/\IsDc g' A gd p o x/\g'.pl A=false/\g'.ow A=t:=by
 have h0:1<=A:=by omega
 have hpl:g.pl A=false:=by
  cases e:g.pl A with
  | false=>rfl
  | true=>
   obtain ⟨_,_,_,_,q⟩:=h.plw A e
   have:=q.c0
   have hno:g.ro A=none:=by rw [hA];exact h.noA
   rw [hno] at this;cases this
 obtain ⟨R,hR⟩:∃ R:Int->Ro,R=fun j=>if j=4 then Ro.out else .fix ([gd,p,o,x,0].getD j.toNat 0):=⟨_,rfl⟩;have e:=fun c=>Gh.add_in (g:=g) (A:=A) (n:=5) (R:=R) (K:=5) (H:=g.hm) (t:=t) (c:=c);have e':∀ j,0<=j->j < 5->(g.add A 5 R 5 g.hm t).ro (A+j)=some (R j)/\(g.add A 5 R 5 g.hm t).rb (A+j)=A:=fun j q1 q2=>by
  obtain ⟨u1,u2,_⟩:=e (A+j) (by omega) (by omega);rw [show A+j - A=j by omega] at u1;exact ⟨u1,u2⟩
 obtain ⟨_,_,a3,a4⟩:=e A (by omega) (by omega);have hD:IsDc (g.add A 5 R 5 g.hm t) A gd p o x:=by
  refine ⟨a3,Gh.add_rec h0 (Int.le_refl _),?_,?_,?_,?_,?_⟩
  ·have:=(e' 0 (by omega) (by omega)).1;rw [Int.add_zero] at this;rw [this,hR];rfl
  ·rw [(e' 1 (by omega) (by omega)).1,hR];rfl
  ·rw [(e' 2 (by omega) (by omega)).1,hR];rfl
  ·rw [(e' 3 (by omega) (by omega)).1,hR];rfl
  ·rw [(e' 4 (by omega) (by omega)).1,hR];rfl
 have st:=step_add h hm hA (n:=5) rfl (Links.old h hA) (R:=R) (K:=5) (t:=t) (fun hE j j0 j1=>by
  obtain ⟨q,q2⟩:=e' j j0 j1;have lk:=hm.at hA j0 (by simpa using j1)
  by_cases j4:j=4
  ·have r:R j=.out:=by rw [hR];exact if_pos j4
   exact COk.o (by rw [q,r]) q2 ⟨gd,p,o,x,hD,(fun e=>by have e':g.pl A=true:=e;rw [hpl] at e';cases e'),hE.okW (fun _ _ e=>hE.back hat.siv e) hx,hE.at hat,fun e=>by have:=h.late A e;rw [hpl] at this;cases this⟩ (by rw [lk,j4];rfl)
  ·have r:R j=.fix ([gd,p,o,x,0].getD j.toNat 0):=by rw [hR];exact if_neg j4
   exact COk.fix (by rw [q,r]) lk) (fun d n' i hI _ _ _=>by have:=hI.kn;rw [a3] at this;omega)
 exact ⟨_,⟨st.1,st.2,add_own h (ws:=[gd,p,o,x,0]) hA rfl (fun _ _=>rfl)⟩,hD,hpl,a4⟩
theorem mk_reb (h:Inv m g) (hA:A=(m.xs.length:Int)+1) {w gd p:Int} (hw:OkI m g p w) (hat:At g gd p) (hm:More m m' [w,gd,p,0,0]):∃ g',Gt t m g m' g'/\IsReb g' A w gd p/\g'.hm A=none/\g'.ow A=t:=by
 have h0:1<=A:=by omega
 obtain ⟨R,hR⟩:∃ R:Int->Ro,R=fun j=>if j=4 then Ro.cnt else if j=3 then Ro.root else .fix ([w,gd,p,0,0].getD j.toNat 0):=⟨_,rfl⟩;have e:=fun c=>Gh.add_in (g:=g) (A:=A) (n:=5) (R:=R) (K:=4) (H:=g.hm) (t:=t) (c:=c);have e':∀ j,0<=j->j < 5->(g.add A 5 R 4 g.hm t).ro (A+j)=some (R j)/\(g.add A 5 R 4 g.hm t).rb (A+j)=A:=fun j q1 q2=>by
  obtain ⟨u1,u2,_⟩:=e (A+j) (by omega) (by omega);rw [show A+j - A=j by omega] at u1;exact ⟨u1,u2⟩
 obtain ⟨_,_,a3,a4⟩:=e A (by omega) (by omega);have hD:IsReb (g.add A 5 R 4 g.hm t) A w gd p:=by
  refine ⟨a3,Gh.add_rec h0 (Int.le_refl _),?_,?_,?_,?_,?_⟩
  ·have:=(e' 0 (by omega) (by omega)).1;rw [Int.add_zero] at this;rw [this,hR];rfl
  ·rw [(e' 1 (by omega) (by omega)).1,hR];rfl
  ·rw [(e' 2 (by omega) (by omega)).1,hR];rfl
  ·rw [(e' 3 (by omega) (by omega)).1,hR];rfl
  ·rw [(e' 4 (by omega) (by omega)).1,hR];rfl
 have st:=step_add h hm hA (n:=5) rfl (Links.old h hA) (R:=R) (K:=4) (t:=t) (fun hE j j0 j1=>by
  obtain ⟨q,q2⟩:=e' j j0 j1;have lk:=hm.at hA j0 (by simpa using j1)
  by_cases j4:j=4
  ·have r:R j=.cnt:=by rw [hR];exact if_pos j4
   exact COk.free (.inr (by rw [q,r]))
  ·by_cases j3:j=3
   ·have r:R j=.root:=by rw [hR];exact (if_neg j4).trans (if_pos j3)
    exact COk.root (by rw [q,r]) q2 ⟨w,gd,p,hD,hE.okI hw,hE.at hat⟩ (by rw [lk,j3];rfl)
   ·have r:R j=.fix ([w,gd,p,0,0].getD j.toNat 0):=by rw [hR];exact (if_neg j4).trans (if_neg j3)
    exact COk.fix (by rw [q,r]) lk) (fun d n' i hI _ _ _=>by have:=hI.kn;rw [a3] at this;omega)
 exact ⟨_,⟨st.1,st.2,add_own h (ws:=[w,gd,p,0,0]) hA rfl (fun _ _=>rfl)⟩,hD,h.hmA (by rw [hA];exact h.noA),a4⟩
def Kid (m:Mst) (g:Gh) (t:Nat) (w:Int):Prop:=w=0∨(kd w=2/\∃ k v,IsLeaf g (ad w) k v)∨(kd w=3/\ad w≠1/\g.hm (ad w)=none/\g.ow (ad w)=t/\Compl m g (ad w)/\∃ d n,IsInner g (ad w) d n/\2<=d)
def kidI (b w:Int):Bool:=kd w == 3 && ad w == b
def linkH (g:Gh) (A d:Int) (cs:List Int) (b:Int):Option Int:=match cs.findIdx? (kidI b) with
 | some i=>some (A+4+d+i)
 | none=>g.hm b
theorem idx_some {cs:List Int} {b:Int} {i:Nat} (h:cs.findIdx? (kidI b)=some i):∃ w,cs[i]? = some w/\kd w=3/\ad w=b:=by
 rw [List.findIdx?_eq_some_iff_getElem] at h;obtain ⟨h1,h2,_⟩:=h;simp only [kidI,Bool.and_eq_true,beq_iff_eq] at h2;exact ⟨_,List.getElem?_eq_getElem h1,h2.1,h2.2⟩
theorem idx_is {cs:List Int} (hd:∀ i j:Nat,∀ v w,cs[i]? = some v->cs[j]? = some w->kd v=3->kd w=3->ad v=ad w->i=j) {i:Nat} {w:Int} (h:cs[i]? = some w) (k:kd w=3):cs.findIdx? (kidI (ad w))=some i:=by
 cases e:cs.findIdx? (kidI (ad w)) with
 | none=>
  rw [List.findIdx?_eq_none_iff] at e
  have:=e w (List.mem_of_getElem? h)
  simp [kidI,k] at this
 | some j=>
  obtain ⟨v,e1,e2,e3⟩:=idx_some e;rw [hd i j w v h e1 k e2 e3.symm]
theorem mk_inner (h:Inv m g) (hA:A=(m.xs.length:Int)+1) {size d:Int} {q cs:List Int} (kz:Int->Int) (hd:(cs.length:Int)=d) (hd1:1<=d) (hq:(q.length:Int)=d - 1) (hkid:∀ w ∈ cs,Kid m g t w)
  (hdis:∀ i j:Nat,∀ v w,cs[i]? = some v->cs[j]? = some w->kd v=3->kd w=3->ad v=ad w->i=j)
  (hkey:∀ i:Nat,1<=i->(i:Int) < d->q.getD (i - 1) 0=kz i∨(q.getD (i - 1) 0=0/\cs.getD i 0=0))
  (hm:More m m' (innerL size q cs)) :
  ∃ g',Gt t m g m' g'/\IsInner g' A d size/\g'.hm A=none/\g'.ow A=t/\(∀ i,1<=i->i < d->gk g' A i=kz i)/\(∀ i:Nat,(i:Int) < d->m'.look (A+4+d+i)=cs.getD i 0)/\(∀ b,(∀ w ∈ cs,kd w=3->ad w≠b)->g'.hm b=g.hm b)/\g'.pl=g.pl:=by
 have h0:1<=A:=by omega
 have hl:((innerL size q cs).length:Int)=2 * d+4:=by rw [innerL_length];omega
 obtain ⟨R,hR⟩:∃ R:Int->Ro,R=fun j=>if j=0 then .fix d else if j=1 then .fix size else if j=2 then .shut else if j=3 then .chg else if j=4 then .sum else if j < 4+d then .key (kz (j - 4)) else .slot:=⟨_,rfl⟩;obtain ⟨g',hg⟩:∃ g',g.add A (2 * d+4) R 3 (linkH g A d cs) t=g':=⟨_,rfl⟩;have e':∀ j,0<=j->j < 2 * d+4->g'.ro (A+j)=some (R j)/\g'.rb (A+j)=A/\g'.kn (A+j)=3/\g'.ow (A+j)=t:=fun j q1 q2=>by
  obtain ⟨u1,u2⟩:=Gh.add_in (g:=g) (A:=A) (n:=2 * d+4) (R:=R) (K:=3) (H:=linkH g A d cs) (t:=t) (c:=A+j) (by omega) (by omega);rw [show A+j - A=j by omega] at u1;rw [<- hg];exact ⟨u1,u2⟩
 have r0:R 0=.fix d:=by rw [hR];rfl
 have r1:R 1=.fix size:=by rw [hR];rfl
 have r2:R 2=.shut:=by rw [hR];rfl
 have r3:R 3=.chg:=by rw [hR];rfl
 have r4:R 4=.sum:=by rw [hR];rfl
 have rk:∀ i,1<=i->i < d->R (4+i)=.key (kz i):=fun i i1 i2=>by
  rw [hR];show (if 4+i=0 then _ else _)=_;rw [if_neg (by omega),if_neg (by omega),if_neg (by omega),if_neg (by omega),if_neg (by omega),if_pos (by omega),show 4+i - 4=i by omega]
 have rs:∀ i,0<=i->i < d->R (4+d+i)=.slot:=fun i i1 i2=>by
  rw [hR];show (if 4+d+i=0 then _ else _)=_;rw [if_neg (by omega),if_neg (by omega),if_neg (by omega),if_neg (by omega),if_neg (by omega),if_neg (by omega)]
 have eA:=e' 0 (by omega) (by omega);rw [Int.add_zero] at eA;have hI:IsInner g' A d size:=by
  refine ⟨eA.2.2.1,by rw [<- hg];exact Gh.add_rec h0 (Int.le_refl _),hd1,by rw [eA.1,r0],by rw [(e' 1 (by omega) (by omega)).1,r1],by rw [(e' 2 (by omega) (by omega)).1,r2],by rw [(e' 3 (by omega) (by omega)).1,r3],by rw [(e' 4 (by omega) (by omega)).1,r4],fun i i1 i2=>⟨kz i,?_⟩,fun i i1 i2=>?_⟩
  ·rw [show A+4+i=A+(4+i) by omega,(e' (4+i) (by omega) (by omega)).1,rk i i1 i2]
  ·rw [show A+4+d+i=A+(4+d+i) by omega,(e' (4+d+i) (by omega) (by omega)).1,rs i i1 i2]
 have hgk:∀ i,1<=i->i < d->gk g' A i=kz i:=fun i i1 i2=>by
  unfold gk;rw [show A+4+i=A+(4+i) by omega,(e' (4+i) (by omega) (by omega)).1,rk i i1 i2]
 have lks:∀ i:Nat,(i:Int) < d->m'.look (A+4+d+i)=cs.getD i 0:=fun i i2=>by
  have:=hm.at hA (j:=4+d+i) (by omega) (by omega)
  rw [show A+(4+d+(i:Int))=A+4+d+i by omega] at this;rw [this];unfold innerL;rw [List.getD_eq_getElem?_getD,List.getD_eq_getElem?_getD,List.getElem?_append_right (by simp;omega),List.getElem?_append_right (by simp;omega)];congr 2;simp;omega
 have lkk:∀ i:Nat,1<=i->(i:Int) < d->m'.look (A+4+i)=q.getD (i - 1) 0:=fun i i1 i2=>by
  have:=hm.at hA (j:=4+i) (by omega) (by omega)
  rw [show A+(4+(i:Int))=A+4+i by omega] at this;rw [this];unfold innerL;rw [List.getD_eq_getElem?_getD,List.getD_eq_getElem?_getD,List.getElem?_append_right (by simp;omega),List.getElem?_append_left (by simp;omega)];congr 2;simp;omega
 have noA:g.hm A=none:=h.hmA (by rw [hA];exact h.noA);have hmA:linkH g A d cs A=none:=by
  unfold linkH;cases e:cs.findIdx? (kidI A) with
  | none=>exact noA
  | some i=>
   obtain ⟨w,e1,e2,e3⟩:=idx_some e;rcases hkid w (List.mem_of_getElem? e1) with q | ⟨q,_⟩ | ⟨_,_,_,_,_,d',n',q,_⟩
   ·rw [q] at e2;exact absurd e2 (by decide)
   ·omega
   ·have:=q.c0
    have hno:g.ro A=none:=by rw [hA];exact h.noA
    rw [e3,hno] at this;cases this
 have hL:Links m' g g' A (linkH g A d cs):=by
  refine ⟨hmA,fun b c e=>?_,fun b c e=>?_⟩
  ·unfold linkH;cases e2:cs.findIdx? (kidI b) with
   | none=>exact e
   | some i=>
    obtain ⟨w,e1,e2,e3⟩:=idx_some e2;rcases hkid w (List.mem_of_getElem? e1) with q | ⟨q,_⟩ | ⟨_,_,q,_⟩
    ·rw [q] at e2;exact absurd e2 (by decide)
    ·omega
    ·rw [e3,e] at q;cases q
  ·unfold linkH at e;cases e2:cs.findIdx? (kidI b) with
   | none=>rw [e2] at e;exact .inl e
   | some i=>
    rw [e2] at e;have ec:=Option.some.inj e;obtain ⟨w,e1,e2,e3⟩:=idx_some e2;have hil:=(List.getElem?_eq_some_iff.1 e1).1;have lw:m'.look c=w:=by
     rw [<- ec,lks i (by omega),List.getD_eq_getElem?_getD,e1];rfl
    rcases hkid w (List.mem_of_getElem? e1) with q | ⟨q,_⟩ | ⟨_,q1,_,_,_,d',n',q2,_⟩
    ·rw [q] at e2;exact absurd e2 (by decide)
    ·omega
    ·rw [e3] at q1 q2;exact .inr ⟨q1,by rw [q2.kn];decide,(by rw [q2.c0];exact (fun e=>by cases e)),d,size,i,⟨hI,by omega,by omega,ec.symm⟩,by rw [lw];exact e3⟩
 have noIv:∀ lo hi,¬ Iv g' A lo hi:=fun lo hi e=>by
  cases e with
  | top _=>
   have:=h.noA
   rw [<- hA,h.top.1.c0] at this;cases this
  | sub _ _ _ _ _ e2=>
   have:g'.hm A=none:=by rw [<- hg];exact hmA
   rw [this] at e2;cases e2
 have hk:∀ d' n' i,IsInner g' A d' n'->1<=i->i < d'->m'.look (A+4+d' + i)≠0->m'.look (A+4+i)=gk g' A i:=fun d' n' i hI' i1 i2 q=>by
  obtain ⟨rfl,rfl⟩:=hI.deg hI';rw [hgk i i1 i2];have a1:=lks i.toNat (by omega);have a2:=lkk i.toNat (by omega) (by omega);have a3:=hkey i.toNat (by omega) (by omega);rw [show ((i.toNat:Nat):Int)=i by omega] at a1 a2 a3;rw [a1] at q;rw [a2];rcases a3 with a3 | ⟨_,a3⟩
  ·exact a3
  ·exact absurd a3 q
 have st:=step_add h hm hA (n:=2 * d+4) hl.symm (R:=R) (K:=3) (t:=t) (H:=linkH g A d cs) (by rw [hg];exact hL) (fun hE j j0 j1=>by
  rw [hg] at hE ⊢;obtain ⟨q1,q2,_⟩:=e' j j0 j1;have lk:=hm.at hA j0 (by omega)
  by_cases c0:j=0
  ·subst c0;exact COk.fix (by rw [q1,r0]) (by rw [lk,<- hd];rfl)
  by_cases c1:j=1
  ·subst c1;exact COk.fix (by rw [q1,r1]) (by rw [lk];rfl)
  by_cases c2:j=2
  ·subst c2;exact COk.zero (.inl (by rw [q1,r2])) (by rw [lk];rfl)
  by_cases c3:j=3
  ·subst c3;exact COk.free (.inl (by rw [q1,r3]))
  by_cases c4:j=4
  ·subst c4;exact COk.zero (.inr (.inl (by rw [q1,r4]))) (by rw [lk];rfl)
  by_cases c5:j < 4+d
  ·obtain ⟨i,rfl⟩:∃ i:Nat,j=4+(i:Int):=⟨(j - 4).toNat,by omega⟩;refine COk.key (z:=kz i) (by rw [q1,rk i (by omega) (by omega)]) ?_;have a2:=lkk i (by omega) (by omega);rw [show A+4+(i:Int)=A+(4+i) by omega] at a2;rw [a2];rcases hkey i (by omega) (by omega) with a3 | ⟨a3,_⟩
   ·exact .inr a3
   ·exact .inl a3
  ·obtain ⟨i,rfl⟩:∃ i:Nat,j=4+d+(i:Int):=⟨(j - 4 - d).toNat,by omega⟩;have r:g'.ro (A+(4+d+i))=some .slot:=by rw [q1,rs i (by omega) (by omega)]
   have a1:=lks i (by omega);rw [show A+4+d+(i:Int)=A+(4+d+i) by omega] at a1;have hil:i < cs.length:=by omega
   obtain ⟨w,ew⟩:∃ w,cs[i]? = some w:=⟨_,List.getElem?_eq_getElem hil⟩;rw [List.getD_eq_getElem?_getD,ew] at a1;have a1':m'.look (A+(4+d+i))=w:=a1;rcases hkid w (List.mem_of_getElem? ew) with q | ⟨k,u,v,hl'⟩ | ⟨k,b1,b2,b3,b4,d',n',b5,b6⟩
   ·exact COk.zero (.inr (.inr r)) (by rw [a1',q])
   ·have hw:OkW m' g' (A+(4+d+i)) w:=.inr (.inl ⟨k,u,v,hE.leaf hl',fun lo hi e=>by
     obtain ⟨a,d2,n2,l2,u2,i2,z1,z2,z3,z4,z5,_,_⟩:=e;obtain ⟨rfl,_⟩:=Slot.fn (g:=g') (c:=A+(4+d+i)) ⟨z2,z3,z4,z5⟩ ⟨hI,by omega,by omega,(by omega:A+(4+d+(i:Int))=A+4+d+i)⟩;exact absurd z1 (noIv _ _)⟩)
    exact COk.child r (by rw [a1'];exact hw)
   ·have hh:g'.hm (ad w)=some (A+(4+d+i)):=by
     rw [<- hg];show linkH g A d cs (ad w)=_;unfold linkH;rw [idx_is hdis ew k];show some (A+4+d+(i:Int))=_;congr 1;omega
    have hw:OkW m' g' (A+(4+d+i)) w:=.inr (.inr (.inl ⟨k,d',n',hE.inner b5,b6,b1,hh,hE.compl b5 b4⟩));exact COk.child r (by rw [a1'];exact hw)) (by rw [hg];exact hk)
 rw [hg] at st;have hH:∀ b,g.ow b≠t->linkH g A d cs b=g.hm b:=fun b hb=>by
  unfold linkH;cases e:cs.findIdx? (kidI b) with
  | none=>rfl
  | some i=>
   obtain ⟨w,e1,e2,e3⟩:=idx_some e;rcases hkid w (List.mem_of_getElem? e1) with q | ⟨q,_⟩ | ⟨_,_,_,q,_⟩
   ·rw [q] at e2;exact absurd e2 (by decide)
   ·omega
   ·exact absurd (e3 ▸ q) hb
 have ow:=add_own (R:=R) (K:=3) h (ws:=innerL size q cs) hA hl.symm hH;rw [hg] at ow;refine ⟨g',⟨st.1,st.2,ow⟩,hI,by rw [<- hg];exact hmA,eA.2.2.2,hgk,lks,fun b hb=>?_,by rw [<- hg];rfl⟩;rw [<- hg];show linkH g A d cs b=_;unfold linkH;cases e:cs.findIdx? (kidI b) with
 | none=>rfl
 | some i=>
  obtain ⟨w,e1,e2,e3⟩:=idx_some e;exact absurd e3 (hb w (List.mem_of_getElem? e1) e2)
end
end Sd
namespace Sd
inductive Pr (α:Type) where
 | ret (a:α)
 | ask (q:Ak) (k:Int->Pr α)
 | stop
namespace Pr
variable {α β:Type}
def bind:Pr α->(α->Pr β)->Pr β
 | ret a,f=>f a
 | ask q k,f=>ask q (fun z=>(k z).bind f)
 | stop,_=>stop
def read (a:Int):Pr Int:=ask ⟨1,a,0,0,[]⟩ ret
def write (a x:Int):Pr Unit:=ask ⟨2,a,x,0,[]⟩ (fun _=>ret ())
def cas (a old x:Int):Pr Bool:=ask ⟨3,a,old,x,[]⟩ (fun z=>ret (z == 1))
def add (a d:Int):Pr Int:=ask ⟨4,a,d,0,[]⟩ ret
def make (w:List Int):Pr Int:=ask ⟨5,0,0,0,w⟩ ret
end Pr
section
variable {α β:Type}
def Safe (t:Nat):Pr α->(α->Mst->Gh->Prop)->Mst->Gh->Prop
 | .ret a,Q,m,g=>Q a m g
 | .ask q k,Q,m,g=>∀ m1 g1,Rl t m g m1 g1->∃ g2,Gt t m1 g1 (m1.doA q).2 g2/\Safe t (k (m1.doA q).1) Q (m1.doA q).2 g2
 | .stop,_,_,_=>True
variable {t:Nat} {m:Mst} {g:Gh}
theorem Safe.mono {p:Pr α} {Q Q':α->Mst->Gh->Prop} (h:∀ a m g,Q a m g->Q' a m g):∀ {m:Mst} {g:Gh},Safe t p Q m g->Safe t p Q' m g:=by
 induction p with
 | ret a=>intro m g hs;exact h a m g hs
 | ask q k ih=>
  intro m g hs m1 g1 hr;obtain ⟨g2,h1,h2⟩:=hs m1 g1 hr;exact ⟨g2,h1,ih _ h2⟩
 | stop=>intro m g _;trivial
theorem Safe.bind {p:Pr α} {f:α->Pr β} {Q:β->Mst->Gh->Prop}:∀ {m:Mst} {g:Gh},Safe t p (fun a m g=>Safe t (f a) Q m g) m g->Safe t (p.bind f) Q m g:=by
 induction p with
 | ret a=>intro m g hs;exact hs
 | ask q k ih=>
  intro m g hs m1 g1 hr;obtain ⟨g2,h1,h2⟩:=hs m1 g1 hr;exact ⟨g2,h1,ih _ h2⟩
 | stop=>intro m g _;trivial
theorem Gt.rl' {m':Mst} (h:Inv m' g/\Ex m g m' g):Rl t m g m' g:=⟨h.1,h.2,fun _ _=>⟨rfl,fun _=>⟨rfl,rfl⟩⟩⟩
theorem look_same {m m':Mst} (h:m'.xs=m.xs) (c:Int):m'.look c=m.look c:=by unfold Mst.look Mst.used;rw [h]
theorem used_same {m m':Mst} (h:m'.xs=m.xs) (c:Int):m'.used c=m.used c:=by unfold Mst.used;rw [h]
theorem Inv.quiet (h:Inv m g) {m':Mst} (hx:m'.xs=m.xs) (hz:m'.size=m.size):Inv m' g/\Ex m g m' g:=by
 have r:=h.top.1.c0;have hp:Put1 m m' 1 1:=⟨fun c=>by
  rw [look_same hx]
  split
  ·rename_i e;rw [e];exact h.fix r
  ·rfl,used_same hx,by have:=h.ok;unfold Mst.ok at this ⊢;rw [hx];exact this,hz,by rw [hx]⟩
 refine h.put_plain hp (by rw [r];exact fun e=>by cases e) (fun z=>by rw [r];exact fun e=>by cases e) (fun e=>by rw [r] at e;cases e) (fun e=>by rw [r] at e;rcases e with e | e | e <;> cases e) (fun _=>COk.fix r hp.eq)
theorem Safe.read {a:Int} {Q:Int->Mst->Gh->Prop} (h:∀ m1 g1,Rl t m g m1 g1->Q (m1.look a) m1 g1):Safe t (Pr.read a) Q m g:=by
 intro m1 g1 hr;have e:m1.doA ⟨1,a,0,0,[]⟩=(m1.look a,m1.touch a):=rfl;rw [e];have q:=hr.inv.quiet (Mst.touch_xs m1 a) (size_touch m1 a);refine ⟨g1,Gt.same q,?_⟩
 have:=h (m1.touch a) g1 (hr.trans (Gt.rl' q))
 rwa [look_same (Mst.touch_xs m1 a)] at this
theorem Safe.write {a x:Int} {Q:Unit->Mst->Gh->Prop} (h:∀ m1 g1,Rl t m g m1 g1->∃ g2,Gt t m1 g1 (m1.write a x) g2/\Q () (m1.write a x) g2):Safe t (Pr.write a x) Q m g:=by
 intro m1 g1 hr;exact h m1 g1 hr
theorem Safe.add {a d:Int} {Q:Int->Mst->Gh->Prop} (h:∀ m1 g1,Rl t m g m1 g1->∃ g2,Gt t m1 g1 (m1.write a (wrap64 (m1.look a+d))) g2/\Q (m1.look a) (m1.write a (wrap64 (m1.look a+d))) g2):Safe t (Pr.add a d) Q m g:=by
 intro m1 g1 hr;exact h m1 g1 hr
theorem Safe.cas {a old x:Int} {Q:Bool->Mst->Gh->Prop} (h1:∀ m1 g1,Rl t m g m1 g1->m1.used a=true->m1.look a=old->∃ g2,Gt t m1 g1 (m1.write a x) g2/\Q true (m1.write a x) g2)
  (h0:∀ m1 g1,Rl t m g m1 g1->¬ (m1.used a=true/\m1.look a=old)->Q false m1 g1):Safe t (Pr.cas a old x) Q m g:=by
 intro m1 g1 hr;have e:m1.doA ⟨3,a,old,x,[]⟩=(if m1.did a old=true then 1 else 0,m1.cas a old x):=rfl;rw [e]
 by_cases hd:m1.did a old=true
 ·have hd':=hd;unfold Mst.did at hd';rw [Bool.and_eq_true,beq_iff_eq] at hd';rw [if_pos hd,Mst.cas,if_pos hd];exact h1 m1 g1 hr hd'.1 hd'.2
 ·rw [if_neg hd,Mst.cas,if_neg hd];have q:=hr.inv.quiet (Mst.touch_xs m1 a) (size_touch m1 a);refine ⟨g1,Gt.same q,?_⟩;refine h0 (m1.touch a) g1 (hr.trans (Gt.rl' q)) ?_;rw [used_same (Mst.touch_xs m1 a),look_same (Mst.touch_xs m1 a)];rintro ⟨u1,u2⟩;exact hd (by unfold Mst.did;rw [u1,u2];simp)
theorem make_more (h:Inv m g) {ws:List Int} (hw:∀ z ∈ ws,I64 z) (hf:m.fits ws.length=true):More m (m.make ws) ws:=by
 have e:(m.make ws).xs=m.xs++ws:=by unfold Mst.make;rw [if_pos hf]
 have hz:=h.sz;have es:(m.make ws).size=m.size:=by unfold Mst.make;rw [if_pos hf]
 refine more_of e ⟨fun z hz=>?_,?_⟩ es (by
  rw [e,es,List.length_append];unfold Mst.fits at hf;simp only [Bool.and_eq_true,decide_eq_true_eq] at hf;omega)
 ·rw [e] at hz;rcases List.mem_append.1 hz with hz | hz
  ·exact h.ok.1 z hz
  ·exact hw z hz
 ·rw [e,List.length_append];unfold Mst.fits at hf;simp only [Bool.and_eq_true,decide_eq_true_eq] at hf;omega
theorem Safe.make {ws:List Int} {Q:Int->Mst->Gh->Prop} (hw:∀ z ∈ ws,I64 z)
  (h1:∀ m1 g1 m2,Rl t m g m1 g1->More m1 m2 ws->∃ g2,Gt t m1 g1 m2 g2/\Q ((m1.xs.length:Int)+1) m2 g2) (h0:∀ m1 g1,Rl t m g m1 g1->Q 0 m1 g1):Safe t (Pr.make ws) Q m g:=by
 intro m1 g1 hr;have e:m1.doA ⟨5,0,0,0,ws⟩=(m1.next ws,m1.make ws):=rfl;rw [e]
 by_cases hf:m1.fits ws.length=true
 ·obtain ⟨g2,q1,q2⟩:=h1 m1 g1 (m1.make ws) hr (make_more hr.inv hw hf);refine ⟨g2,q1,?_⟩;show Q (m1.next ws) (m1.make ws) g2;unfold Mst.next;rw [if_pos hf];exact q2
 ·have e2:(m1.make ws).xs=m1.xs:=by unfold Mst.make;rw [if_neg hf]
  have e3:(m1.make ws).size=m1.size:=by unfold Mst.make;rw [if_neg hf]
  have q:=hr.inv.quiet e2 e3;refine ⟨g1,Gt.same q,?_⟩;show Q (m1.next ws) (m1.make ws) g1;unfold Mst.next;rw [if_neg hf];exact h0 _ g1 (hr.trans (Gt.rl' q))
end
end Sd
namespace Sd
namespace Pr
def peek (a:Int):Pr Int:=(read a).bind fun w=>if kd w=5 then (read (ad w+4)).bind fun o=>if o=1 then read (ad w+3) else read (ad w+2) else ret w
def help (a:Int):Pr Unit:=
 (read a).bind fun p=>(read p).bind fun gd=>(cas (a+4) 0 (if gd=0 then 1 else 2)).bind fun _=>(read (a+4)).bind fun o=>(read (a+1)).bind fun s=>
 (if o=1 then read (a+3) else read (a+2)).bind fun v=>(cas s (Rf.ofZ 5 a) v).bind fun _=>ret ()
def slotL:Nat->Int->Int->Pr Int
 | 0,_,_=>stop
 | n+1,a,z=>if kd z=5 then (help (ad z)).bind fun _=>(read a).bind fun y=>slotL n a y else ret z
def slot (n:Nat) (a:Int):Pr Int:=(read a).bind fun z=>slotL n a z
def dcss (gd p old x:Int):Pr Int:=
 (make [gd,p,old,x,0]).bind fun A=>if 0 < A then (cas p old (Rf.ofZ 5 A)).bind fun c=>
  if c=true then (read gd).bind fun q=>(cas (wrap64 (A+4)) 0 (if q=0 then 1 else 2)).bind fun _=>(read (wrap64 (A+4))).bind fun o=>
   if o=1 then (cas p (Rf.ofZ 5 A) x).bind fun _=>ret 1 else (cas p (Rf.ofZ 5 A) old).bind fun _=>ret 2
  else ret 0
 else ret 3
end Pr
variable {t:Nat} {m m':Mst} {g g':Gh} {c0 w0:Int}
theorem of5 {D:Int} (h1:1<=D) (h2:D<=65536):kd (Rf.ofZ 5 D)=5/\ad (Rf.ofZ 5 D)=D/\Rf.ofZ 5 D≠0:=by
 have e:Rf.ofZ 5 D=8 * D+5:=by unfold Rf.ofZ Rf.may;rw [if_pos (by simp;omega)]
 have r:Rf.rt (8 * D+5)=true:=by unfold Rf.rt;simp;omega
 rw [e];refine ⟨?_,?_,by omega⟩
 ·unfold kd Rf.kindZ;rw [if_pos r];omega
 ·unfold ad Rf.atZ;rw [if_pos r];omega
theorem OkW.knd {c w:Int} (h:OkW m g c w):1<=kd w/\kd w<=4:=by
 rcases h with ⟨k,_⟩ | ⟨k,_⟩ | ⟨k,_⟩ | ⟨k,_⟩ <;> omega
theorem OkW.ne {c w:Int} (h:OkW m g c w):w≠0/\kd w≠5:=by
 have:=h.knd
 refine ⟨fun e=>?_,by omega⟩;rw [e] at this;exact absurd this.1 (by decide)
theorem Inv.dc (h:Inv m g) {D gd p o x:Int} (hD:IsDc g D gd p o x):(g.pl D=true->OkW m g p o)/\OkW m g p x/\At g gd p/\(g.lt D=true->m.look gd≠0)/\(m.look (D+4)=0∨((m.look (D+4)=1∨m.look (D+4)=2)/\g.pl D=true))/\(g.lt D=true->m.look (D+4)≠1):=by
 have q:=h.cell (D+4);unfold COk at q;rw [hD.c4,(hD.rc.2 4 (by omega) (by omega)).1] at q;obtain ⟨⟨gd2,p2,o2,x2,q1,q2,q3,q4,q5⟩,q6,q7⟩:=q;obtain ⟨rfl,rfl,rfl,rfl⟩:=hD.fn q1;exact ⟨q2,q3,q4,q5,q6,q7⟩
theorem Inv.dcB (h:Inv m g) {D gd p o x:Int} (hD:IsDc g D gd p o x):1<=D/\D+4<=65536/\D+4<=(m.xs.length:Int):=by
 have h1:=h.lt (c:=D+4) (by rw [hD.c4];exact fun e=>by cases e);have h2:=h.ok.2;have h3:=hD.rc.1;omega
theorem step_take (h:Inv m g) {D gd p o x v:Int} (hD:IsDc g D gd p o x) (hpl:g.pl D=true) (hl:m.look p=Rf.ofZ 5 D) (h4:m.look (D+4)≠0) (hv:v=if m.look (D+4)=1 then x else o):Gt t m g (m.write p v) g:=by
 obtain ⟨q1,q2,q3,q4,q5,q6⟩:=h.dc hD;have q1:=q1 hpl;have b:=h.dcB hD;obtain ⟨k1,k2,k3⟩:=of5 b.1 (by omega);have sv:=q3.siv;obtain ⟨a,d,n,i,lo,hi,hs,eg,hv'⟩:=q3;have ov:OkW m g p v:=by rw [hv];split;exact q2;exact q1
 have hu:m.used p=true:=(h.used p).1 (by rw [hs.ro];exact fun e=>by cases e);have iv:I64 v:=by
  rw [hv]
  split
  ·rw [<- h.fix hD.c3];exact h.ok.look _
  ·rw [<- h.fix hD.c2];exact h.ok.look _
 have hp:=write_put h.ok hu iv;refine Gt.same (step_slot h hs hv' ov.ne.1 (fun w q=>?_) (fun i1=>?_) hp (fun _ _ _ _ _=>by
  rw [hl,k2,hp.ne (fun e=>by have e3:=hD.c4;rw [e,hs.ro] at e3;cases e3)];exact h4) (fun hE=>.inl (hE.okW (fun _ _ e=>hE.back sv e) ov)))
 ·obtain ⟨a',d',n',i',hs',r1,r2,r3,r4⟩:=q;obtain ⟨rfl,rfl,rfl,rfl⟩:=hs'.fn hs;have e2:a' + 2≠p:=fun e=>by have e3:=hs.1.c2;rw [e,hs.ro] at e3;cases e3
  refine ⟨a',d',n',i',hs,by rw [hp.ne e2];exact r1,r2,r3,.inl ?_⟩;rw [hp.eq];rw [hl] at r4;rcases r4 with r4 | ⟨_,_,r5,gd',x',hD'⟩
  ·rw [<- r4] at r3;exact absurd k1 r3
  ·rw [k2] at r5 hD';obtain ⟨_,_,rfl,_⟩:=hD.fn hD';rw [hv,if_neg (q6 r5)]
 ·have ep:=hs.2.2.2;exact h.kin a d n i hs.1 i1 hs.2.2.1 (by rw [<- ep,hl];exact k3)
structure Pd (g:Gh) (D gd p o x:Int):Prop where
 dc:IsDc g D gd p o x
 pl:g.pl D=true
theorem Rl.pd (h:Rl t m g m' g') {D gd p o x:Int} (q:Pd g D gd p o x):Pd g' D gd p o x:=⟨h.ex.dc q.dc,(h.ex.pl _ q.pl).1⟩
theorem settle_safe {A D gd p o x q:Int} (hD:Pd g D gd p o x) (eA:A=D+4) (hq:q=0->g.lt D=false):Safe t (Pr.cas A 0 (if q=0 then 1 else 2)) (fun _ m' g'=>Rl t m g m' g'/\m'.look (D+4)≠0) m g:=by
 subst eA;refine Safe.cas (fun m1 g1 hr hu h0=>?_) (fun m1 g1 hr hn=>?_)
 ·have hD1:=hr.pd hD;have lt1:=(hr.ex.pl _ hD.pl).2;have hp:=write_put hr.inv.ok hu (x:=if q=0 then 1 else 2) (by split <;> exact ⟨by decide,by decide⟩);have st:=step_out hr.inv hD1.dc hD1.pl h0 (x:=if q=0 then 1 else 2) (by
   by_cases e:q=0
   ·rw [if_pos e];exact .inl ⟨rfl,by rw [lt1];exact hq e⟩
   ·rw [if_neg e];exact .inr rfl) hp
  refine ⟨g1,Gt.same st,hr.trans (Gt.rl' st),?_⟩;rw [hp.eq]
  split <;> decide
 ·have hD1:=hr.pd hD;refine ⟨hr,fun e=>hn ⟨(hr.inv.used _).1 (by rw [hD1.dc.c4];exact fun e=>by cases e),e⟩⟩
theorem take_safe {D gd p o x v:Int} (hD:Pd g D gd p o x) (h4:m.look (D+4)≠0) (hv:v=if m.look (D+4)=1 then x else o):Safe t (Pr.cas p (Rf.ofZ 5 D) v) (fun _ m' g'=>Rl t m g m' g') m g:=by
 refine Safe.cas (fun m1 g1 hr _ hl=>?_) (fun m1 g1 hr _=>hr);have hD1:=hr.pd hD;have e4:=hr.ex.stay _ (.inr (.inr hD.dc.c4)) h4;have st:=step_take (t:=t) (v:=v) hr.inv hD1.dc hD1.pl hl (by rw [e4];exact h4) (by rw [e4];exact hv);exact ⟨g1,st,hr.trans ⟨st.inv,st.ex,fun _ _=>⟨rfl,fun _=>⟨rfl,rfl⟩⟩⟩⟩
theorem help_safe {D gd p o x:Int} (hD:Pd g D gd p o x):Safe t (Pr.help D) (fun _ m' g'=>Rl t m g m' g') m g:=by
 unfold Pr.help;refine Safe.bind (Safe.read fun m1 g1 r1=>?_);have hD1:=r1.pd hD;rw [r1.inv.fix hD1.dc.c0];refine Safe.bind (Safe.read fun m2 g2 r2=>?_);have R2:=r1.trans r2;have hD2:=R2.pd hD;obtain ⟨_,_,_,q4,_,_⟩:=R2.inv.dc hD2.dc;generalize hq:m2.look gd=q;refine Safe.bind (Safe.mono ?_ (settle_safe (q:=q) hD2 rfl (fun e=>by
  cases el:g2.lt D with
  | false=>rfl
  | true=>exact absurd (hq.trans e) (q4 el))))
 rintro _ m3 g3 ⟨r3,n3⟩;have R3:=R2.trans r3;refine Safe.bind (Safe.read fun m4 g4 r4=>?_);have R4:=R3.trans r4;have hD3:=R3.pd hD;have hD4:=R4.pd hD;have n4:m4.look (D+4)≠0:=by rw [r4.ex.stay _ (.inr (.inr hD3.dc.c4)) n3];exact n3
 refine Safe.bind (Safe.read fun m5 g5 r5=>?_);have R5:=R4.trans r5;have hD5:=R5.pd hD;have e5:=r5.ex.stay _ (.inr (.inr hD4.dc.c4)) n4;rw [R5.inv.fix hD5.dc.c1,<- e5];have n5:m5.look (D+4)≠0:=by rw [e5];exact n4
 refine Safe.bind (Safe.mono (Q:=fun v m6 g6=>Rl t m5 g5 m6 g6/\v=if m5.look (D+4)=1 then x else o) ?_ ?_)
 ·rintro v m6 g6 ⟨r6,ev⟩;have R6:=R5.trans r6;have e6:=r6.ex.stay _ (.inr (.inr hD5.dc.c4)) n5;refine Safe.bind (Safe.mono ?_ (take_safe (R6.pd hD) (by rw [e6];exact n5) (by rw [e6];exact ev)));intro _ m7 g7 r7;exact R6.trans r7
 ·split
  ·exact Safe.read fun m6 g6 r6=>⟨r6,r6.inv.fix (r6.pd hD5).dc.c3⟩
  ·exact Safe.read fun m6 g6 r6=>⟨r6,r6.inv.fix (r6.pd hD5).dc.c2⟩
theorem Inv.sees (h:Inv m g) {c:Int} (hs:g.ro c=some .slot):m.look c=0∨OkW m g c (m.look c)∨(kd (m.look c)=5/\∃ gd o x,Pd g (ad (m.look c)) gd c o x):=by
 have q:=h.cell c;unfold COk at q;rw [hs] at q;rcases q with q | q | ⟨q1,q2,gd,o,x,q3⟩
 ·exact .inl q
 ·exact .inr (.inl q)
 ·exact .inr (.inr ⟨q1,gd,o,x,q3,q2⟩)
theorem slot_safe (n:Nat) {c:Int} (hs:g.ro c=some .slot):Safe t (Pr.slot n c) (fun w m' g'=>Rl t m g m' g'/\m'.look c=w/\kd w≠5) m g:=by
 have loop:∀ (n:Nat) (m1:Mst) (g1:Gh),Rl t m g m1 g1->Safe t (Pr.slotL n c (m1.look c)) (fun w m' g'=>Rl t m g m' g'/\m'.look c=w/\kd w≠5) m1 g1:=by
  intro n
  induction n with
  | zero=>intro m1 g1 _;trivial
  | succ n ih=>
   intro m1 g1 r1;unfold Pr.slotL
   split
   ·rename_i k5;have hs1:=r1.ex.so hs;rcases r1.inv.sees hs1 with q | q | ⟨_,gd,o,x,hD⟩
    ·rw [q] at k5;exact absurd k5 (by decide)
    ·exact absurd k5 q.ne.2
    ·refine Safe.bind (Safe.mono ?_ (help_safe hD));intro _ m2 g2 r2;refine Safe.bind (Safe.read fun m3 g3 r3=>?_);exact ih m3 g3 ((r1.trans r2).trans r3)
   ·rename_i k5;exact ⟨r1,rfl,k5⟩
 unfold Pr.slot;exact Safe.bind (Safe.read fun m1 g1 r1=>loop n m1 g1 r1)
structure Fw (m:Mst) (g:Gh) (m':Mst) (g':Gh):Prop where
 inv:Inv m' g'
 ex:Ex m g m' g'
theorem Rl.fw (h:Rl t m g m' g'):Fw m g m' g':=⟨h.inv,h.ex⟩
theorem Gt.fw (h:Gt t m g m' g'):Fw m g m' g':=⟨h.inv,h.ex⟩
theorem Fw.trans {m1 m2 m3:Mst} {g1 g2 g3:Gh} (h:Fw m1 g1 m2 g2) (h':Fw m2 g2 m3 g3):Fw m1 g1 m3 g3:=⟨h'.inv,h.ex.trans h'.ex⟩
def Can (t:Nat) (m:Mst) (g:Gh) (c w:Int):Prop:=∀ m1 g1,Rl t m g m1 g1->∃ g2,Gt t m1 g1 m1 g2/\OkW m1 g2 c w
theorem OkW.can (h:OkW m g c0 w0) (hs:∃ lo hi,SIv g c0 lo hi):Can t m g c0 w0:=fun _ _ hr=>⟨_,Gt.same ⟨hr.inv,Ex.refl _ _⟩,hr.ex.okW (fun _ _ e=>hr.ex.back hs e) h⟩
theorem step_in (h:Inv m g) {D gd p o x:Int} (hD:IsDc g D gd p o x) (h0:g.pl D=false) (q1:OkW m g p o) (hl:m.look p=o):∃ g',Gt (g.ow D) m g (m.write p (Rf.ofZ 5 D)) g'/\Pd g' D gd p o x:=by
 obtain ⟨_,q2,q3,q4,q5,q6⟩:=h.dc hD;have b:=h.dcB hD;obtain ⟨k1,k2,k3⟩:=of5 b.1 (by omega);obtain ⟨s1,s2⟩:=step_pl h hD h0 q1 (decide (m.look gd≠0)) (fun e=>by simpa using e);have f:=g.put_e0 D (decide (m.look gd≠0));obtain ⟨a,d,n,i,lo,hi,hs,eg,hv'⟩:=q3;have hu:m.used p=true:=(h.used p).1 (by rw [hs.ro];exact fun e=>by cases e);have hp:=write_put h.ok hu (x:=Rf.ofZ 5 D) (i64_of 5 D);have plD:(g.put D (decide (m.look gd≠0))).pl D=true:=by show (if D=D then true else _)=true;rw [if_pos rfl]
 have ltD:(g.put D (decide (m.look gd≠0))).lt D=decide (m.look gd≠0):=by show (if D=D then _ else _)=_;rw [if_pos rfl]
 have st:=step_slot s1 (f.sl hs) (f.iv hv') k3 (fun w q=>by
  obtain ⟨a',d',n',i',hs',r1,r2,r3,r4⟩:=q;obtain ⟨rfl,rfl,rfl,rfl⟩:=hs'.fn (f.sl hs);have e2:a' + 2≠p:=fun e=>by have e3:=hs.1.c2;rw [e,hs.ro] at e3;cases e3
  refine ⟨a',d',n',i',hs',by rw [hp.ne e2];exact r1,r2,r3,.inr ?_⟩;rw [hp.eq,k2];refine ⟨k1,plD,by rw [ltD,eg];simpa using r1,gd,x,?_⟩;rcases r4 with r4 | ⟨r4,_⟩
  ·rw [<- r4,hl];exact f.dc hD
  ·rw [hl] at r4;exact absurd r4 q1.ne.2) (fun i1=>by
  have ep:=hs.2.2.2;exact s1.kin a d n i (f.inner hs.1) i1 hs.2.2.1 (by rw [<- ep,hl];exact q1.ne.1)) hp (fun _ _ _ k _=>by rw [hl] at k;exact absurd k q1.ne.2) (fun _=>.inr ⟨k1,by rw [k2];exact plD,gd,o,x,by rw [k2];exact f.dc hD⟩)
 refine ⟨_,⟨st.1,s2.trans st.2,fun b _=>⟨rfl,fun e=>⟨rfl,?_⟩⟩⟩,f.dc hD,plD⟩;show (if b=D then true else g.pl b)=_;rw [if_neg (fun q=>e (by rw [q]))]
theorem dcss_safe {gd p o x:Int} (ho:o≠0/\kd o≠5) (hx:Can t m g p x) (hat:At g gd p) (ig:I64 gd) (ip:I64 p) (io:I64 o) (ix:I64 x):Safe t (Pr.dcss gd p o x) (fun z m' g'=>Fw m g m' g'/\(z≠3->OkW m' g' p x)) m g:=by
 unfold Pr.dcss;refine Safe.bind (Safe.make (by
  intro z hz;simp only [List.mem_cons,List.not_mem_nil,or_false] at hz;rcases hz with rfl | rfl | rfl | rfl | rfl
  all_goals first | assumption | exact ⟨by decide,by decide⟩) (fun m1 g1 m2 r1 hm=>?_) (fun m1 g1 r1=>?_))
 ·obtain ⟨g1',c1,c2⟩:=hx m1 g1 r1;have R1:=r1.fw.trans c1.fw;obtain ⟨g2,d1,hD,hpl,how⟩:=mk_dc (t:=t) c1.inv rfl c2 (R1.ex.at hat) hm;refine ⟨g2,c1.trans d1,?_⟩;have R2:=R1.trans d1.fw;have fin:∀ {z:Int} {m':Mst} {g':Gh},Fw m2 g2 m' g'->Fw m g m' g'/\(z≠3->OkW m' g' p x):=fun {z m' g'} r=>⟨R2.trans r,fun _=>by
   have e:=d1.ex.trans r.ex;exact e.okW (fun _ _ q=>e.back (R1.ex.at hat).siv q) c2⟩
  have b2:=d1.inv.dcB hD;generalize hA:(m1.xs.length:Int)+1=A at hD hpl how b2 ⊢;have ew:wrap64 (A+4)=A+4:=Pt.wrap_same (by omega) (by omega);rw [if_pos (by omega)];refine Safe.bind (Safe.cas (fun m3 g3 r3 _ hl=>?_) (fun m3 g3 r3 _=>?_))
  ·have hro:g2.ro A≠none:=by rw [hD.c0];exact fun e=>by cases e
   have ow3:=r3.own A hro;have hD3:=r3.ex.dc hD;have ok3:OkW m3 g3 p o:=by
    obtain ⟨_,_,_,_,_,_,hs,_⟩:=(R2.ex.trans r3.ex).at hat;rcases r3.inv.sees hs.ro with q | q | ⟨q,_⟩
    ·exact absurd (hl.symm.trans q) ho.1
    ·rw [hl] at q;exact q
    ·rw [hl] at q;exact absurd q ho.2
   obtain ⟨g4,i1,hP⟩:=step_in r3.inv hD3 (by rw [(ow3.2 how).2];exact hpl) ok3 hl;rw [ow3.1,how] at i1;refine ⟨g4,i1,?_⟩;have R4:=r3.fw.trans i1.fw;rw [if_pos rfl];refine Safe.bind (Safe.read fun m5 g5 r5=>?_);have hP5:=r5.pd hP;obtain ⟨_,_,_,q4,_,_⟩:=r5.inv.dc hP5.dc;generalize hq:m5.look gd=q;rw [ew];refine Safe.bind (Safe.mono ?_ (settle_safe (q:=q) hP5 rfl (fun e=>by
    cases el:g5.lt A with
    | false=>rfl
    | true=>exact absurd (hq.trans e) (q4 el))))
   rintro _ m6 g6 ⟨r6,n6⟩;refine Safe.bind (Safe.read fun m7 g7 r7=>?_);have hP6:=r6.pd hP5;have hP7:=r7.pd hP6;have e7:=r7.ex.stay _ (.inr (.inr hP6.dc.c4)) n6;have R7:=((R4.trans r5.fw).trans r6.fw).trans r7.fw
   split
   ·rename_i e1;refine Safe.bind (Safe.mono ?_ (take_safe hP7 (by rw [e7];exact n6) (by rw [if_pos e1])));intro _ m8 g8 r8;exact fin (R7.trans r8.fw)
   ·rename_i e1;refine Safe.bind (Safe.mono ?_ (take_safe hP7 (by rw [e7];exact n6) (by rw [if_neg e1])));intro _ m8 g8 r8;exact fin (R7.trans r8.fw)
  ·rw [if_neg (by decide)];exact fin r3.fw
 ·rw [if_neg (by decide)];exact ⟨r1.fw,fun e=>absurd rfl e⟩
end Sd
namespace Sd
theorem guess_in {a b k n:Int} (h:2<=n/\n<=65536/\a<=k/\k < b):1<=Pb.guessZ a b k n/\Pb.guessZ a b k n<=n - 1:=by
 have e:Pb.guessZ a b k n=1+(k - a) * (n - 1) / (b - a):=by
  unfold Pb.guessZ;rw [if_pos h];have e1:Pb.gapZ a k=k - a:=by simp only [Pb.gapZ];rw [if_neg (by omega)]
  have e2:Pb.gapZ a b=b - a:=by simp only [Pb.gapZ];rw [if_neg (by omega)]
  rw [e1,e2];unfold Pb.shareZ;rw [if_pos (by omega),show min (k - a) (b - a)=k - a by omega]
 rw [e];have h1:0<=(k - a) * (n - 1):=Int.mul_nonneg (by omega) (by omega);have h2:(k - a) * (n - 1) < (n - 1) * (b - a):=by
  rw [Int.mul_comm (n - 1)];exact Int.mul_lt_mul_of_pos_right (by omega) (by omega)
 have h3:=Int.ediv_nonneg h1 (show 0<=b - a by omega);have h4:=(Int.ediv_lt_iff_lt_mul (show 0 < b - a by omega)).2 h2;omega
namespace Pr
def downT (n k:Int):Nat->Pr Int
 | 0=>ret 1
 | i+1=>if 1<=i then (read (keyZ n ((i:Int)+1))).bind fun y=>if y<=k then ret ((i:Int)+1) else downT n k i else ret 1
def upT (n k m:Int):Nat->Int->Pr Int
 | 0,_=>ret (m - 1)
 | c+1,i=>(read (keyZ n i)).bind fun y=>if k < y then ret (i - 1) else upT n k m c (i+1)
def route (n k:Int):Pr (Int × Int):=
 (read n).bind fun d=>
 if wrap64 (d - 1) < 1 then ret (d,0) else (read (keyZ n 1)).bind fun f=>
 if k < f then ret (d,0) else if wrap64 (d - 1)=1 then ret (d,1) else (read (keyZ n (wrap64 (d - 1)))).bind fun l=>
 if l<=k then ret (d,wrap64 (d - 1)) else
 if Pb.guessZ f l k (wrap64 (d - 1)) < 1 then ret (d,0) else
 if 1 < Pb.guessZ f l k (wrap64 (d - 1)) then (read (keyZ n (Pb.guessZ f l k (wrap64 (d - 1))))).bind fun y=>
  if k < y then (downT n k (Pb.guessZ f l k (wrap64 (d - 1)) - 1).toNat).bind fun c=>ret (d,c)
  else (upT n k (wrap64 (d - 1)) (wrap64 (d - 1) - (Pb.guessZ f l k (wrap64 (d - 1))+1)).toNat (Pb.guessZ f l k (wrap64 (d - 1))+1)).bind fun c=>ret (d,c)
 else (upT n k (wrap64 (d - 1)) (wrap64 (d - 1) - (Pb.guessZ f l k (wrap64 (d - 1))+1)).toNat (Pb.guessZ f l k (wrap64 (d - 1))+1)).bind fun c=>ret (d,c)
def child (n k:Int):Pr Int:=(route n k).bind fun p=>ret (childZ n p.1 p.2)
end Pr
variable {t:Nat} {m m':Mst} {g g':Gh}
theorem IsInner.far (h:Inv m g) {n d sz:Int} (hI:IsInner g n d sz):1<=n/\n+2 * d+3<=65536:=by
 have h1:=h.lt (c:=n+(2 * d+3)) (hI.rc.2 (2 * d+3) (by have:=hI.pos;omega) (by omega)).2;have h2:=h.ok.2
 have:=hI.rc.1
 omega
theorem key_at (h:Inv m g) {n d sz i:Int} (hI:IsInner g n d sz) (hc:Compl m g n) (r:Rl t m g m' g') (i1:1<=i) (i2:i < d):m'.look (keyZ n i)=gk g n i:=by
 have f:=hI.far h;rw [keyZ_in (by omega) (by omega) (by omega) (by omega),<- r.ex.gk hI i1 i2];exact r.inv.kin n d sz i (r.ex.inner hI) i1 i2 (r.ex.compl hI hc d sz i (r.ex.inner hI) (by omega) i2)
theorem down_safe {m0:Mst} {g0:Gh} (h:Inv m0 g0) {n d sz k:Int} (hI:IsInner g0 n d sz) (hc:Compl m0 g0 n) (h1:gk g0 n 1<=k):∀ (i:Nat),(i:Int)+1 < d->k < gk g0 n (i+1)->1<=i->∀ (m:Mst) (g:Gh),Rl t m0 g0 m g->
  Safe t (Pr.downT n k i) (fun c m' g'=>Rl t m0 g0 m' g'/\1<=c/\c+1 < d/\gk g0 n c<=k/\k < gk g0 n (c+1)) m g
 | 0,_,_,h0,_,_,_=>absurd h0 (by omega)
 | i+1,hi,hk,_,m,g,r=>by
  unfold Pr.downT
  split
  ·rename_i i1;refine Safe.bind (Safe.read fun m1 g1 r1=>?_);have R:=r.trans r1;rw [key_at h hI hc R (by omega) (by omega)]
   split
   ·rename_i e;exact ⟨R,by omega,by omega,e,by have:=hk;rwa [show (((i+1:Nat):Int)+1)=(i:Int)+1+1 by omega] at this⟩
   ·rename_i e;exact down_safe h hI hc h1 i (by omega) (by omega) i1 m1 g1 R
  ·rename_i i1;have e0:i=0:=by omega
   subst e0;exact ⟨r,by omega,by omega,h1,by simpa using hk⟩
theorem up_safe {m0:Mst} {g0:Gh} (h:Inv m0 g0) {n d sz k:Int} (hI:IsInner g0 n d sz) (hc:Compl m0 g0 n) (hl:k < gk g0 n (d - 1)):∀ (c:Nat) (i:Int),2<=i->i+c=d - 1->gk g0 n (i - 1)<=k->∀ (m:Mst) (g:Gh),Rl t m0 g0 m g->
  Safe t (Pr.upT n k (d - 1) c i) (fun c m' g'=>Rl t m0 g0 m' g'/\1<=c/\c+1 < d/\gk g0 n c<=k/\k < gk g0 n (c+1)) m g
 | 0,i,i2,ic,hk,m,g,r=>by
  unfold Pr.upT;have e:i=d - 1:=by omega
  subst e;exact ⟨r,by omega,by omega,hk,by rw [show d - 1 - 1+1=d - 1 by omega];exact hl⟩
 | c+1,i,i2,ic,hk,m,g,r=>by
  unfold Pr.upT;refine Safe.bind (Safe.read fun m1 g1 r1=>?_);have R:=r.trans r1;rw [key_at h hI hc R (by omega) (by omega)]
  split
  ·rename_i e;exact ⟨R,by omega,by omega,hk,by rw [show i - 1+1=i by omega];exact e⟩
  ·rename_i e;exact up_safe h hI hc hl c (i+1) (by omega) (by omega) (by rw [show i+1 - 1=i by omega];omega) m1 g1 R
theorem route_safe (h:Inv m g) {n d sz lo hi k:Int} (hI:IsInner g n d sz) (hc:Compl m g n) (hk:lo<=k/\k<=hi) :
  Safe t (Pr.route n k) (fun p m' g'=>Rl t m g m' g'/\p.1=d/\0<=p.2/\p.2 < d/\gl g n lo p.2<=k/\k<=gu g n d hi p.2) m g:=by
 have f:=hI.far h;have p:=hI.pos;have ew:wrap64 (d - 1)=d - 1:=Pt.wrap_same (by omega) (by omega);have lo0:gl g n lo 0<=k:=by unfold gl;rw [if_pos rfl];exact hk.1
 have mid:∀ c:Int,1<=c->c+1 < d->gk g n c<=k->k < gk g n (c+1)->gl g n lo c<=k/\k<=gu g n d hi c:=fun c c1 c2 q1 q2=>by
  unfold gl gu;rw [if_neg (by omega),if_pos c2];omega
 unfold Pr.route;refine Safe.bind (Safe.read fun m1 g1 r1=>?_);rw [r1.inv.fix (r1.ex.inner hI).c0,ew]
 split
 ·rename_i d1;exact ⟨r1,rfl,by simp,by simp;omega,lo0,by unfold gu;rw [if_neg (by simp;omega)];exact hk.2⟩
 rename_i d1;refine Safe.bind (Safe.read fun m2 g2 r2=>?_);have R2:=r1.trans r2;rw [key_at h hI hc R2 (by omega) (by omega)]
 split
 ·rename_i e;exact ⟨R2,rfl,by simp,by simp;omega,lo0,by unfold gu;rw [if_pos (by simp;omega)];simp;omega⟩
 rename_i e1
 split
 ·rename_i e2;exact ⟨R2,rfl,by simp,by simp;omega,by unfold gl;rw [if_neg (by simp)];simp;omega,by unfold gu;rw [if_neg (by simp;omega)];exact hk.2⟩
 rename_i e2;refine Safe.bind (Safe.read fun m3 g3 r3=>?_);have R3:=R2.trans r3;rw [key_at h hI hc R3 (by omega) (by omega)]
 split
 ·rename_i e3;exact ⟨R3,rfl,by simp;omega,by show d - 1 < d;omega,by unfold gl;rw [if_neg (by simp;omega)];exact e3,by unfold gu;rw [if_neg (by simp)];exact hk.2⟩
 rename_i e3;obtain ⟨j1,j2⟩:=guess_in (a:=gk g n 1) (b:=gk g n (d - 1)) (k:=k) (n:=d - 1) ⟨by omega,by omega,by omega,by omega⟩;generalize Pb.guessZ (gk g n 1) (gk g n (d - 1)) k (d - 1)=j at j1 j2 ⊢;rw [if_neg (by omega)];have fin:∀ (pp:Pr Int) (m4:Mst) (g4:Gh),Safe t pp (fun c m' g'=>Rl t m g m' g'/\1<=c/\c+1 < d/\gk g n c<=k/\k < gk g n (c+1)) m4 g4->Safe t (pp.bind fun c=>Pr.ret (d,c)) (fun p m' g'=>Rl t m g m' g'/\p.1=d/\0<=p.2/\p.2 < d/\gl g n lo p.2<=k/\k<=gu g n d hi p.2) m4 g4:=fun pp m4 g4 hs=>by
  refine Safe.bind (Safe.mono ?_ hs);rintro c m5 g5 ⟨q1,q2,q3,q4,q5⟩;exact ⟨q1,rfl,by simp;omega,by simp;omega,mid c q2 q3 q4 q5⟩
 split
 ·rename_i e4;refine Safe.bind (Safe.read fun m4 g4 r4=>?_);have R4:=R3.trans r4;rw [key_at h hI hc R4 (by omega) (by omega)]
  split
  ·rename_i e5;refine fin _ _ _ (down_safe h hI hc (by omega) (j - 1).toNat (by omega) (by rw [show (((j - 1).toNat:Nat):Int)+1=j by omega];exact e5) (by omega) m4 g4 R4)
  ·rename_i e5;exact fin _ _ _ (up_safe h hI hc (by omega) _ _ (by omega) (by omega) (by rw [show j+1 - 1=j by omega];omega) m4 g4 R4)
 ·rename_i e4;have ej:j=1:=by omega
  subst ej;exact fin _ _ _ (up_safe h hI hc (by omega) _ _ (by omega) (by omega) (by rw [show (1:Int)+1 - 1=1 by omega];omega) m3 g3 R3)
theorem child_safe (h:Inv m g) {n d sz lo hi k:Int} (hI:IsInner g n d sz) (hc:Compl m g n) (hk:lo<=k/\k<=hi) :
  Safe t (Pr.child n k) (fun s m' g'=>Rl t m g m' g'/\∃ i,Slot g s n d sz i/\gl g n lo i<=k/\k<=gu g n d hi i) m g:=by
 have f:=hI.far h;unfold Pr.child;refine Safe.bind (Safe.mono ?_ (route_safe h hI hc hk));rintro ⟨d',c⟩ m1 g1 ⟨q1,q2,q3,q4,q5,q6⟩;simp only at q2 q3 q4 q5 q6;subst q2;exact ⟨q1,c,⟨hI,q3,q4,childZ_in (by omega) (by omega) (by omega) (by omega) (by omega) (by omega)⟩,q5,q6⟩
end Sd
namespace Sd
variable {t:Nat} {m m':Mst} {g g':Gh}
theorem Fz.okW (h:Inv m g) {c w:Int} (q:Fz m g c w):OkW m g c w:=by
 obtain ⟨a,d,n,i,hs,_,w0,k5,q⟩:=q;rcases q with q | ⟨_,qp,_,gd,x,hD⟩
 ·rcases h.sees hs.ro with e | e | ⟨e,_⟩
  ·rw [q] at e;exact absurd e w0
  ·rwa [q] at e
  ·rw [q] at e;exact absurd e k5
 ·exact (h.dc hD).1 qp
def Up (ps:Ps):Prop:=ps.Pairwise fun p q=>p.1 < q.1
theorem pre_up (h:Inv m g) {a lo hi d n:Int} (hv:Iv g a lo hi) (hI:IsInner g a d n) (q:Nat->Ps):∀ k:Nat,(k:Int)<=d->(∀ i:Nat,i < k->(∀ p ∈ q i,gl g a lo i<=p.1/\p.1<=gu g a d hi i/\∃ b,IsLeaf g b p.1 p.2)/\Up (q i))->
  (∀ p ∈ (List.range k).flatMap q,lo<=p.1/\p.1<=hi/\(∃ b,IsLeaf g b p.1 p.2)/\∃ i:Nat,i < k/\p.1<=gu g a d hi i)/\Up ((List.range k).flatMap q)
 | 0,_,_=>⟨by simp,by simp [Up]⟩
 | k+1,hk,one=>by
  obtain ⟨i1,i2⟩:=pre_up h hv hI q k (by omega) (fun i hi'=>one i (by omega));obtain ⟨o1,o2⟩:=one k (by omega);have w:=h.within hv hI (i:=(k:Int)) (by omega) (by omega);rw [List.range_succ,List.flatMap_append];simp only [List.flatMap_cons,List.flatMap_nil,List.append_nil];refine ⟨fun p hp=>?_,?_⟩
  ·rcases List.mem_append.1 hp with hp | hp
   ·obtain ⟨a1,a2,a3,i,a4,a5⟩:=i1 p hp;exact ⟨a1,a2,a3,i,by omega,a5⟩
   ·obtain ⟨a1,a2,a3⟩:=o1 p hp;exact ⟨by omega,by omega,a3,k,by omega,a2⟩
  ·unfold Up;rw [List.pairwise_append];refine ⟨i2,o2,fun p hp p' hp'=>?_⟩;obtain ⟨_,_,_,i,a4,a5⟩:=i1 p hp;have b1:=(o1 p' hp').1
   have:=h.order hv hI (i:=(i:Int)) (j:=(k:Int)) (by omega) (by omega) (by omega)
   omega
theorem one_up (h:Inv m g) {F:Int->Ps->Prop} (hF:∀ {a lo hi:Int} {ps:Ps},Iv g a lo hi->F a ps->(∀ p ∈ ps,lo<=p.1/\p.1<=hi/\∃ b,IsLeaf g b p.1 p.2)/\Up ps) {c lo hi:Int} {ps:Ps} (sv:SIv g c lo hi) (hq:FS m g F c ps) :
  (∀ p ∈ ps,lo<=p.1/\p.1<=hi/\∃ b,IsLeaf g b p.1 p.2)/\Up ps:=by
 obtain ⟨w,hz,hw⟩:=hq;have ok:=hz.okW h;rcases hw with ⟨_,e⟩ | ⟨k,u,v,hl,e⟩ | ⟨k,e,_⟩ | ⟨k,tg,gd,p,hR,e,_⟩
 ·rw [e];exact ⟨by simp,List.Pairwise.nil⟩
 ·rcases ok with ⟨k',_⟩ | ⟨_,u',v',hl',hb⟩ | ⟨k',_⟩ | ⟨k',_⟩
  ·omega
  ·have e1:=hl.c0.symm.trans hl'.c0;cases e1;rw [e];refine ⟨fun p hp=>?_,List.pairwise_singleton _ _⟩;rw [List.mem_singleton] at hp;rw [hp];exact ⟨(hb _ _ sv).1,(hb _ _ sv).2,_,hl⟩
  ·omega
  ·omega
 ·rcases ok with ⟨k',_⟩ | ⟨k',_⟩ | ⟨_,d',n',_,_,hb,hm,_⟩ | ⟨k',_⟩
  ·omega
  ·omega
  ·exact hF (Iv.slot sv hb hm) e
  ·omega
 ·rcases ok with ⟨k',_⟩ | ⟨k',_⟩ | ⟨k',_⟩ | ⟨_,t',gd',hR',_,_,d',n',_,_,hb,hm,_⟩
  ·omega
  ·omega
  ·omega
  ·obtain ⟨rfl,_⟩:=hR.fn hR';exact hF (Iv.slot sv hb hm) e
theorem FTf.up (h:Inv m g):∀ {f:Nat} {a lo hi:Int} {ps:Ps},Iv g a lo hi->FTf m g f a ps->(∀ p ∈ ps,lo<=p.1/\p.1<=hi/\∃ b,IsLeaf g b p.1 p.2)/\Up ps
 | 0,_,_,_,_,_,q=>q.elim
 | f+1,a,lo,hi,ps,hv,⟨d,n,q,hI,_,hq,e⟩=>by
  obtain ⟨a1,a2⟩:=pre_up h hv hI q d.toNat (by have:=hI.pos;omega) (fun i hi'=>one_up h (fun q1 q2=>FTf.up h q1 q2) (Slot.siv ⟨hI,by omega,by omega,rfl⟩ hv) (hq i (by omega)));rw [e];exact ⟨fun p hp=>⟨(a1 p hp).1,(a1 p hp).2.1,(a1 p hp).2.2.1⟩,a2⟩
theorem FT.up (h:Inv m g) {a lo hi:Int} {ps:Ps} (hv:Iv g a lo hi) (q:FT m g a ps):(∀ p ∈ ps,lo<=p.1/\p.1<=hi/\∃ b,IsLeaf g b p.1 p.2)/\Up ps:=by
 obtain ⟨f,q⟩:=q;exact q.up h hv
theorem few_nat:∀ (N:Nat) (l:List Nat),l.Nodup->(∀ x ∈ l,x < N)->l.length<=N
 | 0,l,_,h=>by
  cases l with
  | nil=>simp
  | cons x l=>exact absurd (h x (by simp)) (by omega)
 | N+1,l,hn,h=>by
  by_cases e:N ∈ l
  ·have h1:=few_nat N (l.erase N) (hn.erase N) (fun x hx=>by
    have:=(hn.mem_erase_iff).1 hx
    have h2:=h x this.2;have h3:=this.1;omega)
   rw [List.length_erase_of_mem e] at h1;omega
  ·have:=few_nat N l hn (fun x hx=>by
    have h2:=h x hx
    have:x≠N:=fun q=>e (q ▸ hx)
    omega)
   omega
theorem up_few (h:Inv m g):∀ {ps:Ps},(∀ p ∈ ps,∃ b,IsLeaf g b p.1 p.2)->Up ps->ps.length<=16384:=by
 intro ps hl hu
 have:∃ l:List Nat,l.length=ps.length/\l.Nodup/\∀ x ∈ l,x < m.xs.length/\∃ p ∈ ps,IsLeaf g ((x:Int)+1) p.1 p.2:=by
  induction ps with
  | nil=>exact ⟨[],rfl,List.nodup_nil,by simp⟩
  | cons p ps ih=>
   unfold Up at hu;rw [List.pairwise_cons] at hu;obtain ⟨l,l1,l2,l3⟩:=ih (fun p hp=>hl p (by simp [hp])) hu.2;obtain ⟨b,hb⟩:=hl p (by simp);have bb:=h.lt (c:=b) (by rw [hb.c0];exact fun e=>by cases e);refine ⟨(b - 1).toNat :: l,by simp [l1],List.nodup_cons.2 ⟨fun hx=>?_,l2⟩,fun x hx=>?_⟩
   ·obtain ⟨_,p',hp',hq⟩:=l3 _ hx;rw [show (((b - 1).toNat:Nat):Int)+1=b by omega] at hq;have e:=Ro.fix.inj (Option.some.inj (hb.c0.symm.trans hq.c0))
    have:=hu.1 p' hp'
    omega
   ·rcases List.mem_cons.1 hx with rfl | hx
    ·exact ⟨by omega,p,by simp,by rw [show (((b - 1).toNat:Nat):Int)+1=b by omega];exact hb⟩
    ·obtain ⟨a1,p',hp',a2⟩:=l3 x hx;exact ⟨a1,p',by simp [hp'],a2⟩
 obtain ⟨l,l1,l2,l3⟩:=this;rw [<- l1]
 have:=few_nat m.xs.length l l2 (fun x hx=>(l3 x hx).1)
 have:=h.sz
 omega
theorem FT.few (h:Inv m g) {a lo hi:Int} {ps:Ps} (hv:Iv g a lo hi) (q:FT m g a ps):ps.length<=16384:=by
 obtain ⟨h1,h2⟩:=q.up h hv;exact up_few h (fun p hp=>(h1 p hp).2.2) h2
theorem FS.mono {F F':Int->Ps->Prop} (hF:∀ a ps,F a ps->F' a ps) {c:Int} {ps:Ps} (q:FS m g F c ps):FS m g F' c ps:=by
 obtain ⟨w,h1,h2⟩:=q;refine ⟨w,h1,?_⟩;rcases h2 with e | e | ⟨k,e,e2⟩ | ⟨k,t,gd,p,e0,e,e2⟩
 ·exact .inl e
 ·exact .inr (.inl e)
 ·exact .inr (.inr (.inl ⟨k,hF _ _ e,e2⟩))
 ·exact .inr (.inr (.inr ⟨k,t,gd,p,e0,hF _ _ e,e2⟩))
theorem FTf.succ:∀ (f:Nat) (a:Int) (ps:Ps),FTf m g f a ps->FTf m g (f+1) a ps
 | 0,_,_,h=>h.elim
 | f+1,_,_,⟨d,n,q,h1,h2,h3,h4⟩=>⟨d,n,q,h1,h2,fun i hi=>FS.mono (FTf.succ f) (h3 i hi),h4⟩
theorem FTf.le {f f':Nat} (h:f<=f') {a:Int} {ps:Ps} (q:FTf m g f a ps):FTf m g f' a ps:=by
 induction h with
 | refl=>exact q
 | step _ ih=>exact FTf.succ _ _ _ ih
theorem FS.fuel {c:Int} {ps:Ps} (q:FS m g (FT m g) c ps):∃ f,FS m g (FTf m g f) c ps:=by
 obtain ⟨w,h1,h2⟩:=q;rcases h2 with e | e | ⟨k,⟨f,e⟩,e2⟩ | ⟨k,t,gd,p,e0,⟨f,e⟩,e2⟩
 ·exact ⟨0,w,h1,.inl e⟩
 ·exact ⟨0,w,h1,.inr (.inl e)⟩
 ·exact ⟨f,w,h1,.inr (.inr (.inl ⟨k,e,e2⟩))⟩
 ·exact ⟨f,w,h1,.inr (.inr (.inr ⟨k,t,gd,p,e0,e,e2⟩))⟩
theorem ft_mk {a d n:Int} (hI:IsInner g a d n) (h2:m.look (a+2)≠0) (q:Nat->Ps) (hq:∀ i:Nat,(i:Int) < d->FS m g (FT m g) (a+4+d+i) (q i)):FT m g a ((List.range d.toNat).flatMap q):=by
 have:∀ k:Nat,(k:Int)<=d->∃ f,∀ i:Nat,i < k->FS m g (FTf m g f) (a+4+d+i) (q i):=by
  intro k
  induction k with
  | zero=>intro _;exact ⟨0,fun i hi=>absurd hi (by omega)⟩
  | succ k ih=>
   intro hk;obtain ⟨f,hf⟩:=ih (by omega);obtain ⟨f',hf'⟩:=(hq k (by omega)).fuel;refine ⟨max f f',fun i hi=>?_⟩
   by_cases e:i=k
   ·subst e;exact FS.mono (fun _ _=>FTf.le (by omega)) hf'
   ·exact FS.mono (fun _ _=>FTf.le (by omega)) (hf i (by omega))
 obtain ⟨f,hf⟩:=this d.toNat (by have:=hI.pos;omega);exact ⟨f+1,d,n,q,hI,h2,fun i hi=>hf i (by omega),rfl⟩
theorem Ex.fsT (h:Ex m g m' g') {c:Int} {ps:Ps} (q:FS m g (FT m g) c ps):FS m' g' (FT m' g') c ps:=
 h.fs (fun _ _ e=>h.ft e) (fun _ _ ⟨_,e⟩=>FTf.inner e) q
end Sd
namespace Sd
namespace Pr
def markK (g:Int->Pr Int) (N:Nat) (n d:Int):Nat->Int->Int->Pr Int
 | 0,_,y=>ret y
 | c+1,i,y=>(slot N (childZ n d i)).bind fun w=>
  if kd w=2 then markK g N n d c (i+1) (wrap64 (y+1))
  else if kd w=3 then (g (ad w)).bind fun z=>markK g N n d c (i+1) (wrap64 (y+z))
  else if kd w=4 then (read (ad w)).bind fun q=>(g (ad q)).bind fun z=>markK g N n d c (i+1) (wrap64 (y+z))
  else markK g N n d c (i+1) y
def mark (N:Nat):Nat->Int->Pr Int
 | 0=>fun _=>stop
 | f+1=>fun n=>(read (wrap64 (n+4))).bind fun s=>
  if s=0 then (write (wrap64 (n+2)) 1).bind fun _=>(read n).bind fun d=>(markK (mark N f) N n d d.toNat 0 0).bind fun y=>(write (wrap64 (n+4)) (wrap64 (y+1))).bind fun _=>ret y
  else ret (wrap64 (s - 1))
end Pr
variable {t:Nat} {m m':Mst} {g g':Gh}
structure Nd (m:Mst) (g:Gh) (a d n lo hi:Int):Prop where
 inn:IsInner g a d n
 ne:a≠1
 cm:Compl m g a
 iv:Iv g a lo hi
theorem Ex.nd (h:Ex m g m' g') {a d n lo hi:Int} (q:Nd m g a d n lo hi):Nd m' g' a d n lo hi:=⟨h.inner q.inn,q.ne,h.compl q.inn q.cm,h.iv q.iv⟩
theorem OkI.nd {c w lo hi:Int} (q:OkI m g c w) (sv:SIv g c lo hi):∃ d n,Nd m g (ad w) d n lo hi/\2<=d:=by
 obtain ⟨_,d,n,h1,h2,h3,h4,h5⟩:=q;exact ⟨d,n,⟨h1,h3,h5,Iv.slot sv h3 h4⟩,h2⟩
structure Mk (t:Nat) (m:Mst) (g:Gh) (a:Int) (z:Int) (m':Mst) (g':Gh):Prop where
 rl:Rl t m g m' g'
 ft:∃ ps,FT m' g' a ps/\z=ps.length/\m'.look (a+4)=ps.length+1
def MarkC (t N f:Nat):Prop:=∀ (m:Mst) (g:Gh) (a d n lo hi:Int),Inv m g->Nd m g a d n lo hi->Safe t (Pr.mark N f a) (fun z m' g'=>Mk t m g a z m' g') m g
theorem sumLen (q:Nat->Ps) (k:Nat):(((List.range (k+1)).flatMap q).length:Int)=(((List.range k).flatMap q).length:Int)+(q k).length:=by
 rw [List.range_succ,List.flatMap_append];simp
structure Kd (t:Nat) (m0:Mst) (g0:Gh) (m:Mst) (g:Gh) (a d:Int) (q:Nat->Ps) (k:Nat):Prop where
 rl:Rl t m0 g0 m g
 shut:m.look (a+2)≠0
 fs:∀ i:Nat,i < k->FS m g (FT m g) (a+4+d+i) (q i)
theorem Kd.on {m0:Mst} {g0:Gh} {a d n:Int} {q:Nat->Ps} {k:Nat} (h:Kd t m0 g0 m g a d q k) (hI:IsInner g a d n) (r:Rl t m g m' g'):Kd t m0 g0 m' g' a d q k:=
 ⟨h.rl.trans r,r.ex.shut _ hI.c2 h.shut,fun i hi=>r.ex.fsT (h.fs i hi)⟩
theorem Kd.few {m0:Mst} {g0:Gh} {a d n lo hi:Int} {q:Nat->Ps} {k:Nat} (h:Kd t m0 g0 m g a d q k) (hN:Nd m g a d n lo hi) (hk:(k:Int)<=d):((List.range k).flatMap q).length<=16384:=by
 obtain ⟨a1,a2⟩:=pre_up h.rl.inv hN.iv hN.inn q k hk (fun i hi'=>one_up h.rl.inv (fun q1 q2=>FT.up h.rl.inv q1 q2) (Slot.siv ⟨hN.inn,by omega,by omega,rfl⟩ hN.iv) (h.fs i hi'));exact up_few h.rl.inv (fun p hp=>(a1 p hp).2.2.1) a2
theorem Kd.more {m0:Mst} {g0:Gh} {a d:Int} {q:Nat->Ps} {k:Nat} (h:Kd t m0 g0 m g a d q k) {ps:Ps} (hp:FS m g (FT m g) (a+4+d+k) ps):Kd t m0 g0 m g a d (fun i=>if i=k then ps else q i) (k+1):=
 ⟨h.rl,h.shut,fun i hi=>by
  by_cases e:i=k
  ·show FS m g _ _ (if i=k then ps else q i);rw [if_pos e,e];exact hp
  ·show FS m g _ _ (if i=k then ps else q i);rw [if_neg e];exact h.fs i (by omega)⟩
theorem pre_same (q:Nat->Ps) (k:Nat) (ps:Ps):(List.range k).flatMap (fun i=>if i=k then ps else q i)=(List.range k).flatMap q:=by
 have:∀ l:List Nat,(∀ i ∈ l,i≠k)->l.flatMap (fun i=>if i=k then ps else q i)=l.flatMap q:=by
  intro l
  induction l with
  | nil=>intro _;rfl
  | cons i l ih=>
   intro hl;rw [List.flatMap_cons,List.flatMap_cons,if_neg (hl i (by simp)),ih (fun j hj=>hl j (by simp [hj]))]
 exact this _ (fun i hi=>by have:=List.mem_range.1 hi;omega)
theorem kids_safe (t N f:Nat) (ih:MarkC t N f) {m0:Mst} {g0:Gh} {a d n lo hi:Int} (hN:Nd m0 g0 a d n lo hi) (hI0:Inv m0 g0):∀ (c k:Nat) (y:Int) (q:Nat->Ps) (m:Mst) (g:Gh),(k:Int)+c=d->Kd t m0 g0 m g a d q k->y=((List.range k).flatMap q).length->
  Safe t (Pr.markK (Pr.mark N f) N a d c k y) (fun z m' g'=>∃ q',Kd t m0 g0 m' g' a d q' d.toNat/\z=((List.range d.toNat).flatMap q').length) m g
 | 0,k,y,q,m,g,hk,h,hy=>by
  unfold Pr.markK
  have:d.toNat=k:=by omega
  exact ⟨q,by rw [this];exact h,by rw [this];exact hy⟩
 | c+1,k,y,q,m,g,hk,h,hy=>by
  unfold Pr.markK;have f0:=hN.inn.far hI0;have hs0:Slot g0 (a+4+d+k) a d n k:=⟨hN.inn,by omega,by omega,rfl⟩;have hN1:=h.rl.ex.nd hN;have cz:childZ a d k=a+4+d+k:=childZ_in (by omega) (by omega) (by have:=hN.inn.pos;omega) (by omega) (by omega) (by omega);rw [cz];refine Safe.bind (Safe.mono ?_ (slot_safe N (h.rl.ex.sl hs0).ro));rintro w m1 g1 ⟨r1,ew,k5⟩;have h1:=h.on hN1.inn r1;have hN2:=r1.ex.nd hN1;have hs1:Slot g1 (a+4+d+k) a d n k:=⟨hN2.inn,by omega,by omega,rfl⟩;have sv1:=hs1.siv hN2.iv;have w0:w≠0:=by rw [<- ew];exact hN2.cm d n k hN2.inn (by omega) (by omega)
  have hz:Fz m1 g1 (a+4+d+k) w:=⟨a,d,n,k,hs1,h1.shut,w0,k5,.inl ew⟩;have ok:=hz.okW r1.inv;have next:∀ (ps:Ps) (m2:Mst) (g2:Gh) (y':Int),Kd t m0 g0 m2 g2 a d q k->FS m2 g2 (FT m2 g2) (a+4+d+k) ps->y'=wrap64 (y+ps.length)->Safe t (Pr.markK (Pr.mark N f) N a d c ((k:Int)+1) y') (fun z m' g'=>∃ q',Kd t m0 g0 m' g' a d q' d.toNat/\z=((List.range d.toNat).flatMap q').length) m2 g2:=fun ps m2 g2 y' h2 hp hy'=>by
   have h3:=h2.more hp;have b:=h3.few (h2.rl.ex.nd hN) (by omega);have e:=sumLen (fun i=>if i=k then ps else q i) k;rw [pre_same,if_pos rfl] at e
   have:=kids_safe t N f ih hN hI0 c (k+1) y' _ m2 g2 (by omega) h3 (by rw [hy',Pt.wrap_same (by omega) (by omega)];omega)
   rwa [show ((k+1:Nat):Int)=(k:Int)+1 by omega] at this
  split
  ·rename_i k2;rcases ok with ⟨k',_⟩ | ⟨_,u,v,hl,_⟩ | ⟨k',_⟩ | ⟨k',_⟩
   ·omega
   ·exact next [(u,v)] m1 g1 _ h1 ⟨w,hz,.inr (.inl ⟨k2,u,v,hl,rfl⟩)⟩ rfl
   ·omega
   ·omega
  ·rename_i k2
   split
   ·rename_i k3;rcases ok with ⟨k',_⟩ | ⟨k',_⟩ | hO | ⟨k',_⟩
    ·omega
    ·omega
    ·obtain ⟨d',n',hN',_⟩:=hO.nd sv1;refine Safe.bind (Safe.mono ?_ (ih m1 g1 (ad w) d' n' _ _ r1.inv hN'));rintro z m2 g2 ⟨r2,ps,hp,ez,e4⟩;exact next ps m2 g2 _ (h1.on hN2.inn r2) ⟨w,r2.ex.fz _ _ hz,.inr (.inr (.inl ⟨k3,hp,e4⟩))⟩ (by rw [ez])
    ·omega
   ·rename_i k3
    split
    ·rename_i k4;rcases ok with ⟨k',_⟩ | ⟨k',_⟩ | ⟨k',_⟩ | ⟨_,tg,gd,hR,_,hO⟩
     ·omega
     ·omega
     ·omega
     ·refine Safe.bind (Safe.read fun m2 g2 r2=>?_);have hR2:=r2.ex.reb hR;rw [r2.inv.fix hR2.c0];have h2:=h1.on hN2.inn r2;have hN3:=r2.ex.nd hN2;obtain ⟨d',n',hN',_⟩:=(r2.ex.okI hO).nd (r2.ex.siv sv1);refine Safe.bind (Safe.mono ?_ (ih m2 g2 (ad tg) d' n' _ _ r2.inv hN'));rintro z m3 g3 ⟨r3,ps,hp,ez,e4⟩;exact next ps m3 g3 _ (h2.on hN3.inn r3) ⟨w,r3.ex.fz _ _ (r2.ex.fz _ _ hz),.inr (.inr (.inr ⟨k4,tg,gd,_,r3.ex.reb hR2,hp,e4⟩))⟩ (by rw [ez])
    ·rename_i k4;have k1:=ok.knd
     have:=next [] m1 g1 y h1 ⟨w,hz,.inl ⟨by omega,rfl⟩⟩ (by
      have b:=h.few hN1 (by omega);rw [Pt.wrap_same (by simp;omega) (by simp;omega)];simp)
     exact this
theorem mark_safe (t N:Nat):∀ f,MarkC t N f
 | 0=>fun _ _ _ _ _ _ _ _ _=>trivial
 | f+1=>fun m g a d n lo hi h hN=>by
  have ih:=mark_safe t N f;have f0:=hN.inn.far h;have p0:=hN.inn.pos;have e4:wrap64 (a+4)=a+4:=Pt.wrap_same (by omega) (by omega);have e2:wrap64 (a+2)=a+2:=Pt.wrap_same (by omega) (by omega);unfold Pr.mark;rw [e4,e2];refine Safe.bind (Safe.read fun m1 g1 r1=>?_);have hN1:=r1.ex.nd hN
  split
  ·refine Safe.bind (Safe.write fun m2 g2 r2=>?_);have R2:=r1.trans r2;have hN2:=R2.ex.nd hN;have hu:m2.used (a+2)=true:=(r2.inv.used _).1 (by rw [hN2.inn.c2];exact fun e=>by cases e);have hp:=write_put r2.inv.ok hu (x:=1) ⟨by decide,by decide⟩;have st:=step_shut r2.inv hN2.inn hN2.ne hN2.cm hp;refine ⟨g2,Gt.same st,?_⟩;have R3:=R2.trans (Gt.rl' st);refine Safe.bind (Safe.read fun m4 g4 r4=>?_);have R4:=R3.trans r4;have hN4:=R4.ex.nd hN;rw [r4.inv.fix hN4.inn.c0];have sh:m4.look (a+2)≠0:=r4.ex.shut _ hN2.inn.c2 (by rw [hp.eq];decide);refine Safe.bind (Safe.mono ?_ (kids_safe t N f ih hN h d.toNat 0 0 (fun _=>[]) m4 g4 (by omega) ⟨R4,sh,fun i hi'=>absurd hi' (by omega)⟩ (by simp)));rintro z m5 g5 ⟨q,hK,ez⟩;have hN5:=hK.rl.ex.nd hN;have b:=hK.few hN5 (by omega);refine Safe.bind (Safe.write fun m6 g6 r6=>?_);have R6:=hK.rl.trans r6;have hN6:=R6.ex.nd hN;have hK6:=hK.on hN5.inn r6;have hF:=ft_mk hN6.inn hK6.shut q (fun i hi'=>hK6.fs i (by omega));have ew:wrap64 (z+1)=(((List.range d.toNat).flatMap q).length:Int)+1:=by rw [ez];exact Pt.wrap_same (by omega) (by omega)
   rw [ew];have hu6:m6.used (a+4)=true:=(r6.inv.used _).1 (by rw [hN6.inn.c4];exact fun e=>by cases e);have hp6:=write_put r6.inv.ok hu6 (x:=(((List.range d.toNat).flatMap q).length:Int)+1) ⟨by omega,by omega⟩;have st6:=step_sum r6.inv hN6.inn hF hp6;refine ⟨g6,Gt.same st6,?_⟩;exact ⟨R6.trans (Gt.rl' st6),_,st6.2.ft hF,ez,hp6.eq⟩
  ·rename_i e;have c:=r1.inv.cell (a+4);unfold COk at c;rw [hN1.inn.c4,hN1.inn.rb (j:=4) (by omega) (by omega)] at c;rcases c with c | ⟨ps,c1,c2⟩
   ·exact absurd c e
   ·have b:=c1.few r1.inv hN1.iv;exact ⟨r1,ps,c1,by rw [c2,Pt.wrap_same (by omega) (by omega)];omega,c2⟩
end Sd
namespace Sd
namespace Pr
def gatherK (g:Int->Int->Int->Ps->Pr Ps) (n d f tu:Int):Nat->Int->Int->Ps->Pr Ps
 | 0,_,_,ys=>ret ys
 | c+1,i,rk,ys=>
  if tu<=rk then ret ys else (peek (childZ n d i)).bind fun x=>
  if kd x=2 then
   if f<=rk then (read (ad x)).bind fun k=>(read (ad x+1)).bind fun v=>gatherK g n d f tu c (i+1) (wrap64 (rk+1)) (ys++[(k,v)])
   else gatherK g n d f tu c (i+1) (wrap64 (rk+1)) ys
  else if kd x=3 then (read (ad x+4)).bind fun q=>
   if f < wrap64 (rk+wrap64 (q - 1)) then (g (ad x) (wrap64 (f - rk)) (wrap64 (tu - rk)) ys).bind fun y=>gatherK g n d f tu c (i+1) (wrap64 (rk+wrap64 (q - 1))) y
   else gatherK g n d f tu c (i+1) (wrap64 (rk+wrap64 (q - 1))) ys
  else if kd x=4 then (read (ad x)).bind fun b=>(read (ad b+4)).bind fun q=>
   if f < wrap64 (rk+wrap64 (q - 1)) then (g (ad b) (wrap64 (f - rk)) (wrap64 (tu - rk)) ys).bind fun y=>gatherK g n d f tu c (i+1) (wrap64 (rk+wrap64 (q - 1))) y
   else gatherK g n d f tu c (i+1) (wrap64 (rk+wrap64 (q - 1))) ys
  else gatherK g n d f tu c (i+1) rk ys
def gather:Nat->Int->Int->Int->Ps->Pr Ps
 | 0=>fun _ _ _ _=>stop
 | F+1=>fun n f tu xs=>(read n).bind fun d=>gatherK (gather F) n d f tu d.toNat 0 0 xs
end Pr
variable {t:Nat} {m m':Mst} {g g':Gh}
def sel (ps:Ps) (f tu:Int):Ps:=(ps.take tu.toNat).drop f.toNat
theorem sel_append (A B:Ps) (f tu:Int):sel (A++B) f tu=sel A f tu++sel B (f - A.length) (tu - A.length):=by
 unfold sel;rw [List.take_append,List.drop_append,show tu.toNat - A.length=(tu - A.length).toNat by omega];congr 1
 by_cases h:A.length<=tu.toNat
 ·rw [List.length_take,Nat.min_eq_right h,show f.toNat - A.length=(f - A.length).toNat by omega]
 ·rw [show (tu - (A.length:Int)).toNat=0 by omega];simp
theorem sel_none {ps:Ps} {f tu:Int} (h:tu<=0∨(ps.length:Int)<=f):sel ps f tu=[]:=by
 unfold sel;rcases h with h | h
 ·rw [show tu.toNat=0 by omega];simp
 ·apply List.drop_of_length_le;rw [List.length_take];omega
theorem sel_one {p:Int × Int} {f tu:Int} (h:f<=0) (h2:0 < tu):sel [p] f tu=[p]:=by
 unfold sel;rw [show f.toNat=0 by omega,List.drop_zero,List.take_of_length_le (by simp;omega)]
theorem peek_fz {c w:Int} (hz:Fz m g c w):Safe t (Pr.peek c) (fun z m' g'=>Rl t m g m' g'/\z=w) m g:=by
 unfold Pr.peek;refine Safe.bind (Safe.read fun m1 g1 r1=>?_);obtain ⟨a,d,n,i,hs,_,_,k5,q⟩:=r1.ex.fz _ _ hz;rcases q with q | ⟨q5,q1,q2,gd,x,hD⟩
 ·rw [q,if_neg k5];exact ⟨r1,rfl⟩
 ·rw [if_pos q5];refine Safe.bind (Safe.read fun m2 g2 r2=>?_);have hD2:=r2.ex.dc hD;have lt2:=(r2.ex.pl _ q1).2.trans q2;rw [if_neg ((r2.inv.dc hD2).2.2.2.2.2 lt2)];refine Safe.read fun m3 g3 r3=>⟨(r1.trans r2).trans r3,r3.inv.fix (r3.ex.dc hD2).c2⟩
def GatherC (t F:Nat):Prop:=∀ (m:Mst) (g:Gh) (a f tu lo hi:Int) (ps xs:Ps),Inv m g->Iv g a lo hi->FT m g a ps->-4000000000000000000+65536 * (F:Int)<=f->f<=1000000->-4000000000000000000+65536 * (F:Int)<=tu->tu<=1000000->Safe t (Pr.gather F a f tu xs) (fun ys m' g'=>Rl t m g m' g'/\ys=xs++sel ps f tu) m g
theorem FT.parts {a:Int} {ps:Ps} (h:FT m g a ps):∃ (d n:Int) (q:Nat->Ps),IsInner g a d n/\m.look (a+2)≠0/\(∀ i:Nat,(i:Int) < d->FS m g (FT m g) (a+4+d+i) (q i))/\ps=(List.range d.toNat).flatMap q:=by
 obtain ⟨f,h⟩:=h;cases f with
 | zero=>exact h.elim
 | succ f=>
  obtain ⟨d,n,q,h1,h2,h3,h4⟩:=h;exact ⟨d,n,q,h1,h2,fun i hi=>FS.mono (fun _ _ e=>⟨f,e⟩) (h3 i hi),h4⟩
theorem range_split (q:Nat->Ps) {k D:Nat} (h:k<=D):∃ R:Ps,(List.range D).flatMap q=(List.range k).flatMap q++R:=by
 induction h with
 | refl=>exact ⟨[],by simp⟩
 | @step D _ ih=>
  obtain ⟨R,e⟩:=ih;exact ⟨R++q D,by rw [List.range_succ,List.flatMap_append,e];simp⟩
theorem gatherK_safe (t F:Nat) (ih:GatherC t F) {m0:Mst} {g0:Gh} {a d n lo hi f tu:Int} {q:Nat->Ps} (h0:Inv m0 g0) (hv:Iv g0 a lo hi) (hI:IsInner g0 a d n) (hF:FT m0 g0 a ((List.range d.toNat).flatMap q)) (hq:∀ i:Nat,(i:Int) < d->FS m0 g0 (FT m0 g0) (a+4+d+i) (q i)) (xs:Ps)
  (b1:-4000000000000000000+65536 * ((F+1:Nat):Int)<=f) (b2:f<=1000000) (b3:-4000000000000000000+65536 * ((F+1:Nat):Int)<=tu) (b4:tu<=1000000):∀ (c k:Nat) (rk:Int) (ys:Ps) (m:Mst) (g:Gh),(k:Int)+c=d->Rl t m0 g0 m g->rk=((List.range k).flatMap q).length->ys=xs++sel ((List.range k).flatMap q) f tu->
  Safe t (Pr.gatherK (Pr.gather F) a d f tu c k rk ys) (fun ys m' g'=>Rl t m0 g0 m' g'/\ys=xs++sel ((List.range d.toNat).flatMap q) f tu) m g
 | 0,k,rk,ys,m,g,hk,r,hr,hy=>by
  unfold Pr.gatherK
  have:d.toNat=k:=by omega
  rw [this];exact ⟨r,hy⟩
 | c+1,k,rk,ys,m,g,hk,r,hr,hy=>by
  have f0:=hI.far h0;have p0:=hI.pos;have tot:=hF.few h0 hv;obtain ⟨R,eR⟩:=range_split q (k:=k+1) (D:=d.toNat) (by omega);have eS:(List.range (k+1)).flatMap q=(List.range k).flatMap q++q k:=by rw [List.range_succ,List.flatMap_append];simp
  have lS:=sumLen q k;have lT:((List.range (k+1)).flatMap q).length<=65536:=by
   rw [eR,List.length_append] at tot;omega
  unfold Pr.gatherK
  split
  ·rename_i e;refine ⟨r,?_⟩;obtain ⟨R',eR'⟩:=range_split q (k:=k) (D:=d.toNat) (by omega);rw [hy,eR',sel_append,sel_none (ps:=R') (.inl (by omega))];simp
  rename_i lt;have next:∀ (m2:Mst) (g2:Gh) (rk':Int) (ys':Ps),Rl t m0 g0 m2 g2->rk'=rk+(q k).length->ys'=ys++sel (q k) (f - rk) (tu - rk)->Safe t (Pr.gatherK (Pr.gather F) a d f tu c ((k:Int)+1) rk' ys') (fun ys m' g'=>Rl t m0 g0 m' g'/\ys=xs++sel ((List.range d.toNat).flatMap q) f tu) m2 g2:=fun m2 g2 rk' ys' r2 e1 e2=>by
   have:=gatherK_safe t F ih h0 hv hI hF hq xs b1 b2 b3 b4 c (k+1) rk' ys' m2 g2 (by omega) r2 (by rw [e1];omega) (by rw [e2,hy,eS,sel_append,List.append_assoc,<- hr])
   rwa [show ((k+1:Nat):Int)=(k:Int)+1 by omega] at this
  have hfs:=r.ex.fsT (hq k (by omega));have hs:Slot g (a+4+d+k) a d n k:=⟨r.ex.inner hI,by omega,by omega,rfl⟩;have sv:=hs.siv (r.ex.iv hv);obtain ⟨w,hz,hw⟩:=hfs;have ok:=hz.okW r.inv;rw [show childZ a d k=a+4+d+k from childZ_in (by omega) (by omega) (by omega) (by omega) (by omega) (by omega)];refine Safe.bind (Safe.mono ?_ (peek_fz hz));rintro z m1 g1 ⟨r1,rfl⟩;have R1:=r.trans r1;have sub:∀ (x:Int) (m2:Mst) (g2:Gh) (l u:Int),Rl t m0 g0 m2 g2->Iv g2 x l u->FT m2 g2 x (q k)->m2.look (x+4)=(q k).length+1->Safe t ((Pr.read (x+4)).bind fun q1=>if f < wrap64 (rk+wrap64 (q1 - 1)) then (Pr.gather F x (wrap64 (f - rk)) (wrap64 (tu - rk)) ys).bind fun y=>Pr.gatherK (Pr.gather F) a d f tu c ((k:Int)+1) (wrap64 (rk+wrap64 (q1 - 1))) y else Pr.gatherK (Pr.gather F) a d f tu c ((k:Int)+1) (wrap64 (rk+wrap64 (q1 - 1))) ys) (fun ys m' g'=>Rl t m0 g0 m' g'/\ys=xs++sel ((List.range d.toNat).flatMap q) f tu) m2 g2:=fun x m2 g2 l u r2 hx hf e4=>by
   obtain ⟨d2,n2,_,hI2,_⟩:=hf.parts;refine Safe.bind (Safe.read fun m3 g3 r3=>?_);have e5:=r3.ex.stay _ (.inl hI2.c4) (by rw [e4];omega);rw [e5,e4,show wrap64 (((q k).length:Int)+1 - 1)=(q k).length by rw [Pt.wrap_same (by omega) (by omega)];omega,show wrap64 (rk+((q k).length:Int))=rk+(q k).length from Pt.wrap_same (by omega) (by omega)];have R3:=r2.trans r3
   split
   ·rw [show wrap64 (f - rk)=f - rk from Pt.wrap_same (by omega) (by omega),show wrap64 (tu - rk)=tu - rk from Pt.wrap_same (by omega) (by omega)];refine Safe.bind (Safe.mono ?_ (ih m3 g3 x (f - rk) (tu - rk) l u (q k) ys r3.inv (r3.ex.iv hx) (r3.ex.ft hf) (by omega) (by omega) (by omega) (by omega)));rintro y m4 g4 ⟨r4,ey⟩;exact next m4 g4 _ y (R3.trans r4) rfl ey
   ·rename_i e;exact next m3 g3 _ ys R3 rfl (by rw [sel_none (.inr (by omega))];simp)
  split
  ·rename_i k2;rcases hw with ⟨k',_⟩ | ⟨_,u,v,hl,eq⟩ | ⟨k',_⟩ | ⟨k',_⟩
   ·omega
   ·have hl1:=r1.ex.leaf hl;have e1:wrap64 (rk+1)=rk+(q k).length:=by rw [eq,Pt.wrap_same (by omega) (by omega)];rfl
    rw [e1]
    split
    ·rename_i e;refine Safe.bind (Safe.read fun m2 g2 r2=>?_);rw [r2.inv.fix (r2.ex.leaf hl1).c0];refine Safe.bind (Safe.read fun m3 g3 r3=>?_);rw [r3.inv.fix (r3.ex.leaf (r2.ex.leaf hl1)).c1];exact next m3 g3 _ _ ((R1.trans r2).trans r3) rfl (by rw [eq,sel_one (by omega) (by omega)])
    ·rename_i e;exact next m1 g1 _ ys R1 rfl (by rw [eq,sel_none (.inr (by simp;omega))];simp)
   ·omega
   ·omega
  rename_i k2
  split
  ·rename_i k3;rcases hw with ⟨k',_⟩ | ⟨k',_⟩ | ⟨_,hf,e4⟩ | ⟨k',_⟩
   ·omega
   ·omega
   ·rcases ok with ⟨k',_⟩ | ⟨k',_⟩ | hO | ⟨k',_⟩
    ·omega
    ·omega
    ·obtain ⟨d',n',hN,_⟩:=hO.nd sv;exact sub _ m1 g1 _ _ R1 (r1.ex.iv hN.iv) (r1.ex.ft hf) (by rw [r1.ex.stay _ (.inl hN.inn.c4) (by rw [e4];omega)];exact e4)
    ·omega
   ·omega
  rename_i k3
  split
  ·rename_i k4;rcases hw with ⟨k',_⟩ | ⟨k',_⟩ | ⟨k',_⟩ | ⟨_,tg,gd,p,hR,hf,e4⟩
   ·omega
   ·omega
   ·omega
   ·rcases ok with ⟨k',_⟩ | ⟨k',_⟩ | ⟨k',_⟩ | ⟨_,tg',gd',hR',_,hO⟩
    ·omega
    ·omega
    ·omega
    ·obtain ⟨rfl,_⟩:=hR.fn hR';obtain ⟨d',n',hN,_⟩:=hO.nd sv;refine Safe.bind (Safe.read fun m2 g2 r2=>?_);rw [r2.inv.fix (r2.ex.reb (r1.ex.reb hR)).c0];have x12:=r1.ex.trans r2.ex;exact sub _ m2 g2 _ _ (R1.trans r2) (x12.iv hN.iv) (x12.ft hf) (by rw [x12.stay _ (.inl hN.inn.c4) (by rw [e4];omega)];exact e4)
  ·rename_i k4;rcases hw with ⟨_,eq⟩ | ⟨k',_⟩ | ⟨k',_⟩ | ⟨k',_⟩
   ·exact next m1 g1 _ ys R1 (by rw [eq];simp) (by rw [eq];simp [sel])
   ·omega
   ·omega
   ·omega
theorem gather_safe (t:Nat):∀ F,GatherC t F
 | 0=>fun _ _ _ _ _ _ _ _ _ _ _ _ _ _ _ _=>trivial
 | F+1=>fun m g a f tu lo hi ps xs h hv hF b1 b2 b3 b4=>by
  obtain ⟨d,n,q,hI,_,hq,e⟩:=hF.parts;subst e;unfold Pr.gather;refine Safe.bind (Safe.read fun m1 g1 r1=>?_);rw [r1.inv.fix (r1.ex.inner hI).c0]
  have:=hI.pos
  exact gatherK_safe t F (gather_safe t F) h hv hI hF hq xs b1 b2 b3 b4 d.toNat 0 0 xs m1 g1 (by omega) r1 (by simp) (by simp [sel])
end Sd
namespace Sd
namespace Pr
def recM (k:Int) (ws:List Int):Pr (Int × Bool):=(make ws).bind fun a=>ret (Rf.ofZ k a,decide (0 < a))
def growK (L:Ps->Pr (Int × Bool)) (ps:Ps):Nat->Pr (Bool × List Int)
 | 0=>ret (true,[])
 | i+1=>(growK L ps i).bind fun r=>if r.1=false then ret r else (L (partL ps (i:Int))).bind fun z=>ret (z.2,r.2++[z.1])
def grow:Nat->Ps->Pr (Int × Bool)
 | 0,_=>ret (0,false)
 | f+1,ps=>if ps.length=0 then recM 1 [0] else if ps.length=1 then recM 2 [(ps.headD (0,0)).1,(ps.headD (0,0)).2]
  else (growK (grow f) ps (Pt.degZ ps.length).toNat).bind fun r=>if r.1=true then recM 3 (innerL ps.length (lowL ps (Pt.degZ ps.length).toNat) r.2) else ret (0,false)
end Pr
variable {t:Nat} {m m':Mst} {g g':Gh}
theorem ofk {k D:Int} (h0:1<=k) (h3:k<=5) (h1:1<=D) (h2:D<=65536):kd (Rf.ofZ k D)=k/\ad (Rf.ofZ k D)=D:=by
 have e:Rf.ofZ k D=8 * D+k:=by unfold Rf.ofZ Rf.may;rw [if_pos (by simp;omega)]
 have r:Rf.rt (8 * D+k)=true:=by unfold Rf.rt;simp;omega
 rw [e];refine ⟨?_,?_⟩
 ·unfold kd Rf.kindZ;rw [if_pos r];omega
 ·unfold ad Rf.atZ;rw [if_pos r];omega
def Prv (t:Nat) (m:Mst) (g:Gh) (w:Int) (l:Ps):Prop:=
 (kd w=1/\l=[]/\IsEmpty g (ad w)/\g.hm (ad w)=none/\g.ow (ad w)=t/\ad w≠1)∨
 (kd w=2/\∃ k v,IsLeaf g (ad w) k v/\l=[(k,v)])∨
 (kd w=3/\ad w≠1/\g.hm (ad w)=none/\g.ow (ad w)=t/\Compl m g (ad w)/\∃ d n,IsInner g (ad w) d n/\2<=d/\∃ f,∀ lo hi,(∀ p ∈ l,lo<=p.1/\p.1<=hi)->PTf m g f (ad w) lo hi)
theorem unlinked {b:Int} (h1:b≠1) (h2:g.hm b=none):∀ lo hi,¬ Iv g b lo hi:=fun lo hi e=>by
 cases e with
 | top _=>exact h1 rfl
 | sub _ _ _ _ _ e2=>rw [h2] at e2;cases e2
theorem below {b c a d n i:Int} (hb:b≠1) (hm:g.hm b=some c) (hs:Slot g c a d n i) (hu:∀ lo hi,¬ Iv g a lo hi):∀ lo hi,¬ Iv g b lo hi:=fun lo hi e=>by
 cases e with
 | top _=>exact hb rfl
 | @sub a' l' u' d' n' i' _ q1 q2 q3 q4 _ e2=>
  rw [hm] at e2;have ec:=Option.some.inj e2;obtain ⟨rfl,_⟩:=hs.fn (⟨q2,q3,q4,ec⟩:Slot g c a' d' n' i');exact hu _ _ q1
theorem IsLeaf.fn {a k v k' v':Int} (h:IsLeaf g a k v) (h':IsLeaf g a k' v'):k=k'/\v=v':=
 ⟨Ro.fix.inj (Option.some.inj (h.c0.symm.trans h'.c0)),Ro.fix.inj (Option.some.inj (h.c1.symm.trans h'.c1))⟩
theorem PTf.on (h:Inv m g) (hE:Ex m g m' g'):∀ {f:Nat} {b d n lo hi:Int},IsInner g b d n->(∀ lo hi,¬ Iv g' b lo hi)->PTf m g f b lo hi->PTf m' g' f b lo hi
 | 0,_,_,_,_,_,_,_,q=>q.elim
 | f+1,b,d,n,lo,hi,hI,hu,q=>by
  intro d' n' hI';obtain ⟨rfl,rfl⟩:=(hE.inner hI).deg hI';obtain ⟨q1,q2⟩:=q d n hI;refine ⟨fun i h1 h2=>?_,fun i h1 h2=>?_⟩
  ·rw [hE.gl hI h1 (by omega),hE.gk hI (by omega) h2];exact q1 i h1 h2
  ·have hs:Slot g (b+4+d+i) b d n i:=⟨hI,h1,h2,rfl⟩;have e:=hE.still _ b d n i hs hu;rw [e,hE.gl hI h1 h2,hE.gu hI h1];rcases q2 i h1 h2 with q2 | ⟨q2,q3,q4⟩
   ·exact .inl q2
   ·generalize hw:m.look (b+4+d+i)=w at *
    by_cases w0:w=0
    ·exact .inl w0
    have ok:OkW m g (b+4+d+i) w:=by
     rcases h.sees hs.ro with e | e | ⟨e,_⟩
     ·rw [hw] at e;exact absurd e w0
     ·rwa [hw] at e
     ·rw [hw] at e;exact absurd e q2
    refine .inr ⟨q2,fun k v hl=>?_,fun d2 n2 hI2=>?_⟩
    ·rcases ok with ⟨_,e1,_⟩ | ⟨_,k',v',e1,_⟩ | ⟨_,_,_,e1,_⟩ | ⟨_,_,_,e1,_⟩
     ·have:=(hE.empty e1).kn.symm.trans hl.kn;omega
     ·obtain ⟨rfl,rfl⟩:=(hE.leaf e1).fn hl;exact q3 _ _ e1
     ·have:=(hE.inner e1).kn.symm.trans hl.kn;omega
     ·have:=(hE.reb e1).kn.symm.trans hl.kn;omega
    ·rcases ok with ⟨_,e1,_⟩ | ⟨_,k',v',e1,_⟩ | ⟨_,d3,n3,e1,_,e2,e3,_⟩ | ⟨_,_,_,e1,_⟩
     ·have:=(hE.empty e1).kn.symm.trans hI2.kn;omega
     ·have:=(hE.leaf e1).kn.symm.trans hI2.kn;omega
     ·exact PTf.on h hE e1 (below e2 (hE.hm _ _ e3) (hE.sl hs) hu) (q4 d3 n3 e1)
     ·have:=(hE.reb e1).kn.symm.trans hI2.kn;omega
theorem Rl.own1 (h:Rl t m g m' g') {b:Int} (hu:g.ro b≠none) (ho:g.ow b=t) (hm:g.hm b=none):g'.hm b=none/\g'.ow b=t:=by
 obtain ⟨e1,e2⟩:=h.own b hu;exact ⟨(e2 ho).1.trans hm,e1.trans ho⟩
theorem Prv.on (h:Inv m g) (r:Rl t m g m' g') {w:Int} {l:Ps} (q:Prv t m g w l):Prv t m' g' w l:=by
 rcases q with ⟨k,e,h1,h2,h3,h4⟩ | ⟨k,u,v,h1,e⟩ | ⟨k,h1,h2,h3,h4,d,n,h5,h6,f,h7⟩
 ·obtain ⟨a1,a2⟩:=r.own1 (by rw [h1.c0];exact fun e=>by cases e) h3 h2;exact .inl ⟨k,e,r.ex.empty h1,a1,a2,h4⟩
 ·exact .inr (.inl ⟨k,u,v,r.ex.leaf h1,e⟩)
 ·obtain ⟨a1,a2⟩:=r.own1 (by rw [h5.c0];exact fun e=>by cases e) h3 h2;exact .inr (.inr ⟨k,h1,a1,a2,r.ex.compl h5 h4,d,n,r.ex.inner h5,h6,f,fun lo hi e=>(h7 lo hi e).on h r.ex h5 (unlinked h1 a1)⟩)
theorem part_ix {ps:Ps} {i:Int} (h0:0<=i) (h1:i < Pt.degZ ps.length) {p:Int × Int} (hp:p ∈ partL ps i):∃ x:Nat,ps[x]? = some p/\Pt.aheadZ ps.length i<=x/\(x:Int) < Pt.aheadZ ps.length (i+1):=by
 have a1:=Pt.from_some h0 h1;have a2:=Pt.ahead_step h0 h1;obtain ⟨b1,b2,b3⟩:=part_in h0 h1;obtain ⟨j,hj⟩:=List.getElem?_of_mem hp;unfold partL at hj;rw [List.getElem?_take,List.getElem?_drop] at hj
 split at hj
 ·exact ⟨_,hj,by omega,by omega⟩
 ·cases hj
theorem ahead_le {n i j:Int} (h0:0<=i) (hj:j<=Pt.degZ n):∀ k:Nat,i+k=j->Pt.aheadZ n i<=Pt.aheadZ n j
 | 0,e=>by rw [show j=i by omega];exact Int.le_refl _
 | k+1,e=>by
  have a1:=Pt.ahead_step (n:=n) (i:=i) h0 (by omega);have a2:=(part_in (n:=n) (i:=i) h0 (by omega)).2.1
  have:=ahead_le (n:=n) (i:=i+1) (by omega) hj k (by omega)
  omega
theorem part_lt {ps:Ps} (hu:Up ps) {i j:Int} (h0:0<=i) (h1:i < j) (h2:j < Pt.degZ ps.length) {p p':Int × Int} (hp:p ∈ partL ps i) (hp':p' ∈ partL ps j):p.1 < p'.1:=by
 obtain ⟨x,e1,_,x1⟩:=part_ix h0 (by omega) hp;obtain ⟨y,e2,y1,_⟩:=part_ix (by omega) h2 hp'
 have:=ahead_le (n:=(ps.length:Int)) (i:=i+1) (j:=j) (by omega) (by omega) (j - i - 1).toNat (by omega)
 obtain ⟨hx,rfl⟩:=List.getElem?_eq_some_iff.1 e1;obtain ⟨hy,rfl⟩:=List.getElem?_eq_some_iff.1 e2;exact List.pairwise_iff_getElem.1 hu x y hx hy (by omega)
theorem part_mem {ps:Ps} {i:Int} {p:Int × Int} (hp:p ∈ partL ps i):p ∈ ps:=List.mem_of_mem_drop (List.mem_of_mem_take hp)
theorem part_up {ps:Ps} (hu:Up ps) (i:Int):Up (partL ps i):=(List.Pairwise.sublist (List.drop_sublist _ _) hu).sublist (List.take_sublist _ _)
theorem part_head {ps:Ps} {i:Int} (h0:0<=i) (h1:i < Pt.degZ ps.length):(partL ps i).headD (0,0) ∈ partL ps i/\(Up ps->∀ p ∈ partL ps i,((partL ps i).headD (0,0)).1<=p.1):=by
 have hl:=partL_len h0 h1;have b2:=(part_in h0 h1).2.1;have hu:=fun q:Up ps=>part_up q i;cases e:partL ps i with
 | nil=>rw [e] at hl;simp at hl;omega
 | cons a l=>
  refine ⟨by simp,fun q p hp=>?_⟩
  have:=hu q
  rw [e] at this;unfold Up at this;rw [List.pairwise_cons] at this;rcases List.mem_cons.1 hp with rfl | hp
  ·exact Int.le_refl _
  ·have:=this.1 p hp
   simp;omega
theorem low_len (ps:Ps):∀ D,(lowL ps D).length=D - 1
 | 0=>rfl
 | n+1=>by
  rw [lowL]
  split
  ·rename_i h;subst h;rfl
  ·rw [List.length_append,low_len ps n,List.length_singleton];omega
theorem low_at (ps:Ps):∀ (D i:Nat),1<=i->i < D->(lowL ps D).getD (i - 1) 0=((partL ps (i:Int)).headD (0,0)).1
 | 0,_,_,h=>absurd h (by omega)
 | D+1,i,h1,h2=>by
  rw [lowL,if_neg (by omega)]
  by_cases e:i=D
  ·subst e;rw [List.getD_eq_getElem?_getD,List.getElem?_append_right (by rw [low_len];omega),low_len,Nat.sub_self];rfl
  ·rw [List.getD_eq_getElem?_getD,List.getElem?_append_left (by rw [low_len];omega),<- List.getD_eq_getElem?_getD];exact low_at ps D i h1 (by omega)
end Sd
end Go.Proofs.YtoaicedkepcalaaGreat
