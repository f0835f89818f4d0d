/-
  What the proof of YtibnlaihiahjpaaGreatRoot goes by, part 10 of 10: contracts and plain facts; each part begins with its own sentence. No conditions beyond each theorem's own.
-/
import Derived.Test.YtibnlaihiahjpaaGreatY9
import Derived.BigQuiet
import Derived.Deep.QuietTactic
namespace Go.Proofs.YtibnlaihiahjpaaGreat
open Go.RowKit
namespace Sd
def Lt (s:Rn) (B:Nat):Prop:=s.off=false->s.left < B
theorem Lt.le {s r:Rn} {B:Nat} (h:Lt s B) (hl:r.left<=s.left) (ho:s.off=true->r.off=true):Lt r B:=fun e=>by
 cases so:s.off with
 | true=>rw [ho so] at e;cases e
 | false=>exact Nat.lt_of_le_of_lt hl (h so)
theorem Fo.lt {α:Type} {s:Rn} {p:Pr α} {w:α} {r:Rn} {B:Nat} (h:Fo s p (w,r)) (hl:Lt s B):Lt r B:=hl.le h.left (fun e=>(h.off e).1)
theorem read_Lt {s r:Rn} {a w:Int} {B:Nat} (e:s.read a=(w,r)) (h:Lt s (B+1)):Lt r B:=fun ro=>by
 have hf:=fo_read s a;rw [e] at hf;cases so:s.off with
 | true=>have:=(hf.off so).1;rw [ro] at this;cases this
 | false=>have:=read_lt e so;have:=h so;omega
theorem fo_gatherK (F B:Nat) (g:Rn->Int->Int->Int->Ps->Ps × Rn) (hg:∀ s n f tu xs,Lt s B->Fo s (Pr.gather F n f tu xs) (g s n f tu xs)) (n d f tu:Int):∀ (c:Nat) (i rk:Int) (ys:Ps) (s:Rn),Lt s B->Fo s (Pr.gatherK (Pr.gather F) n d f tu c i rk ys) (Rn.gatherK g n d f tu c i rk ys s)
 | 0,_,_,_,s,_=>Fo.ret _ _
 | c+1,i,rk,ys,s,hl=>by
  have ih:=fo_gatherK F B g hg n d f tu c;unfold Pr.gatherK Rn.gatherK
  by_cases ho:s.off=true
  ·rw [if_pos (c:=tu<=rk∨s.off=true) (.inr ho)];exact Fo.dead ho _ _
  by_cases ht:tu<=rk
  ·rw [if_pos ht,if_pos (c:=tu<=rk∨s.off=true) (.inl ht)];exact Fo.ret _ _
  rw [if_neg ht,if_neg (c:=tu<=rk∨s.off=true) (fun q=>q.elim ht ho)];have h:=fo_peek s (childZ n d i);generalize s.peek (childZ n d i)=x at h ⊢;obtain ⟨w,r⟩:=x;have hr:=h.lt hl;refine Fo.bind h ?_;dsimp only;have sub:∀ (r2:Rn) (b:Int),Lt r2 B->Fo r2 ((Pr.read (b+4)).bind fun q=>if f < wrap64 (rk+wrap64 (q - 1)) then (Pr.gather F b (wrap64 (f - rk)) (wrap64 (tu - rk)) ys).bind fun y=>Pr.gatherK (Pr.gather F) n d f tu c (i+1) (wrap64 (rk+wrap64 (q - 1))) y else Pr.gatherK (Pr.gather F) n d f tu c (i+1) (wrap64 (rk+wrap64 (q - 1))) ys)
    (if f < wrap64 (rk+wrap64 ((r2.read (b+4)).1 - 1)) then Rn.gatherK g n d f tu c (i+1) (wrap64 (rk+wrap64 ((r2.read (b+4)).1 - 1))) (g (r2.read (b+4)).2 b (wrap64 (f - rk)) (wrap64 (tu - rk)) ys).1 (g (r2.read (b+4)).2 b (wrap64 (f - rk)) (wrap64 (tu - rk)) ys).2 else Rn.gatherK g n d f tu c (i+1) (wrap64 (rk+wrap64 ((r2.read (b+4)).1 - 1))) ys (r2.read (b+4)).2):=fun r2 b h2=>by
   have h:=fo_read r2 (b+4);generalize r2.read (b+4)=x at h ⊢;obtain ⟨q,r3⟩:=x;have h3:=h.lt h2;refine Fo.bind h ?_;dsimp only
   split
   ·have h:=hg r3 b (wrap64 (f - rk)) (wrap64 (tu - rk)) ys h3;generalize g r3 b (wrap64 (f - rk)) (wrap64 (tu - rk)) ys=x at h ⊢;obtain ⟨y,r4⟩:=x;exact Fo.bind h (ih _ _ _ r4 (h.lt h3))
   ·exact ih _ _ _ r3 h3
  split
  ·split
   ·have h:=fo_read r (ad w);generalize r.read (ad w)=x at h ⊢;obtain ⟨k,r1⟩:=x;have h1:=h.lt hr;refine Fo.bind h ?_;dsimp only;have h:=fo_read r1 (ad w+1);generalize r1.read (ad w+1)=x at h ⊢;obtain ⟨v,r2⟩:=x;exact Fo.bind h (ih _ _ _ r2 (h.lt h1))
   ·exact ih _ _ _ r hr
  split
  ·exact sub r (ad w) hr
  split
  ·have h:=fo_read r (ad w);generalize r.read (ad w)=x at h ⊢;obtain ⟨b,r1⟩:=x;refine Fo.bind h ?_;dsimp only;exact sub r1 (ad b) (h.lt hr)
  ·exact ih _ _ _ r hr
theorem fo_gather:∀ (F F':Nat) (s:Rn) (n f tu:Int) (xs:Ps),Lt s F->Lt s F'->Fo s (Pr.gather F n f tu xs) (Rn.gatherF F' s n f tu xs)
 | F,0,s,n,f,tu,xs,_,h=>by
  by_cases ho:s.off=true
  ·exact Fo.dead ho _ _
  ·exact absurd (h (by simpa using ho)) (by omega)
 | 0,F' + 1,s,n,f,tu,xs,h,_=>by
  by_cases ho:s.off=true
  ·have e:s.read n=(0,s):=Rn.ask_off _ ho;rw [Rn.gatherF_go e];rw [Rn.gatherK_end (.inr ho)];exact Fo.dead ho _ _
  ·exact absurd (h (by simpa using ho)) (by omega)
 | F+1,F' + 1,s,n,f,tu,xs,h1,h2=>by
  obtain ⟨d,r,e⟩:∃ d r,s.read n=(d,r):=⟨_,_,rfl⟩;rw [Rn.gatherF_go e];unfold Pr.gather;have h:=fo_read s n;rw [e] at h;refine Fo.bind h ?_;have l1:=read_Lt e h1;have l2:=read_Lt e h2;have lm:Lt r (min F F'):=fun q=>by have:=l1 q;have:=l2 q;omega
  exact fo_gatherK F (min F F') (Rn.gatherF F') (fun s' n' f' to' xs' hs'=>fo_gather F F' s' n' f' to' xs' (fun q=>by have:=hs' q;omega) (fun q=>by have:=hs' q;omega)) n d f tu d.toNat 0 0 xs r lm
theorem fo_recM (s:Rn) (k:Int) (ws:List Int):Fo s (Pr.recM k ws) (s.recM k ws):=by
 unfold Pr.recM Rn.recM;have h:=fo_make s ws;generalize s.make ws=x at h ⊢;obtain ⟨a,r⟩:=x;exact Fo.bind h (Fo.ret _ _)
theorem fo_growK (L:Ps->Pr (Int × Bool)) (L':Rn->Ps->(Int × Bool) × Rn) (hL:∀ s ps,Fo s (L ps) (L' s ps)) (ps:Ps) (s:Rn):∀ i:Nat,Fo s (Pr.growK L ps i) (Rn.growK L' ps s i)
 | 0=>Fo.ret _ _
 | i+1=>by
  unfold Pr.growK Rn.growK;have h:=fo_growK L L' hL ps s i;generalize Rn.growK L' ps s i=x at h ⊢;obtain ⟨r,s1⟩:=x;refine Fo.bind h ?_;dsimp only
  split
  ·exact Fo.ret _ _
  ·have h:=hL s1 (partL ps i);generalize L' s1 (partL ps i)=x at h ⊢;obtain ⟨z,s2⟩:=x;exact Fo.bind h (Fo.ret _ _)
theorem fo_grow:∀ (f:Nat) (s:Rn) (ps:Ps),Fo s (Pr.grow f ps) (Rn.growF f s ps)
 | 0,s,_=>Fo.ret _ _
 | f+1,s,ps=>by
  rw [Rn.growF_succ];unfold Pr.grow
  split
  ·exact fo_recM _ _ _
  split
  ·exact fo_recM _ _ _
  have h:=fo_growK (Pr.grow f) (Rn.growF f) (fo_grow f) ps s (Pt.degZ ps.length).toNat;generalize Rn.growK (Rn.growF f) ps s (Pt.degZ ps.length).toNat=x at h ⊢;obtain ⟨r,s1⟩:=x;refine Fo.bind h ?_;dsimp only
  split
  ·exact fo_recM _ _ _
  ·exact Fo.ret _ _
theorem fo_part (N N':Nat) (s:Rn) (a n x d i:Int) (h1:Lt s N) (h2:Lt s N'):Fo s (Pr.part N a n x d i) (s.partR N' a n x d i):=by
 unfold Pr.part Rn.partR;have h:=fo_gather N N' s a (Pt.fromZ n i) (wrap64 (Pt.fromZ n i+Pt.sizeZ n i)) [] h1 h2;generalize Rn.gatherF N' s a (Pt.fromZ n i) (wrap64 (Pt.fromZ n i+Pt.sizeZ n i)) []=y at h ⊢;obtain ⟨ps,r⟩:=y;refine Fo.bind h ?_;dsimp only
 by_cases ho:r.off=true
 ·rw [if_pos (c:=r.off=true) ho];exact Fo.dead ho _ _
 rw [if_neg (c:=r.off=true) ho];have h:=fo_grow (ps.length+1) r ps;generalize Rn.growF (ps.length+1) r ps=y at h ⊢;obtain ⟨w,r1⟩:=y;refine Fo.bind h ?_;dsimp only
 split
 ·exact Fo.ret _ _
 have h:Fo r1 (if 0 < i/\0 < ps.length then Pr.write (keyZ x i) (ps.headD (0,0)).1 else Pr.ret ()) ((),if 0 < i/\0 < ps.length then r1.write (keyZ x i) (ps.headD (0,0)).1 else r1):=by
  split
  ·exact fo_write _ _ _
  ·exact Fo.ret _ _
 refine Fo.bind h ?_;generalize (if 0 < i/\0 < ps.length then r1.write (keyZ x i) (ps.headD (0,0)).1 else r1)=r2;have h:=fo_cas r2 (childZ x d i) 0 w.1;generalize r2.cas (childZ x d i) 0 w.1=y at h ⊢;obtain ⟨c,r3⟩:=y;exact Fo.bind h (Fo.ret _ _)
theorem add_Lt {s r:Rn} {a d w:Int} {B:Nat} (e:s.add a d=(w,r)) (h:Lt s (B+1)):Lt r B:=fun ro=>by
 have hf:=fo_add s a d;rw [e] at hf;cases so:s.off with
 | true=>have:=(hf.off so).1;rw [ro] at this;cases this
 | false=>
  have:=Rn.ask_left (s:=s) ⟨4,a,d,0,[]⟩ so
  have e2:(s.ask ⟨4,a,d,0,[]⟩).2=r:=congrArg Prod.snd e;rw [e2] at this
  have:=h so
  omega
theorem fo_partsA (N N':Nat) (b a n x d:Int):∀ (f f':Nat) (s:Rn),Lt s N->Lt s N'->Lt s f->Lt s f'->Fo s (Pr.partsA N b a n x d f) (Rn.partsA N' b a n x d f' s)
 | f,0,s,_,_,_,h=>by
  by_cases ho:s.off=true
  ·exact Fo.dead ho _ _
  ·exact absurd (h (by simpa using ho)) (by omega)
 | 0,f' + 1,s,_,_,h,_=>by
  by_cases ho:s.off=true
  ·rw [Rn.partsA_off ho];exact Fo.dead ho _ _
  ·exact absurd (h (by simpa using ho)) (by omega)
 | f+1,f' + 1,s,h1,h2,h3,h4=>by
  by_cases ho:s.off=true
  ·rw [Rn.partsA_off ho];exact Fo.dead ho _ _
  unfold Pr.partsA Rn.partsA;rw [if_neg (c:=s.off=true) ho];obtain ⟨q,r,e⟩:∃ q r,s.add (wrap64 (b+4)) 1=(q,r):=⟨_,_,rfl⟩;have h:=fo_add s (wrap64 (b+4)) 1;rw [e] at h ⊢;have l1:=h.lt h1;have l2:=h.lt h2;have l3:=add_Lt e h3;have l4:=add_Lt e h4;refine Fo.bind h ?_;dsimp only
  split
  ·exact Fo.ret _ _
  by_cases ro:r.off=true
  ·rw [if_pos (c:=r.off=true) ro];exact Fo.dead ro _ _
  rw [if_neg (c:=r.off=true) ro];have h:=fo_part N N' r a n x d q l1 l2;generalize r.partR N' a n x d q=y at h ⊢;obtain ⟨p,r1⟩:=y;refine Fo.bind h ?_;dsimp only
  split
  ·exact fo_partsA N N' b a n x d f f' r1 (h.lt l1) (h.lt l2) (h.lt l3) (h.lt l4)
  ·exact Fo.ret _ _
theorem fo_partsB (N N':Nat) (a n x d:Int):∀ (c:Nat) (j:Int) (s:Rn),Lt s N->Lt s N'->Fo s (Pr.partsB N a n x d c j) (Rn.partsB N' a n x d c j s)
 | 0,_,s,_,_=>Fo.ret _ _
 | c+1,j,s,h1,h2=>by
  by_cases ho:s.off=true
  ·rw [Rn.partsB_off ho];exact Fo.dead ho _ _
  unfold Pr.partsB Rn.partsB;rw [if_neg (c:=s.off=true) ho];have h:=fo_read s (childZ x d j);generalize s.read (childZ x d j)=y at h ⊢;obtain ⟨q,r⟩:=y;have l1:=h.lt h1;have l2:=h.lt h2;refine Fo.bind h ?_;dsimp only
  by_cases ro:r.off=true
  ·rw [if_pos (c:=q≠0∨r.off=true) (.inr ro),Rn.partsB_off ro];exact Fo.dead ro _ _
  by_cases q0:q≠0
  ·rw [if_pos q0,if_pos (c:=q≠0∨r.off=true) (.inl q0)];exact fo_partsB N N' a n x d c (j+1) r l1 l2
  rw [if_neg q0,if_neg (c:=q≠0∨r.off=true) (fun e=>e.elim q0 ro)];have h:=fo_part N N' r a n x d j l1 l2;generalize r.partR N' a n x d j=y at h ⊢;obtain ⟨p,r1⟩:=y;refine Fo.bind h ?_;dsimp only
  split
  ·exact fo_partsB N N' a n x d c (j+1) r1 (h.lt l1) (h.lt l2)
  ·exact Fo.ret _ _
theorem fo_parts (N N':Nat) (s:Rn) (b a n x:Int) (h1:Lt s N) (h2:Lt s N'):Fo s (Pr.parts N b a n x) (s.partsR N' b a n x):=by
 unfold Pr.parts Rn.partsR;have h:=fo_partsA N N' b a n x (Pt.degZ n) N N' s h1 h2 h1 h2;generalize Rn.partsA N' b a n x (Pt.degZ n) N' s=y at h ⊢;obtain ⟨p,r⟩:=y;refine Fo.bind h ?_;dsimp only
 split
 ·exact fo_partsB N N' a n x _ _ _ r (h.lt h1) (h.lt h2)
 ·exact Fo.ret _ _
theorem fo_top (N N':Nat) (s:Rn) (a n:Int) (h1:Lt s N) (h2:Lt s N'):Fo s (Pr.top N a n) (s.topR N' a n):=by
 unfold Pr.top Rn.topR
 split
 ·exact fo_recM _ _ _
 split
 ·have h:=fo_gather N N' s a 0 1 [] h1 h2;generalize Rn.gatherF N' s a 0 1 []=y at h ⊢;obtain ⟨ps,r⟩:=y;refine Fo.bind h ?_;dsimp only
  by_cases ro:r.off=true
  ·rw [if_pos (c:=r.off=true) ro];exact Fo.dead ro _ _
  ·rw [if_neg (c:=r.off=true) ro];exact fo_grow _ _ _
 ·by_cases ho:s.off=true
  ·rw [if_pos (c:=s.off=true) ho];exact Fo.dead ho _ _
  ·rw [if_neg (c:=s.off=true) ho];exact fo_grow _ _ _
theorem fo_renewE (N N':Nat) (s:Rn) (b a n w:Int) (h1:Lt s N) (h2:Lt s N'):Fo s (Pr.renewE N b a n w) (Rn.renewE N' b a n w s):=by
 unfold Pr.renewE Rn.renewE;have h:Fo s (if 2<=n then Pr.parts N b a n (ad w) else Pr.ret true) (if 2<=n then s.partsR N' b a n (ad w) else (true,s)):=by
  split
  ·exact fo_parts N N' s b a n (ad w) h1 h2
  ·exact Fo.ret _ _
 generalize (if 2<=n then s.partsR N' b a n (ad w) else (true,s))=y at h ⊢;obtain ⟨q,r⟩:=y;refine Fo.bind h ?_;dsimp only
 split
 ·exact Fo.ret _ _
 have h:=fo_read r (wrap64 (b+1));generalize r.read (wrap64 (b+1))=y at h ⊢;obtain ⟨gd,r1⟩:=y;refine Fo.bind h ?_;dsimp only;have h:=fo_read r1 (wrap64 (b+2));generalize r1.read (wrap64 (b+2))=y at h ⊢;obtain ⟨p,r2⟩:=y;refine Fo.bind h ?_;dsimp only;have h:=fo_dcss r2 gd p (Rf.ofZ 4 b) w;generalize r2.dcss gd p (Rf.ofZ 4 b) w=y at h ⊢;obtain ⟨z,r3⟩:=y;exact Fo.bind h (Fo.ret _ _)
theorem fo_renew (N N':Nat) (s:Rn) (b:Int) (h1:Lt s N) (h2:Lt s N'):Fo s (Pr.renew N b) (s.renewR N' b):=by
 unfold Pr.renew Rn.renewR;have h:=fo_read s b;generalize s.read b=y at h ⊢;obtain ⟨a,r⟩:=y;have l1:=h.lt h1;have l2:=h.lt h2;refine Fo.bind h ?_;dsimp only;have h:=fo_mark N N N' r (ad a) (fun q=>⟨l1 q,l2 q,l1 q⟩);generalize Rn.markF N' r (ad a)=y at h ⊢;obtain ⟨n,r1⟩:=y;have l1:=h.lt l1;have l2:=h.lt l2;refine Fo.bind h ?_;dsimp only;have h:=fo_read r1 (wrap64 (b+3));generalize r1.read (wrap64 (b+3))=y at h ⊢;obtain ⟨w,r2⟩:=y;have l1:=h.lt l1;have l2:=h.lt l2;refine Fo.bind h ?_;dsimp only
 by_cases ro:r2.off=true
 ·rw [if_pos (c:=r2.off=true) ro];exact Fo.dead ro _ _
 rw [if_neg (c:=r2.off=true) ro]
 split
 ·have h:=fo_top N N' r2 (ad a) n l1 l2;generalize r2.topR N' (ad a) n=y at h ⊢;obtain ⟨z,r3⟩:=y;have l1:=h.lt l1;have l2:=h.lt l2;refine Fo.bind h ?_;dsimp only
  split
  ·exact Fo.ret _ _
  have h:=fo_cas r3 (wrap64 (b+3)) 0 z.1;generalize r3.cas (wrap64 (b+3)) 0 z.1=y at h ⊢;obtain ⟨c,r4⟩:=y;have l1:=h.lt l1;have l2:=h.lt l2;refine Fo.bind h ?_;dsimp only;have h:=fo_read r4 (wrap64 (b+3));generalize r4.read (wrap64 (b+3))=y at h ⊢;obtain ⟨y,r5⟩:=y;exact Fo.bind h (fo_renewE N N' r5 b (ad a) n y (h.lt l1) (h.lt l2))
 ·exact fo_renewE N N' r2 b (ad a) n w l1 l2
end Sd
namespace Sd
theorem fo_start (N N':Nat) (s:Rn) (nd sl w:Int) (h1:Lt s N) (h2:Lt s N'):Fo s (Pr.start N nd sl w) (s.startR N' nd sl w):=by
 unfold Pr.start Rn.startR;have h:=fo_make s [w,wrap64 (nd+2),sl,0,0];generalize s.make [w,wrap64 (nd+2),sl,0,0]=y at h ⊢;obtain ⟨A,r⟩:=y;have l1:=h.lt h1;have l2:=h.lt h2;refine Fo.bind h ?_;dsimp only
 split
 ·have h:=fo_dcss r (wrap64 (nd+2)) sl w (Rf.ofZ 4 A);generalize r.dcss (wrap64 (nd+2)) sl w (Rf.ofZ 4 A)=y at h ⊢;obtain ⟨z,r1⟩:=y;refine Fo.bind h ?_;dsimp only
  split
  ·exact fo_renew N N' r1 A (h.lt l1) (h.lt l2)
  ·exact Fo.ret _ _
 ·exact Fo.ret _ _
theorem fo_tallyL:∀ (l:List En) (i:Nat) (f:Int) (s:Rn),Fo s (Pr.tallyL l i f) (Rn.tallyL l i f s)
 | [],_,_,s=>Fo.ret _ _
 | e :: l,i,f,s=>by
  by_cases ho:s.off=true
  ·rw [Rn.tallyL_off ho];exact Fo.dead ho _ _
  unfold Pr.tallyL Rn.tallyL;rw [if_neg (c:=s.off=true) ho];have h:=fo_add s (ad e.wd+3) 1;generalize s.add (ad e.wd+3) 1=y at h ⊢;obtain ⟨c,r⟩:=y;refine Fo.bind h ?_;dsimp only;have h:=fo_read r (ad e.wd+1);generalize r.read (ad e.wd+1)=y at h ⊢;obtain ⟨z,r1⟩:=y;exact Fo.bind h (fo_tallyL l (i+1) _ r1)
theorem fo_tally (N N':Nat) (s:Rn) (es:List En) (h1:Lt s N) (h2:Lt s N'):Fo s (Pr.tally N es) ((),s.tallyR N' es):=by
 unfold Pr.tally Rn.tallyR;have h:=fo_tallyL es 0 (-1) s;generalize Rn.tallyL es 0 (-1) s=y at h ⊢;obtain ⟨p,r⟩:=y;have l1:=h.lt h1;have l2:=h.lt h2;refine Fo.bind h ?_;dsimp only
 by_cases ro:r.off=true
 ·rw [if_neg (c:=0<=p/\r.off=false) (fun q=>by rw [ro] at q;cases q.2)];exact Fo.dead ro _ _
 by_cases hp:0<=p
 ·rw [if_pos hp,if_pos (c:=0<=p/\r.off=false) ⟨hp,by simpa using ro⟩];have h:=fo_start N N' r (es.getD p.toNat ⟨0,0,0⟩).nd (es.getD p.toNat ⟨0,0,0⟩).sl (es.getD p.toNat ⟨0,0,0⟩).wd l1 l2;generalize r.startR N' (es.getD p.toNat ⟨0,0,0⟩).nd (es.getD p.toNat ⟨0,0,0⟩).sl (es.getD p.toNat ⟨0,0,0⟩).wd=y at h ⊢;obtain ⟨b,r1⟩:=y;exact Fo.bind h (Fo.ret _ _)
 ·rw [if_neg hp,if_neg (c:=0<=p/\r.off=false) (fun q=>hp q.1)];exact Fo.ret _ _
theorem fo_fresh (s:Rn) (kind key value w q:Int) (leaf there:Bool):Fo s (Pr.fresh kind key value w q leaf there) (s.freshR kind key value w q leaf there):=by
 unfold Pr.fresh Rn.freshR
 split
 ·exact fo_recM _ _ _
 have h:=fo_recM s 2 [key,value];generalize s.recM 2 [key,value]=y at h ⊢;obtain ⟨y,r⟩:=y;refine Fo.bind h ?_;dsimp only
 split
 ·exact Fo.ret _ _
 ·exact fo_recM _ _ _
theorem fo_layB (N N':Nat) (s:Rn) (kind key value n sl w q:Int) (res:Rs) (leaf found:Bool) (path:List En) (h1:Lt s N) (h2:Lt s N'):Fo s (Pr.layB N kind key value n sl w q res leaf found path) (Rn.layB N' s kind key value n sl w q res leaf found path):=by
 unfold Pr.layB Rn.layB
 by_cases ho:s.off=true
 ·rw [if_pos (c:=s.off=true∨_) (.inl ho)];exact Fo.dead ho _ _
 by_cases hc:(kind=1/\found=true)∨(kind=3/\found=false)
 ·rw [if_pos hc,if_pos (c:=s.off=true∨_) (.inr hc)];exact Fo.ret _ _
 rw [if_neg hc,if_neg (c:=s.off=true∨_) (fun e=>e.elim ho hc)];have h:=fo_fresh s kind key value w q leaf found;generalize s.freshR kind key value w q leaf found=y at h ⊢;obtain ⟨x,r⟩:=y;have l1:=h.lt h1;have l2:=h.lt h2;refine Fo.bind h ?_;dsimp only
 split
 ·exact Fo.ret _ _
 have h:=fo_dcss ({ r with rc:=0 }:Rn) (wrap64 (n+2)) sl w x.1;have h0:Fo r (Pr.dcss (wrap64 (n+2)) sl w x.1) (({ r with rc:=0 }:Rn).dcss (wrap64 (n+2)) sl w x.1):=by
  refine ⟨h.left,h.off,fun e=>?_⟩;obtain ⟨q1,q2⟩:=run_eqv (Pr.dcss (wrap64 (n+2)) sl w x.1) (s:={ r with rc:=0 }) (s':=r) ⟨rfl,rfl,rfl,rfl⟩;rcases h.on e with ⟨a,r0,e1,e2,e3,e4⟩ | ⟨r0,e1,e2,e3,e4⟩
  ·rw [e1] at q1 q2;exact .inl ⟨a,(Pr.run (Pr.dcss (wrap64 (n+2)) sl w x.1) r).2,by rw [Prod.ext_iff];exact ⟨q1.symm,rfl⟩,e2,⟨e3.tape.trans q2.tape,e3.pos.trans q2.pos,e3.off.trans q2.off,e3.nx.trans q2.nx⟩,q2.off.symm.trans e4⟩
  ·rw [e1] at q1 q2;exact .inr ⟨(Pr.run (Pr.dcss (wrap64 (n+2)) sl w x.1) r).2,by rw [Prod.ext_iff];exact ⟨q1.symm,rfl⟩,q2.off.symm.trans e2,e3,e4.trans q2.nx⟩
 generalize ({ r with rc:=0 }:Rn).dcss (wrap64 (n+2)) sl w x.1=y at h0 ⊢;obtain ⟨o,r1⟩:=y;dsimp only;have h3:Fo r (Pr.dcss (wrap64 (n+2)) sl w x.1) (o,if 0 < r1.rc then { r1 with ld:=r1.rc } else r1):=by
  split
  ·exact Fo.note h0 ⟨rfl,rfl,rfl,rfl⟩
  ·exact h0
 generalize (if 0 < r1.rc then { r1 with ld:=r1.rc } else r1)=r2 at h3 ⊢;have l1:=h3.lt l1;have l2:=h3.lt l2;refine Fo.bind h3 ?_
 split
 ·exact Fo.ret _ _
 have h4:Fo r2 (if o=1/\(kind≠2∨found=false) then Pr.tally N path else Pr.ret ()) ((),if o=1/\(kind≠2∨found=false) then r2.tallyR N' path else r2):=by
  split
  ·exact fo_tally N N' r2 path l1 l2
  ·exact Fo.ret _ _
 exact Fo.bind h4 (Fo.ret _ _)
theorem fo_lay (N N':Nat) (s:Rn) (kind key value n sl w:Int) (path:List En) (h1:Lt s N) (h2:Lt s N'):Fo s (Pr.lay N kind key value n sl w path) (Rn.layR N' s kind key value n sl w path):=by
 unfold Pr.lay Rn.layR
 split
 ·have h:=fo_read s (ad w);generalize s.read (ad w)=y at h ⊢;obtain ⟨q,r⟩:=y;have l1:=h.lt h1;have l2:=h.lt h2;refine Fo.bind h ?_;dsimp only
  split
  ·have h:=fo_read r (ad w+1);generalize r.read (ad w+1)=y at h ⊢;obtain ⟨v,r1⟩:=y;exact Fo.bind h (fo_layB N N' r1 kind key value n sl w q _ true true path (h.lt l1) (h.lt l2))
  ·exact fo_layB N N' r kind key value n sl w q _ true false path l1 l2
 ·exact fo_layB N N' s kind key value n sl w 0 _ false false path h1 h2
theorem child_lt {s r:Rn} {n k w:Int} {B:Nat} (e:s.child n k=(w,r)) (h:Lt s (B+1)):Lt r B:=fun ro=>by
 have hf:=fo_child s n k;rw [e] at hf;cases so:s.off with
 | true=>have:=(hf.off so).1;rw [ro] at this;cases this
 | false=>
  have h1:=Rn.route_on s n k;have e2:(s.route n k).2=r:=congrArg Prod.snd e;rw [e2] at h1;have hle:=h1.left;rw [show (s.read n).2=(s.ask ⟨1,n,0,0,[]⟩).2 from rfl] at hle;have h3:=Rn.ask_left (s:=s) ⟨1,n,0,0,[]⟩ so
  have:=h so
  omega
theorem fo_attempt (N N':Nat) (kind key value:Int):∀ (c c':Nat) (n:Int) (es:List En) (s:Rn),Lt s N->Lt s N'->Lt s c->Lt s c'->Fo s (Pr.attempt N kind key value c n es) (Rn.attemptL N' kind key value c' n es s)
 | c,0,n,es,s,_,_,_,h=>by
  by_cases ho:s.off=true
  ·exact Fo.dead ho _ _
  ·exact absurd (h (by simpa using ho)) (by omega)
 | 0,c' + 1,n,es,s,_,_,h,_=>by
  by_cases ho:s.off=true
  ·rw [Rn.attemptL_off ho];exact Fo.dead ho _ _
  ·exact absurd (h (by simpa using ho)) (by omega)
 | c+1,c' + 1,n,es,s,h1,h2,h3,h4=>by
  by_cases ho:s.off=true
  ·rw [Rn.attemptL_off ho];exact Fo.dead ho _ _
  have so:s.off=false:=by simpa using ho
  unfold Pr.attempt;obtain ⟨z,r,e1⟩:∃ z r,s.child n key=(z,r):=⟨_,_,rfl⟩;have h:=fo_child s n key;rw [e1] at h;have l1:=h.lt h1;have l2:=h.lt h2;have l3:=child_lt e1 h3;have l4:=child_lt e1 h4;refine Fo.bind h ?_;obtain ⟨w,u,e2⟩:∃ w u,r.slot z=(w,u):=⟨_,_,rfl⟩;have hs:=fo_slot N r z l1;rw [e2] at hs;have l1:=hs.lt l1;have l2:=hs.lt l2;have l3:=hs.lt l3;have l4:=hs.lt l4;refine Fo.bind hs ?_
  by_cases k4:kd w=4
  ·rw [if_pos k4];obtain ⟨b,v,e3⟩:∃ b v,Rn.renewR N' u (ad w)=(b,v):=⟨_,_,rfl⟩;rw [Rn.attemptL_4 so e1 e2 k4 e3];have hr:=fo_renew N N' u (ad w) l1 l2;rw [e3] at hr;refine Fo.bind hr ?_;cases b with
   | true=>exact Fo.ret _ _
   | false=>exact Fo.ret _ _
  rw [if_neg k4]
  by_cases k3:kd w=3
  ·rw [if_pos k3,Rn.attemptL_3 so e1 e2 k3];exact fo_attempt N N' kind key value c c' (ad w) _ u l1 l2 l3 l4
  ·rw [if_neg k3,Rn.attemptL_0 so e1 e2 k4 k3];exact fo_lay N N' u kind key value n z w es l1 l2
theorem run_left {α:Type} (p:Pr α):∀ (s:Rn),(p.run s).2.left<=s.left:=by
 induction p with
 | ret a=>intro s;exact Nat.le_refl _
 | ask q k ih=>
  intro s;rw [run_ask]
  split
  ·exact Nat.le_refl _
  ·split
   ·refine Nat.le_trans (ih _ _) ?_;unfold Rn.left;dsimp only;omega
   ·rename_i h1 h2;unfold Rn.left;dsimp only;rw [if_pos rfl];omega
 | stop=>intro s;exact Nat.le_refl _
theorem Fo.less {α:Type} {s r:Rn} {q:Ak} {k:Int->Pr α} {w:α} {B:Nat} (h:Fo s (.ask q k) (w,r)) (hl:Lt s (B+1)):Lt r B:=fun ro=>by
 cases so:s.off with
 | true=>have:=(h.off so).1;rw [ro] at this;cases this
 | false=>
  rcases h.on so with ⟨a,r0,e1,_,e3,_⟩ | ⟨r0,_,_,e3,_⟩
  ·rw [run_ask,if_neg (by rw [so];decide)] at e1
   split at e1
   ·rename_i hp;have h1:=run_left (k (s.tape.getD s.pos 0)) { s with pos:=s.pos+1 };rw [e1] at h1;have el:r.left=r0.left:=by unfold Rn.left;rw [e3.tape,e3.pos,e3.off]
    have h2:({ s with pos:=s.pos+1 }:Rn).left < s.left:=by unfold Rn.left;dsimp only;omega
    have:=hl so
    have h1':r0.left<=({ s with pos:=s.pos+1 }:Rn).left:=h1;omega
   ·cases e1
  ·rw [ro] at e3;cases e3
theorem fo_change (N N':Nat) (kind key value:Int):∀ (c c':Nat) (s:Rn),Lt s N->Lt s N'->Lt s c->Lt s c'->Fo s (Pr.change N kind key value c) (Rn.changeL N' kind key value c' s)
 | c,0,s,_,_,_,h=>by
  by_cases ho:s.off=true
  ·exact Fo.dead ho _ _
  ·exact absurd (h (by simpa using ho)) (by omega)
 | 0,c' + 1,s,_,_,h,_=>by
  by_cases ho:s.off=true
  ·rw [Rn.changeL_off ho];exact Fo.dead ho _ _
  ·exact absurd (h (by simpa using ho)) (by omega)
 | c+1,c' + 1,s,h1,h2,h3,h4=>by
  by_cases ho:s.off=true
  ·rw [Rn.changeL_off ho];exact Fo.dead ho _ _
  have so:s.off=false:=by simpa using ho
  unfold Pr.change;have h:=fo_attempt N N' kind key value N (s.left+1) 1 [] s h1 h2 h1 (fun _=>by omega);obtain ⟨⟨x,b⟩,t,e⟩:∃ x t,Rn.attemptL N' kind key value (s.left+1) 1 [] s=(x,t):=⟨_,_,rfl⟩;rw [e] at h;obtain ⟨N0,rfl⟩:∃ N0,N=N0+1:=⟨N - 1,by have:=h1 so;omega⟩;have hq:∃ q k,Pr.attempt (N0+1) kind key value (N0+1) 1 []=.ask q k:=⟨_,_,rfl⟩;obtain ⟨q,k,ek⟩:=hq;rw [ek] at h ⊢;have l3:=h.less h3;have l4:=h.less h4;cases b with
  | true=>
   rw [Rn.changeL_end so e];exact Fo.bind h (Fo.ret _ _)
  | false=>
   rw [Rn.changeL_go so e];exact Fo.bind h (fo_change (N0+1) N' kind key value c c' t (h.lt h1) (h.lt h2) l3 l4)
end Sd
namespace Sd
def Rd (s:Rn):Prop:=s.off=true->s.nx.k=1
theorem rd_read {s:Rn} (h:Rd s) (a:Int):Rd (s.read a).2:=by
 unfold Rn.read Rn.ask
 split
 ·exact h
 ·split
  ·rename_i h1 _;intro e;exact absurd e h1
  ·intro _;rfl
theorem rd_peek {s:Rn} (h:Rd s) (a:Int):Rd (s.peek a).2:=by
 unfold Rn.peek;dsimp only
 split
 ·split
  ·exact rd_read (rd_read (rd_read h _) _) _
  ·exact rd_read (rd_read (rd_read h _) _) _
 ·exact rd_read h _
theorem rd_down (n k:Int):∀ (i:Nat) (s:Rn),Rd s->Rd (Rn.downF n k i s).2
 | 0,_,h=>h
 | i+1,s,h=>by
  unfold Rn.downF
  split
  ·split
   ·exact rd_read h _
   ·exact rd_down n k i _ (rd_read h _)
  ·exact h
theorem rd_up (n k m:Int):∀ (c:Nat) (i:Int) (s:Rn),Rd s->Rd (Rn.upF n k m c i s).2
 | 0,_,_,h=>h
 | c+1,i,s,h=>by
  unfold Rn.upF
  split
  ·split
   ·exact rd_read h _
   ·exact rd_up n k m c _ _ (rd_read h _)
  ·exact h
theorem rd_route {s:Rn} (h:Rd s) (n k:Int):Rd (s.route n k).2:=by
 unfold Rn.route;dsimp only
 split
 ·exact rd_read h _
 split
 ·exact rd_read (rd_read h _) _
 split
 ·exact rd_read (rd_read h _) _
 split
 ·exact rd_read (rd_read (rd_read h _) _) _
 split
 ·exact rd_read (rd_read (rd_read h _) _) _
 split
 ·split
  ·exact rd_down _ _ _ _ (rd_read (rd_read (rd_read (rd_read h _) _) _) _)
  ·exact rd_up _ _ _ _ _ _ (rd_read (rd_read (rd_read (rd_read h _) _) _) _)
 ·exact rd_up _ _ _ _ _ _ (rd_read (rd_read (rd_read h _) _) _)
theorem rd_child {s:Rn} (h:Rd s) (n k:Int):Rd (s.child n k).2:=rd_route h n k
theorem rd_seekL (B:Nat):∀ (s:Rn) (n k:Int),s.left<=B->Rd s->Rd (s.seekL n k).2:=by
 induction B with
 | zero=>
  intro s n k hl h
  have:s.off=true:=by
   cases ho:s.off with
   | true=>rfl
   | false=>unfold Rn.left at hl;rw [ho] at hl;simp at hl
  rw [Rn.seekL_off this];exact h
 | succ B ih=>
  intro s n k hl h
  by_cases ho:s.off=true
  ·rw [Rn.seekL_off ho];exact h
  have so:s.off=false:=by simpa using ho
  obtain ⟨c,t,e1⟩:∃ c t,s.child n k=(c,t):=⟨_,_,rfl⟩;obtain ⟨w,u,e2⟩:∃ w u,t.peek c=(w,u):=⟨_,_,rfl⟩;have ht:Rd t:=by have:=rd_child h n k;rwa [e1] at this
  have hu:Rd u:=by have:=rd_peek ht c;rwa [e2] at this
  have lt:t.off=false->t.left < s.left:=child_lt (B:=s.left) e1 (fun _=>by omega);have fp:=fo_peek t c;rw [e2] at fp;rw [Rn.seekL,dif_pos so];simp only [e1,e2]
  split
  ·split
   ·exact rd_read (rd_read hu _) _
   ·exact rd_read hu _
  split
  ·by_cases uo:u.off=true
   ·rw [Rn.seekL_off uo];exact hu
   ·refine ih u (ad w) k ?_ hu
    have:=fp.lt (B:=s.left) (fun q=>lt q) (by simpa using uo)
    omega
  split
  ·have hr:=rd_read hu (ad w);have fr:=fo_read u (ad w);obtain ⟨q,v,e3⟩:∃ q v,u.read (ad w)=(q,v):=⟨_,_,rfl⟩;rw [e3] at fr hr ⊢
   by_cases vo:v.off=true
   ·rw [Rn.seekL_off vo];exact hr
   ·refine ih v (ad q) k ?_ hr
    have:=fr.lt (fp.lt (B:=s.left) (fun q=>lt q)) (by simpa using vo)
    omega
  ·exact hu
theorem rd_again:∀ (L:List (Int × Int)) (s:Rn),Rd s->Rd (Rn.againL L s).2
 | [],_,h=>h
 | p :: L,s,h=>by
  unfold Rn.againL
  split
  ·exact h
  split
  ·exact rd_again L _ (rd_peek h _)
  ·exact rd_peek h _
theorem rd_meets {s:Rn} (h:Rd s) (k:Wk) (a:Int):Rd (s.meetsW k a).2:=by
 unfold Rn.meetsW
 split
 ·exact rd_read h _
 split
 ·exact rd_read (rd_read h _) _
 ·exact rd_read h _
theorem rd_thrL (T:Rn->Wk->Int->(Bool × Wk) × Rn) (hT:∀ s k n,Rd s->Rd (T s k n).2) (n d:Int):∀ (c:Nat) (i:Int) (k:Wk) (s:Rn),Rd s->Rd (Rn.thrL T n d c i k s).2
 | 0,_,_,_,h=>h
 | c+1,i,k,s,h=>by
  have hb:∀ (s:Rn) (k:Wk) (w:Int),Rd s->Rd (Rn.belowW T s k w).2:=fun s k w h=>by
   unfold Rn.belowW
   split
   ·exact rd_meets h _ _
   split
   ·exact hT _ _ _ h
   split
   ·exact hT _ _ _ (rd_read h _)
   ·exact h
  unfold Rn.thrL
  split
  ·exact h
  dsimp only
  split
  ·exact rd_peek h _
  have h1:=hb (s.peek (childZ n d i)).2 { k with ss:=k.ss++[(childZ n d i,(s.peek (childZ n d i)).1)] } (s.peek (childZ n d i)).1 (rd_peek h _)
  split
  ·exact h1
  split
  ·split
   ·exact h1
   split
   ·exact rd_read h1 _
   ·exact rd_thrL T hT n d c _ _ _ (rd_read h1 _)
  split
  ·exact h1
  split
  ·exact rd_read h1 _
  ·exact rd_thrL T hT n d c _ _ _ (rd_read h1 _)
theorem rd_thr:∀ (f:Nat) (s:Rn) (k:Wk) (n:Int),Rd s->Rd (Rn.thrF f s k n).2
 | 0,_,_,_,h=>h
 | f+1,_,_,_,h=>rd_thrL _ (fun _ _ _ h=>rd_thr f _ _ _ h) _ _ _ _ _ _ (rd_route h _ _)
theorem rd_query (N:Nat) (kind key value:Int):∀ (c:Nat) (s:Rn),Rd s->Rd (Rn.queryL N kind key value c s).2
 | 0,_,h=>h
 | c+1,s,h=>by
  unfold Rn.queryL
  split
  ·exact h
  dsimp only;have h1:=rd_thr N s (Wk.asked kind key value) 1 h
  split
  ·exact h1
  split
  ·exact rd_again _ _ h1
  ·exact rd_query N kind key value c _ (rd_again _ _ h1)
theorem rd_queryR (N:Nat) {s:Rn} (h:Rd s) (kind key value budget:Int):Rd (s.queryR N kind key value budget).2:=by
 unfold Rn.queryR;dsimp only
 split
 ·have:=rd_seekL s.left s 1 key (Nat.le_refl _) h
  have e:s.seek key=s.seekL 1 key:=rfl;rw [e]
  split
  ·exact this
  ·exact this
 ·exact rd_query N _ _ _ _ _ h
def Pr.res {α:Type}:Pr α->List Int->Pr α
 | p,[]=>p
 | .ask _ k,v :: T=>(k v).res T
 | _,_ :: _=>.stop
theorem res_nil {α:Type} (p:Pr α):p.res []=p:=by cases p <;> rfl
theorem res_one {α:Type} (T:List Int):∀ (p:Pr α) (q:Ak) (k:Int->Pr α) (v:Int),p.res T=.ask q k->p.res (T++[v])=k v:=by
 induction T with
 | nil=>
  intro p q k v h;cases p with
  | ask q' k'=>
   rw [res_nil] at h;cases h;exact res_nil _
  | ret a=>rw [res_nil] at h;cases h
  | stop=>rw [res_nil] at h;cases h
 | cons x T ih=>
  intro p q k v h;cases p with
  | ask q' k'=>exact ih (k' x) q k v h
  | ret a=>have h':(Pr.stop:Pr α)=.ask q k:=h;cases h'
  | stop=>have h':(Pr.stop:Pr α)=.ask q k:=h;cases h'
theorem run_none {α:Type} (p:Pr α):∀ (s r:Rn),s.off=false->p.run s=(none,r)->r.off=true->∃ q k,p.res (s.tape.drop s.pos)=.ask q k/\r.nx=q:=by
 induction p with
 | ret a=>intro s r _ h _;cases h
 | ask q k ih=>
  intro s r so h ro;rw [run_ask,if_neg (by rw [so];decide)] at h
  split at h
  ·rename_i hp;obtain ⟨q',k',e1,e2⟩:=ih (s.tape.getD s.pos 0) { s with pos:=s.pos+1 } r so h ro;refine ⟨q',k',?_,e2⟩;rw [List.drop_eq_getElem_cons hp];have eg:s.tape.getD s.pos 0=s.tape[s.pos]:=by rw [List.getD_eq_getElem?_getD,List.getElem?_eq_getElem hp];rfl
   rw [eg] at e1;exact e1
  ·rename_i hp;cases h;refine ⟨q,k,?_,rfl⟩;rw [List.drop_of_length_le (by omega)];exact res_nil _
 | stop=>
  intro s r so h ro;cases h;rw [so] at ro;cases ro
theorem Fo.next {α:Type} {s:Rn} {p:Pr α} {x:α × Rn} (h:Fo s p x) (so:s.off=false) (xo:x.2.off=true):∃ q k,p.res (s.tape.drop s.pos)=.ask q k/\x.2.nx=q:=by
 rcases h.on so with ⟨a,r,_,_,e3,e4⟩ | ⟨r,e1,e2,_,e4⟩
 ·rw [e3.off,e4] at xo;cases xo
 ·obtain ⟨q,k,q1,q2⟩:=run_none p s r so e1 e2;exact ⟨q,k,q1,e4.trans q2⟩
theorem Safe.rl {α:Type} {t:Nat} {p:Pr α} {m m':Mst} {g g':Gh} (r:Rl t m g m' g') (h:Safe t p (fun _ _ _=>True) m g):Safe t p (fun _ _ _=>True) m' g':=by
 cases p with
 | ret a=>trivial
 | ask q k=>intro m1 g1 r1;exact h m1 g1 (r.trans r1)
 | stop=>trivial
end Sd
namespace Sd
variable {m m':Mst} {g g':Gh}
def N0:Nat:=100000
def FOk (j:Nat) (p:Fp) (m:Mst) (g:Gh):Prop:=I64 p.key/\I64 p.val/\(p.done=false->p.play.2.off=true/\(p.k<=3->Safe j ((Pr.change N0 p.k p.key p.val N0).res p.tape) (fun _ _ _=>True) m g))
theorem play_settle (p:Fp):p.settle.play=p.play/\p.settle.tape=p.tape/\p.settle.k=p.k/\p.settle.key=p.key/\p.settle.val=p.val:=by
 unfold Fp.settle
 split <;> exact ⟨rfl,rfl,rfl,rfl,rfl⟩
theorem done_settle {p:Fp} (h:p.settle.done=false):p.play.2.off=true:=by
 cases e:p.play.2.off with
 | true=>rfl
 | false=>
  unfold Fp.settle at h;rw [if_neg (by rw [e];decide)] at h;cases h
theorem FOk.rl {j:Nat} {p:Fp} (r:Rl j m g m' g') (h:FOk j p m g):FOk j p m' g':=⟨h.1,h.2.1,fun e=>⟨(h.2.2 e).1,fun k=>((h.2.2 e).2 k).rl r⟩⟩
theorem frame_step {j:Nat} {p:Fp} (hI:Inv m g) (h:FOk j p m g) (hl:p.tape.length<=50000):∃ g',Gt j m g (p.step m).2 g'/\FOk j (p.step m).1 (p.step m).2 g':=by
 unfold Fp.step
 by_cases hd:p.done=true
 ·rw [if_pos hd];exact ⟨g,Gt.same ⟨hI,Ex.refl m g⟩,h⟩
 rw [if_neg hd];obtain ⟨ik,iv,h⟩:=h;obtain ⟨ho,hs⟩:=h (by simpa using hd);obtain ⟨ps1,ps2,ps3,ps4,ps5⟩:=play_settle { p with tape:=p.tape++[(m.doA p.play.2.nx).1] }
 by_cases k3:p.k<=3
 ·have hs:=hs k3;have e:p.play.2=(Rn.changeL (p.tape.length+2) p.k p.key p.val (p.tape.length+2) (Rn.start p.tape)).2:=by
   unfold Fp.play;rw [if_pos k3]
  have sl:=Rn.start_left p.tape;have fo:=fo_change N0 (p.tape.length+2) p.k p.key p.val N0 (p.tape.length+2) (Rn.start p.tape) (fun _=>by unfold N0;omega) (fun _=>by omega) (fun _=>by unfold N0;omega) (fun _=>by omega);obtain ⟨q,k,e1,e2⟩:=fo.next rfl (by rw [<- e];exact ho);have e1':(Pr.change N0 p.k p.key p.val N0).res p.tape=.ask q k:=e1;rw [e1'] at hs;obtain ⟨g2,G,hs2⟩:=hs m g (Rl.refl hI);rw [<- e] at e2;rw [<- e2] at G hs2;refine ⟨g2,G,by rw [ps4];exact ik,by rw [ps5];exact iv,fun d=>⟨by rw [ps1];exact done_settle d,fun _=>?_⟩⟩;rw [ps2,ps3,ps4,ps5];show Safe j ((Pr.change N0 p.k p.key p.val N0).res (p.tape++[(m.doA p.play.2.nx).1])) _ _ _;rw [res_one _ _ _ _ _ e1'];exact hs2
 ·have e:p.play=(Rn.start p.tape).queryR (p.tape.length+2) p.k p.key p.val p.b:=by
   unfold Fp.play;rw [if_neg k3]
  have rd:=rd_queryR (p.tape.length+2) (s:=Rn.start p.tape) (fun q=>by cases q) p.k p.key p.val p.b;rw [<- e] at rd;have k1:=rd ho;have em:(m.doA p.play.2.nx).2=m.touch p.play.2.nx.a:=by unfold Mst.doA;rw [if_pos k1]
  have st:=hI.quiet (m':=(m.doA p.play.2.nx).2) (by rw [em];exact Mst.touch_xs m _) (by rw [em];exact size_touch m _);refine ⟨g,Gt.same st,by rw [ps4];exact ik,by rw [ps5];exact iv,fun d=>⟨by rw [ps1];exact done_settle d,fun q=>absurd (by rw [ps3] at q;exact q) k3⟩⟩
def TOk (j:Nat) (q:Tp) (m:Mst) (g:Gh):Prop:=∀ p,q.fr=some p->FOk j p m g
def WI (ix:Ixp):Prop:=∃ g,Inv ix.m g/\∀ j q,ix.ts[j]? = some q->TOk j q ix.m g
theorem wi_pick {ix:Ixp} {c:Nat} (h:WI ix) (hg:ix.Gd c) (hc:c<=50000) (j:Nat):WI (ix.pickZ j).2:=by
 obtain ⟨g,hI,hT⟩:=h;unfold Ixp.pickZ
 split
 ·exact ⟨g,hI,hT⟩
 rename_i q hq
 split
 ·exact ⟨g,hI,hT⟩
 rename_i p hp
 split
 ·obtain ⟨g2,G,hF⟩:=frame_step hI (hT j q hq p hp) (Nat.le_trans (hg.tape j q p hq hp) hc);dsimp only;have em:(q.step p ix.m).2.2=(p.step ix.m).2:=by unfold Tp.step;split <;> rfl
  have ef:(q.step p ix.m).2.1.fr=some (p.step ix.m).1:=by unfold Tp.step;split <;> rfl
  have km:∀ (c i:Nat) (ix:Ixp),(Ixp.takesL c i ix).m=ix.m:=fun c=>by
   induction c with
   | zero=>intro i ix;rfl
   | succ c ih=>
    intro i ix;rw [Ixp.takesL,ih];unfold Ixp.takes1
    split
    ·split <;> rfl
    ·rfl
  refine ⟨g2,?_,fun i q' hq' p' hp'=>?_⟩
  ·show Inv (Ixp.takesL _ _ _).m g2;rw [km];show Inv (q.step p ix.m).2.2 g2;rw [em];exact G.inv
  ·show FOk i p' (Ixp.takesL _ _ _).m g2;rw [km];show FOk i p' (q.step p ix.m).2.2 g2;rw [em];obtain ⟨q1,h1,h2,_⟩:=Ixp.takesL_ts _ _ _ i q' hq';have h1':(ix.ts.set j (q.step p ix.m).2.1)[i]? = some q1:=h1;rw [List.getElem?_set] at h1'
   split at h1'
   ·rename_i e
    split at h1'
    ·cases h1';rw [h2,ef] at hp';cases hp';rw [<- e];exact hF
    ·cases h1'
   ·rename_i e;rw [h2] at hp';exact (hT i q1 h1' p' hp').rl (G.rl e)
 ·exact ⟨g,hI,hT⟩
theorem wi_do (j:Nat):∀ (n:Nat) {ix:Ixp} {c:Nat},WI ix->ix.Gd c->c+n<=50000->WI (Ixp.doZ j n ix)
 | 0,_,_,h,_,_=>h
 | n+1,ix,c,h,hg,hc=>by
  unfold Ixp.doZ
  split
  ·exact wi_pick h hg (by omega) j
  ·exact wi_do j n (wi_pick h hg (by omega) j) (Ixp.pickZ_gd hg j) (by omega)
theorem wi_invoke {ix:Ixp} (h:WI ix) (j:Nat) {k key val:Int} (ik:I64 key) (iv:I64 val):WI (ix.invokeZ j k key val):=by
 obtain ⟨g,hI,hT⟩:=h;unfold Ixp.invokeZ
 split
 ·exact ⟨g,hI,hT⟩
 rename_i q hq
 split
 ·exact ⟨g,hI,hT⟩
 refine ⟨g,hI,fun i q' hq' p' hp'=>?_⟩;have hq2:(ix.ts.set j { q.begin k key val with no:=ix.inv })[i]? = some q':=hq';rw [List.getElem?_set] at hq2
 split at hq2
 ·split at hq2
  ·cases hq2;have e:(some (Fp.make k key val q.bud).settle:Option Fp)=some p':=hp';cases e;obtain ⟨ps1,ps2,ps3,ps4,ps5⟩:=play_settle (Fp.make k key val q.bud);refine ⟨by rw [ps4];exact ik,by rw [ps5];exact iv,fun d=>⟨by rw [ps1];exact done_settle d,fun _=>?_⟩⟩;rw [ps2,ps3,ps4,ps5];show Safe i ((Pr.change N0 k key val N0).res []) _ _ _;rw [res_nil];exact Safe.mono (fun _ _ _ _=>trivial) (change_safe N0 (by unfold N0;omega) ik iv N0 ix.m g hI)
  ·cases hq2
 ·exact hT i q' hq2 p' hp'
theorem wi_act {ix:Ixp} {c:Nat} (h:WI ix) (hg:ix.Gd c) (hc:c+24<=50000) (z:Int):WI (ix.actZ z):=by
 unfold Ixp.actZ;dsimp only
 split
 ·exact wi_do _ _ h hg (by omega)
 ·have b:=op_bounds ((z.tdiv 3).tdiv 3);exact wi_invoke h _ (i64_1 (by omega) (by omega)) (i64_1 (by omega) (by omega))
theorem wi_acts:∀ (l:List Int) {ix:Ixp} {c:Nat},WI ix->ix.Gd c->c+24 * l.length<=50000->WI (l.foldl Ixp.actZ ix)
 | [],_,_,h,_,_=>h
 | z :: l,ix,c,h,hg,hc=>by
  rw [List.length_cons] at hc;exact wi_acts l (wi_act h hg (by omega) z) (Ixp.actZ_gd hg z) (by omega)
theorem wi_world (cells:Int) (keys l:List Int) (h:WI (world0 cells keys)):WI (worldZ cells keys l):=by
 have hl:(l.take 70).length<=70:=by rw [List.length_take];omega
 exact wi_acts (l.take 70) h (world0_gd cells keys).1 (by omega)
end Sd
namespace Sd
variable {m m':Mst} {g g':Gh}
def g0:Gh where
 ro:=fun c=>if c=1 then some (.fix 1) else if c=2 then some (.fix 0) else if c=3 then some .shut else if c=4 then some .chg else if c=5 then some .sum else if c=6 then some .slot else if c=7 then some (.fix 0) else none
 rb:=fun c=>if 1<=c/\c<=6 then 1 else 7
 kn:=fun c=>if c=7 then 1 else 3
 hm:=fun b=>if b=7 then some 6 else none
 ow:=fun _=>0
 lt:=fun _=>false
 pl:=fun _=>false
theorem g0_inner:IsInner g0 1 1 0:=by
 refine ⟨rfl,⟨by omega,fun j h0 h1=>?_⟩,by omega,rfl,rfl,rfl,rfl,rfl,fun i h1 h2=>absurd h2 (by omega),fun i h1 h2=>?_⟩
 ·have:j=0∨j=1∨j=2∨j=3∨j=4∨j=5:=by omega
  rcases this with rfl | rfl | rfl | rfl | rfl | rfl <;> exact ⟨rfl,by decide⟩
 ·have:i=0:=by omega
  subst this;rfl
theorem g0_one {a d n:Int} (h:IsInner g0 a d n):a=1/\d=1:=by
 have e:=h.rb (j:=0) (by omega) (by have:=h.pos;omega);rw [Int.add_zero] at e;have e2:(if 1<=a/\a<=6 then (1:Int) else 7)=a:=e;have k:(if a=7 then (1:Int) else 3)=3:=h.kn;have a1:a=1:=by
  split at e2
  ·omega
  ·rw [if_pos e2.symm] at k;omega
 subst a1;exact ⟨rfl,(h.deg g0_inner).1⟩
theorem begun_inv {s:Mst} (h1:7<=s.size) (h2:s.size<=16384):Inv (begun s) g0:=by
 have lk:∀ c,(begun s).look c=if c=1 then 1 else if c=6 then 57 else 0:=fun c=>by
  by_cases hu:1<=c/\c<=7
  ·have:c=1∨c=2∨c=3∨c=4∨c=5∨c=6∨c=7:=by omega
   rcases this with rfl | rfl | rfl | rfl | rfl | rfl | rfl <;> rfl
  ·rw [Mst.look_none (by
    cases e:(begun s).used c with
    | false=>rfl
    | true=>have:=Mst.used_iff.1 e;unfold begun at this;simp at this;omega),if_neg (by omega),if_neg (by omega)]
 have top:=Iv.top g0_inner;refine ⟨⟨?_,by show 7<=65536;omega⟩,⟨h2,by show (7:Int)<=s.size;omega⟩,fun c=>?_,fun c=>?_,⟨g0_inner,by rw [lk];decide⟩,fun a lo hi d n _ hI i h0 h1=>?_,fun a d n i hI h0 h1=>?_,fun b c e=>?_,rfl,fun b c e=>?_,fun b c e=>?_,(fun D e=>by cases e),(fun D e=>by cases e)⟩
 ·intro z hz;unfold begun at hz;simp only [List.mem_cons,List.not_mem_nil,or_false] at hz;rcases hz with rfl | rfl | rfl | rfl | rfl | rfl | rfl <;> exact i64_1 (by omega) (by omega)
 ·rw [Mst.used_iff];show _↔1<=c/\c<=7
  by_cases hu:1<=c/\c<=7
  ·have:c=1∨c=2∨c=3∨c=4∨c=5∨c=6∨c=7:=by omega
   refine ⟨fun _=>hu,fun _=>?_⟩;rcases this with rfl | rfl | rfl | rfl | rfl | rfl | rfl <;> decide
  ·refine ⟨fun e=>absurd ?_ e,fun e=>absurd e hu⟩;show (if c=1 then _ else _)=none;rw [if_neg (by omega),if_neg (by omega),if_neg (by omega),if_neg (by omega),if_neg (by omega),if_neg (by omega),if_neg (by omega)]
 ·by_cases hu:1<=c/\c<=7
  ·have:c=1∨c=2∨c=3∨c=4∨c=5∨c=6∨c=7:=by omega
   rcases this with rfl | rfl | rfl | rfl | rfl | rfl | rfl
   ·exact COk.fix rfl (by rw [lk];rfl)
   ·exact COk.fix rfl (by rw [lk];rfl)
   ·exact COk.zero (.inl rfl) (by rw [lk];rfl)
   ·exact COk.free (.inl rfl)
   ·exact COk.zero (.inr (.inl rfl)) (by rw [lk];rfl)
   ·refine COk.child rfl ?_;rw [lk];exact .inl ⟨by decide,⟨by decide,⟨by decide,fun j h0 h1=>by
     have:j=0:=by omega
     subst this;exact ⟨rfl,by decide⟩⟩,rfl⟩,by decide⟩
   ·exact COk.fix rfl (by rw [lk];rfl)
  ·have:g0.ro c=none:=by
    show (if c=1 then _ else _)=none;rw [if_neg (by omega),if_neg (by omega),if_neg (by omega),if_neg (by omega),if_neg (by omega),if_neg (by omega),if_neg (by omega)]
   unfold COk;rw [this];trivial
 ·have:=(g0_one hI).2
  omega
 ·have:=(g0_one hI).2
  omega
 ·have e':(if b=7 then some (6:Int) else none)=some c:=e
  split at e'
  ·rename_i eb;cases e';exact ⟨1,1,0,0,⟨g0_inner,by omega,by omega,by omega⟩,.inl ⟨_,_,top⟩⟩
  ·cases e'
 ·have e':(if b=7 then some (6:Int) else none)=some c:=e
  split at e'
  ·rename_i eb;subst eb;decide
  ·cases e'
 ·have e':(if b=7 then some (6:Int) else none)=some c:=e
  split at e'
  ·rename_i eb;subst eb;decide
  ·cases e'
def Pr.exec {α:Type}:Pr α->Mst->Option (α × Mst)
 | .ret a,m=>some (a,m)
 | .ask q k,m=>(k (m.doA q).1).exec (m.doA q).2
 | .stop,_=>none
theorem exec_bind {α β:Type} (p:Pr α) (f:α->Pr β):∀ m:Mst,(p.bind f).exec m=(p.exec m).bind fun x=>(f x.1).exec x.2:=by
 induction p with
 | ret a=>intro m;rfl
 | ask q k ih=>intro m;exact ih _ _
 | stop=>intro m;rfl
theorem Safe.exec {α:Type} {t:Nat} {p:Pr α} {Q:α->Mst->Gh->Prop}:∀ {m:Mst} {g:Gh} {a:α} {m':Mst},Safe t p Q m g->Inv m g->p.exec m=some (a,m')->∃ g',Q a m' g':=by
 induction p with
 | ret a=>intro m g a' m' h _ e;cases e;exact ⟨g,h⟩
 | ask q k ih=>
  intro m g a' m' h hI e;obtain ⟨g2,G,h2⟩:=h m g (Rl.refl hI);exact ih _ h2 G.inv e
 | stop=>intro m g a' m' _ _ e;cases e
theorem exec_rec (k:Int) (ws:List Int) (m:Mst) (hf:m.fits ws.length=true):(Pr.recM k ws).exec m=some (((recS m k ws).1,true),(recS m k ws).2):=by
 unfold Pr.recM;rw [exec_bind];show (some (m.next ws,m.make ws)).bind _=_;have e:m.next ws=(m.xs.length:Int)+1:=by unfold Mst.next;rw [if_pos hf]
 show some ((Rf.ofZ k (m.next ws),decide (0 < m.next ws)),m.make ws)=some ((Rf.ofZ k (m.next ws),true),m.make ws);rw [decide_eq_true (by rw [e];omega)]
theorem make_len {m:Mst} {ws:List Int} (hf:m.fits ws.length=true):(m.make ws).xs.length=m.xs.length+ws.length/\(m.make ws).size=m.size:=by
 unfold Mst.make;rw [if_pos hf];exact ⟨by simp,rfl⟩
theorem fits_of {m:Mst} {n:Nat} (h0:0 < n) (h:(m.xs.length:Int)+n<=m.size):m.fits n=true:=by
 unfold Mst.fits;simp only [Bool.and_eq_true,decide_eq_true_eq];exact ⟨h0,h⟩
def ExC (f:Nat):Prop:=∀ (ps:Ps) (m:Mst),ps.length < f->ps.length<=16384->(m.xs.length:Int)+Pt.celZ ps.length<=m.size->
 (Pr.grow f ps).exec m=some (((layF f m ps).1,true),(layF f m ps).2)/\((layF f m ps).2.xs.length:Int)=m.xs.length+Pt.celZ ps.length/\(layF f m ps).2.size=m.size
theorem exec_kids (f:Nat) (ih:ExC f) {ps:Ps} (hp:0 < Pt.degZ ps.length) (hl:ps.length < f+1) (m:Mst) (hr:(m.xs.length:Int)+Pt.celZ ps.length<=m.size):∀ i:Nat,(i:Int)<=Pt.degZ ps.length->
  (Pr.growK (Pr.grow f) ps i).exec m=some ((true,(kidF (layF f) ps m i).1),(kidF (layF f) ps m i).2)/\((kidF (layF f) ps m i).2.xs.length:Int)=m.xs.length+Pt.csZ ps.length i/\(kidF (layF f) ps m i).2.size=m.size
 | 0,_=>⟨rfl,by rw [show ((0:Nat):Int)=0 from rfl,Pt.cs_zero hp];show (m.xs.length:Int)=m.xs.length+0;omega,rfl⟩
 | i+1,hi=>by
  obtain ⟨e1,e2,e3⟩:=exec_kids f ih hp hl m hr i (by omega);have pl:=partL_len (ps:=ps) (i:=(i:Int)) (by omega) (by omega);have pb:=part_in (n:=(ps.length:Int)) (i:=(i:Int)) (by omega) (by omega);have sb:=Pt.size_bound (n:=(ps.length:Int)) (i:=(i:Int)) (by omega) (by omega);have cs:=Pt.cs_step (n:=(ps.length:Int)) (i:=(i:Int)) (by omega) (by omega);have dp:=Pt.deg_pos hp;have ce:=Pt.cs_end hp;have mono:Pt.csZ ps.length ((i:Int)+1)<=Pt.csZ ps.length (Pt.degZ ps.length):=by
   have:∀ k:Nat,(i:Int)+1+k<=Pt.degZ ps.length->Pt.csZ ps.length ((i:Int)+1)<=Pt.csZ ps.length ((i:Int)+1+k):=by
    intro k
    induction k with
    | zero=>intro _;simp
    | succ k ihk=>
     intro hk;have a1:=ihk (by omega);have a2:=Pt.cs_step (n:=(ps.length:Int)) (i:=(i:Int)+1+k) (by omega) (by omega);have a3:=Pt.cel_nat (Pt.sizeZ ps.length ((i:Int)+1+k));rw [show (i:Int)+1+((k+1:Nat):Int)=(i:Int)+1+k+1 by omega,a2];omega
   have q:=this (Pt.degZ ps.length - (i+1)).toNat (by omega)
   rwa [show (i:Int)+1+((Pt.degZ ps.length - (i+1)).toNat:Int)=Pt.degZ ps.length by omega] at q
  have dn:=Pt.deg_nat (ps.length:Int);obtain ⟨h1,h2,h3⟩:=ih (partL ps i) (kidF (layF f) ps m i).2 (by omega) (by omega) (by rw [e2,e3,pl];omega);unfold Pr.growK;rw [exec_bind,e1];show (if true=false then _ else _:Pr (Bool × List Int)).exec _=_/\_;rw [if_neg (by decide),exec_bind,h1];refine ⟨rfl,?_,?_⟩
  ·show ((layF f (kidF (layF f) ps m i).2 (partL ps i)).2.xs.length:Int)=_;rw [h2,e2,pl,show (((i+1:Nat):Int))=(i:Int)+1 by omega,cs];omega
  ·show (layF f (kidF (layF f) ps m i).2 (partL ps i)).2.size=_;rw [h3,e3]
theorem exec_grow:∀ f,ExC f
 | 0=>fun _ _ h=>absurd h (by omega)
 | f+1=>fun ps m hl hm hr=>by
  have ih:=exec_grow f;unfold Pr.grow layF
  by_cases h0:ps.length=0
  ·rw [if_pos h0,if_pos h0];have c:=Pt.cel_few (n:=(ps.length:Int)) (by omega) (by omega);have hf:m.fits [(0:Int)].length=true:=fits_of (by simp) (by simp;omega);refine ⟨exec_rec 1 [0] m hf,?_,?_⟩
   ·show ((m.make [0]).xs.length:Int)=_;rw [(make_len hf).1];simp;omega
   ·exact (make_len hf).2
  rw [if_neg h0,if_neg h0]
  by_cases h1:ps.length=1
  ·rw [if_pos h1,if_pos h1];have c:=Pt.cel_few (n:=(ps.length:Int)) (by omega) (by omega);have hf:m.fits [(ps.headD (0,0)).1,(ps.headD (0,0)).2].length=true:=fits_of (by simp) (by simp;omega);refine ⟨exec_rec 2 _ m hf,?_,?_⟩
   ·show ((m.make _).xs.length:Int)=_;rw [(make_len hf).1];simp;omega
   ·exact (make_len hf).2
  rw [if_neg h1,if_neg h1];have db:=Pt.deg_bound (n:=(ps.length:Int)) (by omega) (by omega);have hp:0 < Pt.degZ ps.length:=by omega
  obtain ⟨e1,e2,e3⟩:=exec_kids f ih hp hl m hr (Pt.degZ ps.length).toNat (by omega);rw [show (((Pt.degZ ps.length).toNat:Nat):Int)=Pt.degZ ps.length by omega] at e2;have ce:=Pt.cs_end hp;rw [exec_bind,e1];generalize hk:kidF (layF f) ps m (Pt.degZ ps.length).toNat=K at *;have hK:K.1.length=(Pt.degZ ps.length).toNat:=by rw [<- hk];exact kidF_len _ _ _ _
  have li:(innerL ps.length (lowL ps (Pt.degZ ps.length).toNat) K.1).length=2 * (Pt.degZ ps.length).toNat+4:=by
   rw [innerL_length,low_len,hK];omega
  have hf:K.2.fits (innerL ps.length (lowL ps (Pt.degZ ps.length).toNat) K.1).length=true:=fits_of (by omega) (by rw [li,e2,e3];omega);show (if true=true then _ else _:Pr (Int × Bool)).exec K.2=_/\_;rw [if_pos rfl];refine ⟨exec_rec 3 _ K.2 hf,?_,?_⟩
  ·show ((K.2.make _).xs.length:Int)=_;rw [(make_len hf).1,li,Int.natCast_add,e2];omega
  ·show (K.2.make _).size=_;rw [(make_len hf).2,e3]
theorem load_inv {m:Mst} {ps:Ps} (h:Inv m g) (hu:Up ps) (hi:∀ p ∈ ps,I64 p.1/\I64 p.2) (hb:(buildS m ps).1.2=true):∃ g',Inv ((buildS m ps).2.write 6 (buildS m ps).1.1) g':=by
 unfold buildS at hb ⊢
 split at hb
 ·rename_i hc;rw [if_pos hc];have hl:ps.length<=16384:=by
   have q:=hc.1;unfold ascB at q;exact (of_decide_eq_true q).1
  obtain ⟨e1,_,_⟩:=exec_grow (ps.length+1) ps m (by omega) hl (by omega);obtain ⟨g1,hG⟩:=Safe.exec (grow_safe 0 (ps.length+1) m g ps h hu hi hl) h e1;obtain ⟨pv,_,iw⟩:=hG.ok rfl;have hI:=hG.rl.inv;have ht:=hI.top;have hs:Slot g1 6 1 1 0 0:=⟨ht.1,by omega,by omega,by omega⟩;obtain ⟨g2,G,ok⟩:=link_prv hI pv hs (Iv.top ht.1) (fun p hp=>by
   have:=(hi p hp).1
   unfold gl gu;rw [if_pos rfl,if_neg (by omega)];exact this)
  have hs2:=G.ex.sl hs;have hv2:=G.ex.iv (Iv.top ht.1);have u6:(layF (ps.length+1) m ps).2.used 6=true:=(G.inv.used 6).1 (by rw [hs2.ro];exact (fun e=>by cases e));have hp:=write_put G.inv.ok u6 (x:=(layF (ps.length+1) m ps).1) iw;have st:=step_slot G.inv hs2 hv2 ok.ne.1 (fun w hz=>by
   exfalso;obtain ⟨a,d,n,i,hs',q,_⟩:=hz;obtain ⟨rfl,_⟩:=hs'.fn hs2;have c:=G.inv.cell (1+2);unfold COk at c;rw [hs'.1.c2,hs'.1.rb (j:=2) (by omega) (by have:=hs'.1.pos;omega)] at c;rcases c with c | ⟨_,c,_⟩
   ·exact q c
   ·exact c rfl) (fun e=>by omega) hp (fun hE=>.inl (hE.okW (fun _ _ e=>hE.back ⟨_,_,hs2.siv hv2⟩ e) ok))
  exact ⟨g2,st.1⟩
 ·cases hb
theorem wi_world0 (cells:Int) (keys:List Int):WI (world0 cells keys):=by
 have hn:150<=150+cells % 650/\150+cells % 650<=800:=by omega
 have hB:Inv (begun (Mst.new (150+cells % 650))) g0:=begun_inv (by show 7<=150+cells % 650;omega) (by show 150+cells % 650<=16384;omega);have idle:∀ (j:Nat) (q:Tp),(List.replicate 3 (Tp.idle 2))[j]? = some q->q.fr=none:=fun j q e=>by
  have:=(List.mem_replicate.1 (List.mem_of_getElem? e)).2
  rw [this];rfl
 have wi:∀ (ix:Ixp) (g:Gh),Inv ix.m g->ix.ts=List.replicate 3 (Tp.idle 2)->WI ix:=fun ix g h e=>⟨g,h,fun j q hq p hp=>by
  rw [e] at hq;rw [idle j q hq] at hp;cases hp⟩
 unfold world0 Ixp.loadZ
 split
 ·exact wi _ g0 hB rfl
 split
 ·exact wi _ g0 hB rfl
 split
 ·exact wi _ g0 hB rfl
 rename_i ha _;have hu:Up (Mp.pairsP (keys.take 20)):=by
  have q:ascB (Mp.pairsP (keys.take 20))=true:=by
   cases e:ascB (Mp.pairsP (keys.take 20)) with
   | true=>rfl
   | false=>exact absurd e ha
  unfold ascB at q;have h1:=(of_decide_eq_true q).2;rw [List.pairwise_map] at h1;exact h1
 have hi:=Mp.pairsP_i64 (keys.take 20)
 split
 ·refine wi _ g0 ?_ rfl;rename_i hb;show Inv (buildS _ _).2 g0
  have:(buildS (begun (Mst.new (150+cells % 650))) (Mp.pairsP (keys.take 20))).2=begun (Mst.new (150+cells % 650)):=by
   have hb':(buildS (begun (Mst.new (150+cells % 650))) (Mp.pairsP (keys.take 20))).1.2=false:=hb;unfold buildS at hb' ⊢
   split
   ·rename_i hc;rw [if_pos hc] at hb';cases hb'
   ·rfl
  show Inv (buildS (begun (Mst.new (150+cells % 650))) (Mp.pairsP (keys.take 20))).2 g0;rw [this];exact hB
 ·rename_i hb;obtain ⟨g',h'⟩:=load_inv hB hu hi (by
   cases e:(buildS (begun (Mst.new (150+cells % 650))) (Mp.pairsP (keys.take 20))).1.2 with
   | true=>rfl
   | false=>exact absurd e hb)
  exact wi _ g' h' rfl
end Sd
namespace Sd
variable {m m':Mst} {g g':Gh}
def Sl (m:Mst) (g:Gh) (p:Int × Int):Prop:=m.look p.2≠0/\(p.1≠1->Compl m g p.1)/\∃ d n i lo hi,Slot g p.2 p.1 d n i/\Iv g p.1 lo hi
theorem own_okI (h:Inv m g) {f:Nat} (ih:∀ (c x lo hi:Int),SIv g c lo hi->OkW m g c x->∀ p ∈ ownF m f x,Sl m g p) {c x lo hi:Int} (sv:SIv g c lo hi) (q:OkI m g c x):∀ p ∈ ownF m (f+1) x,Sl m g p:=by
 intro p hp;have k3:=q.1;obtain ⟨d,n,N,d2⟩:=q.nd sv;have e0:tgt m x=x:=by rw [tgt,if_neg (by rw [k3];decide)]
 have e1:m.look (ad x)=d:=h.fix N.inn.c0;have ar:=ad_range x;have ea:((atN m x:Nat):Int)=ad x:=by unfold atN;rw [e0];omega
 have ed:((degN m x:Nat):Int)=d:=by unfold degN;rw [e0,e1];omega
 rw [ownF_succ,List.mem_flatMap] at hp;obtain ⟨y,hy,hp⟩:=hp;rw [slotsL,if_pos (by rw [e0];exact k3),List.mem_map] at hy;obtain ⟨i,hi',rfl⟩:=hy;rw [List.mem_range] at hi';have ec:childS (atN m x) (degN m x) i=ad x+4+d+i:=by unfold childS;rw [ea,ed]
 rw [ec] at hp;have sl:Slot g (ad x+4+d+i) (ad x) d n i:=⟨N.inn,by omega,by omega,rfl⟩;have c0:=N.cm d n i N.inn (by omega) (by omega);unfold oneO at hp;rw [ea] at hp;rcases List.mem_cons.1 hp with e | e
 ·rw [e];exact ⟨c0,fun _=>N.cm,d,n,i,lo,hi,sl,N.iv⟩
 ·exact ih _ _ _ _ (sl.siv N.iv) (h.logic sl c0).1 p e
theorem own_okW (h:Inv m g):∀ (f:Nat) (c x lo hi:Int),SIv g c lo hi->OkW m g c x->∀ p ∈ ownF m f x,Sl m g p
 | 0,_,_,_,_,_,_,p,hp=>by cases hp
 | f+1,c,x,lo,hi,sv,q,p,hp=>by
  have ih:=own_okW h f;rcases q with ⟨k,_⟩ | ⟨k,_⟩ | q | ⟨k,t,gd,hr,_,q⟩
  ·rw [ownF_none (by rw [tgt,if_neg (by rw [k];decide),k];decide)] at hp;cases hp
  ·rw [ownF_none (by rw [tgt,if_neg (by rw [k];decide),k];decide)] at hp;cases hp
  ·exact own_okI h ih sv q p hp
  ·have e0:tgt m x=t:=by rw [tgt,if_pos k];exact h.fix hr.c0
   have k3:kd (tgt m x)=3:=by rw [e0];exact q.1
   rw [<- ownF_tgt k3,e0] at hp;exact own_okI h ih sv q p hp
theorem own_sl (h:Inv m g) {p:Int × Int} (hp:p ∈ ownL m):Sl m g p:=by
 have sl:Slot g 6 1 1 0 0:=⟨h.top.1,by omega,by omega,by omega⟩;rcases List.mem_cons.1 hp with e | e
 ·rw [e];exact ⟨h.top.2,fun e=>absurd rfl e,1,0,0,_,_,sl,Iv.top h.top.1⟩
 ·exact own_okW h _ 6 _ _ _ (sl.siv (Iv.top h.top.1)) (h.logic sl h.top.2).1 p e
def layW (m:Mst) (p:Int × Int):List Int:=[wrap64 (p.1+2),p.2,m.look p.2,Rf.ofZ 1 (m.next [0]),0]
def layZ (m:Mst) (p:Int × Int) (sh:Bool):Mst × Int:=
 if kd (m.look p.2)=5∨kd (m.look p.2)=3∨kd (m.look p.2)=4 then (m,0)
 else if m.fits 1=true/\(m.make [0]).fits 5=true then
  (if sh=true/\p.1≠1 then (((m.make [0]).make (layW m p)).cas p.2 (m.look p.2) (Rf.ofZ 5 ((m.make [0]).next (layW m p)))).write (wrap64 (p.1+2)) 1
   else ((m.make [0]).make (layW m p)).cas p.2 (m.look p.2) (Rf.ofZ 5 ((m.make [0]).next (layW m p))),(m.make [0]).next (layW m p))
 else ((m.make [0]).make (layW m p),0)
theorem make_out (h:Inv m g) {ws:List Int} (hf:¬ m.fits ws.length=true) {t:Nat}:Gt t m g (m.make ws) g:=by
 refine Gt.same (h.quiet ?_ ?_) <;> (unfold Mst.make;rw [if_neg hf])
theorem lay_gt (h:Inv m g) {p:Int × Int} (hs:Sl m g p) (sh:Bool) (t:Nat):∃ g',Gt t m g (layZ m p sh).1 g':=by
 obtain ⟨h0,hcm,d,n,i,lo,hi,sl,iv⟩:=hs;unfold layZ
 by_cases hk:kd (m.look p.2)=5∨kd (m.look p.2)=3∨kd (m.look p.2)=4
 ·rw [if_pos hk];exact ⟨g,Gt.same ⟨h,Ex.refl m g⟩⟩
 rw [if_neg hk];have ow:OkW m g p.2 (m.look p.2):=by
  rcases h.sees sl.ro with e | e | ⟨e,_⟩
  ·exact absurd e h0
  ·exact e
  ·exact absurd (.inl e) hk
 have hat:At g (p.1+2) p.2:=⟨p.1,d,n,i,lo,hi,sl,rfl,iv⟩;obtain ⟨w2,i2⟩:=hat.small h;have iw:I64 (m.look p.2):=h.ok.look _;have lp:=h.lt (c:=p.2) (by rw [sl.ro];exact fun e=>by cases e);have hz:=h.sz
 by_cases f1:m.fits 1=true
 ·have f1':m.fits ([0]:List Int).length=true:=f1;have hfz:(m.xs.length:Int)+1<=m.size:=by unfold Mst.fits at f1;simp at f1;omega
  obtain ⟨A,hA⟩:∃ A,(m.xs.length:Int)+1=A:=⟨_,rfl⟩;obtain ⟨g1,G1,E1,hm1,o1,_,_⟩:=mk_empty (t:=t) h hA.symm (make_more h (ws:=[0]) (by intro z hz;simp at hz;rw [hz];exact ⟨by decide,by decide⟩) f1');have en:m.next [0]=A:=by unfold Mst.next;rw [if_pos f1',hA]
  have r1:g1.ro A≠none:=by rw [E1.c0];exact fun e=>by cases e
  obtain ⟨I2,X2⟩:=step_link G1.inv hm1 (by omega) (by rw [E1.kn];decide) r1 (G1.ex.sl sl) (G1.ex.iv iv) (fun d' n' hI=>by have:=hI.kn;rw [E1.kn] at this;omega);have G2:Gt t m g (m.make [0]) (g1.link A p.2):=G1.trans ⟨I2,X2,fun b _=>⟨rfl,fun hb=>⟨by
   show (if b=A then some p.2 else g1.hm b)=g1.hm b;rw [if_neg (fun e=>hb (by rw [e];exact o1))],rfl⟩⟩⟩
  obtain ⟨k1,a1⟩:=ofk (k:=1) (D:=A) (by omega) (by omega) (by omega) (by omega);have hx:OkW (m.make [0]) (g1.link A p.2) p.2 (Rf.ofZ 1 A):=.inl ⟨k1,by rw [a1];exact X2.empty E1,by rw [a1];show (if A=A then some p.2 else _)=_;rw [if_pos rfl]⟩;have ho:=G2.ex.okW (fun _ _ e=>G2.ex.back ⟨_,_,sl.siv iv⟩ e) ow;have hat2:=G2.ex.at hat;have lk1:(m.make [0]).look p.2=m.look p.2:=by
   have e:(m.make [0]).xs=m.xs++[0]:=by unfold Mst.make;rw [if_pos f1']
   unfold Mst.look Mst.used;rw [e,List.length_append];simp only [List.getD_eq_getElem?_getD];rw [List.getElem?_append_left (by omega)];have c1:(decide (1<=p.2) && decide (p.2<=((m.xs.length+([0]:List Int).length:Nat):Int)))=true:=by simp;omega
   have c2:(decide (1<=p.2) && decide (p.2<=(m.xs.length:Int)))=true:=by simp;omega
   rw [if_pos c1,if_pos c2]
  by_cases f5:(m.make [0]).fits 5=true
  ·rw [if_pos ⟨f1,f5⟩];have ew:layW m p=[p.1+2,p.2,m.look p.2,Rf.ofZ 1 A,0]:=by unfold layW;rw [w2,en]
   rw [ew];obtain ⟨D,hD⟩:∃ D,((m.make [0]).xs.length:Int)+1=D:=⟨_,rfl⟩;have en5:(m.make [0]).next [p.1+2,p.2,m.look p.2,Rf.ofZ 1 A,0]=D:=by unfold Mst.next;rw [if_pos (by exact f5),hD]
   rw [en5];have iA:∀ z ∈ [p.1+2,p.2,m.look p.2,Rf.ofZ 1 A,0],I64 z:=fun z hz=>by
    simp only [List.mem_cons,List.not_mem_nil,or_false] at hz;rcases hz with rfl | rfl | rfl | rfl | rfl
    ·exact i2
    ·exact i64_1 (by omega) (by omega)
    ·exact iw
    ·exact i64_of 1 A
    ·exact ⟨by decide,by decide⟩
   have M5:=make_more G2.inv (ws:=[p.1+2,p.2,m.look p.2,Rf.ofZ 1 A,0]) iA f5;obtain ⟨g3,G3,D3,p3,o3⟩:=mk_dc (t:=t) G2.inv hD.symm ho hx hat2 M5;have G23:=G2.trans G3;obtain ⟨m2,hm2⟩:∃ m2,(m.make [0]).make [p.1+2,p.2,m.look p.2,Rf.ofZ 1 A,0]=m2:=⟨_,rfl⟩;rw [hm2] at G3 G23 M5 ⊢;have lk2:m2.look p.2=m.look p.2:=by
    have e:m2.xs=(m.make [0]).xs++[p.1+2,p.2,m.look p.2,Rf.ofZ 1 A,0]:=by rw [<- hm2];unfold Mst.make;rw [if_pos (by exact f5)]
    have e1:(m.make [0]).xs=m.xs++[0]:=by unfold Mst.make;rw [if_pos f1']
    unfold Mst.look Mst.used;rw [e,e1,List.length_append,List.length_append,List.append_assoc];simp only [List.getD_eq_getElem?_getD];rw [List.getElem?_append_left (by omega)];rw [if_pos (by simp;omega),if_pos (by simp;omega)]
   obtain ⟨g4,G4,P4⟩:=step_in G3.inv D3 p3 lk2;rw [o3] at G4;have u2:m2.used p.2=true:=(G23.inv.used p.2).1 (by rw [(G23.ex.sl sl).ro];exact fun e=>by cases e);have ec:m2.cas p.2 (m.look p.2) (Rf.ofZ 5 D)=m2.write p.2 (Rf.ofZ 5 D):=by
    unfold Mst.cas;rw [if_pos (by unfold Mst.did;rw [u2,lk2];simp)]
   rw [ec];have G:=G23.trans G4
   by_cases hsh:sh=true/\p.1≠1
   ·rw [if_pos hsh,w2];have sl4:=G.ex.sl sl;have iv4:=G.ex.iv iv;have hu:(m2.write p.2 (Rf.ofZ 5 D)).used (p.1+2)=true:=(G.inv.used _).1 (by rw [sl4.1.c2];exact fun e=>by cases e);have cm:Compl (m2.write p.2 (Rf.ofZ 5 D)) g4 p.1:=G.ex.compl sl.1 (hcm hsh.2);have st:=step_shut G.inv sl4.1 hsh.2 cm (write_put G.inv.ok hu ⟨by decide,by decide⟩);exact ⟨g4,G.trans (Gt.same st)⟩
   ·rw [if_neg hsh];exact ⟨g4,G⟩
  ·rw [if_neg (fun e=>f5 e.2)];exact ⟨_,G2.trans (make_out G2.inv (by exact f5))⟩
 ·rw [if_neg (fun e=>f1 e.1)];have G1:Gt t m g (m.make [0]) g:=make_out h (ws:=[0]) f1;refine ⟨g,G1.trans (make_out G1.inv ?_)⟩;have e:(m.make [0]).xs=m.xs/\(m.make [0]).size=m.size:=by
   unfold Mst.make;rw [if_neg (by exact f1)];exact ⟨rfl,rfl⟩
  unfold Mst.fits at f1 ⊢;rw [e.1,e.2];simp [layW] at f1 ⊢;omega
theorem wi_lay {ix:Ixp} (h:WI ix) {p:Int × Int} (hp:p ∈ ownL ix.m) (sh:Bool):WI { ix with m:=(layZ ix.m p sh).1 }:=by
 obtain ⟨g,hI,hT⟩:=h;obtain ⟨g',G⟩:=lay_gt hI (own_sl hI hp) sh ix.ts.length;refine ⟨g',G.inv,fun j q hq p' hp'=>(hT j q hq p' hp').rl (G.rl ?_)⟩;have h1:j < ix.ts.length:=(List.getElem?_eq_some_iff.1 hq).1;omega
end Sd
section
open Go.Shelf
structure YOk (m:Mst) (ix:Ixp) (c:Nat):Prop where
 xs:m.xs=ix.m.xs
 size:m.size=ix.m.size
 wi:Sd.WI ix
 gd:ix.Gd c
 len:ix.ts.length=3
 big:7<=ix.m.xs.length
theorem YOk.sound {m:Mst} {ix:Ixp} {c:Nat} (h:YOk m ix c):soundB ix.m=true:=by
 obtain ⟨g,hI,_⟩:=h.wi;exact hI.sound
theorem YOk.ok {m:Mst} {ix:Ixp} {c:Nat} (h:YOk m ix c):ix.m.ok/\m.ok:=by
 obtain ⟨g,hI,_⟩:=h.wi;exact ⟨hI.ok,by rw [h.xs];exact hI.ok.1,by rw [h.xs];exact hI.ok.2⟩
def Yd (w W:World) (y:Nat) (m:Mst) (ix:Ixp):Prop:=∃ b x mb tb v mv tv lv pz,YdIs W w.heap.size y b x mb tb v mv tv lv pz m ix/\Kept w W
theorem acts_gd:∀ (L:List Int) {ix:Ixp} {c:Nat},ix.Gd c->(L.foldl Ixp.actZ ix).Gd (c+24 * L.length)
 | [],_,_,h=>h
 | z :: L,ix,c,h=>(acts_gd L (Ixp.actZ_gd h z)).le (by simp;omega)
theorem worldZ_gd (cells:Int) (keys l:List Int):(worldZ cells keys l).Gd 1680:=by
 have:=acts_gd (l.take 70) (world0_gd cells keys).1
 exact this.le (by rw [List.length_take];omega)
set_option maxRecDepth 100000 in
set_option maxHeartbeats 2000000 in
theorem ynew_r (w:World) (cells:Int) (a1:Option Addr) (keys:List Int) (c1:Nat) (a2:Option Addr) (l:List Int) (c2:Nat) (hr1:Reads w a1 keys) (hc1:keys.length<=c1) (hm1:c1<=maxLen) (hr2:Reads w a2 l) (hc2:l.length<=c2) (hm2:c2<=maxLen) (hi:∀ z ∈ l,I64 z) :
  Calls Tryz.prog 22 #[.int .i64 cells,.slice a1 keys.length c1,.slice a2 l.length c2] w fun e W=>∃ y m ix,e=.returned (.pointer (some ⟨y,0,none⟩))/\Yd w W y m ix/\YOk m ix 1680:=by
 have WR:=world_r w cells a1 keys c1 a2 l c2 hr1 hc1 hm1 hr2 hc2 hm2 hi;obtain ⟨M1,hM1⟩:∃ M,keys.length=M:=⟨_,rfl⟩;obtain ⟨M2,hM2⟩:∃ M,l.length=M:=⟨_,rfl⟩;rw [hM1,hM2] at WR;rw [hM1,hM2];have HW:=gh WR;clear WR hr1 hc1 hm1 hr2 hc2 hm2 hi hM1 hM2;go_enter Tryz.func22,Tryz.ntmps22;go_wp2_with (fail);refine HW.o.mono ?_;rintro e W1 ⟨x,rfl,mb,tb,wr⟩;obtain ⟨mv,tv,lv,pz,I⟩:=wr.ixs;have cx:=I.cells.1.1;have hk:=gh wr.kept;have hln:=gh wr.len;have HI:=gh I;have GZ:=gh (worldZ_grew cells keys l);clear wr I HW;go_wp2_with (fail);refine (copy_c W1 _ mb mv _ HI.o.mem (by have:=GZ.o.1;omega)).mono ?_;rintro e W2 ⟨bm,rfl,⟨v,hm⟩,k2⟩;obtain ⟨V,hV⟩:∃ V,W2.alloc (.cells #[.pointer (some ⟨bm,0,none⟩),.pointer (some ⟨x,0,none⟩)] 59)=V:=⟨_,rfl⟩;have HM:=gh hm;have K2:=gh k2;have HV:=gh hV;clear hm k2 cx hV;go_wp2;rw [HV.o];go_ret;have kV:Kept W2 V:=by rw [<- HV.o];exact Td.alloc _ _ _
 have bV:V.heap[W2.heap.size]? = some (.cells #[.pointer (some ⟨bm,0,none⟩),.pointer (some ⟨x,0,none⟩)] 59):=by rw [<- HV.o];exact heap_new _ _
 have I2:=HI.o.kept K2.o;have KW:=hk.o.trans K2.o;have IP:IxIs (fun k=>v.ownBlock=some k) W2 w.heap.size x (worldZ cells keys l) mb mv tb tv lv pz:=I2.other (fun k e=>⟨HM.o.row.typed k e,HI.o.lts (HM.o.lt k (.inr e)).1⟩);refine ⟨W2.heap.size,cp (worldZ cells keys l).m,worldZ cells keys l,rfl,⟨bm,x,mb,tb,v,mv,tv,lv,pz,⟨KW.size,bV,(HM.o.low hk.o.size).kept kV,IP.kept kV⟩,KW.trans kV⟩,cp_xs HI.o.mem.room,cp_size _,?_,?_,hln.o,GZ.o.2⟩
 ·exact Sd.wi_world cells keys l (Sd.wi_world0 cells keys)
 ·exact worldZ_gd cells keys l
theorem same_y (w W:World) (y:Nat) (m:Mst) (ix:Ixp) (c:Nat) (h:Yd w W y m ix) (o:YOk m ix c):Calls Tryz.prog 28 #[.pointer (some ⟨y,0,none⟩)] W fun e W'=>e=.returned (.bool true)/\Kept W W':=by
 obtain ⟨b,x,mb,tb,v,mv,tv,lv,pz,h,hk⟩:=h;have HK:=gh hk;have H:=gh h;have hb:=h.box;have c2:=h.ixs.cells.1.1;obtain ⟨V,hV⟩:∃ V,W.drew=V:=⟨_,rfl⟩;have kV:Kept W V:=by rw [<- hV];exact Kept.drew _
 have x0:∀ u:Wd (Kept W),u.w.cell? ⟨y,0,none⟩=some (.pointer (some ⟨b,0,none⟩)):=fun u=>u.ok.cell (by simp [World.cell?,hb]) id;have x1:∀ u:Wd (Kept W),u.w.cell? ⟨y,1,none⟩=some (.pointer (some ⟨x,0,none⟩)):=fun u=>u.ok.cell (by simp [World.cell?,hb]) id;have x2:∀ u:Wd (Kept W),u.w.cell? ⟨x,3,none⟩=some (.pointer (some ⟨mb,0,none⟩)):=fun u=>u.ok.cell c2 id;have L:=like_c w V b m ⟨⟨v,h.pm.kept kV⟩,hk.trans kV⟩ _ mb mv ix.m (h.ixs.kept kV).mem o.xs.symm o.size.symm;have HL:=gh L;have HV:=gh hV;have KV:=gh kV;clear h hk hb c2 hV kV L;go_enter Tryz.func28,Tryz.ntmps28;go_wp2_with (fail);refine region_wide [0,1,2,3,4,5,6,7,8,9,10,11,12] (Kept W) (by kernel_rfl) (by kernel_rfl) (by rw [HV.o];exact KV.o) (fun _=>?_);rw [HV.o]
 repeat (refine pq rfl rfl ?_;go_big_quiet_step (fail);refine wpQuiet_nil ?_)
 refine pl rfl rfl ?_;gi_wp2_with (fail);refine ⟨trivial,?_⟩;refine (callsIn_wide.2 HL.o).mono ?_;rintro e W2 ⟨rfl,k2⟩;have K2:=gh (KV.o.trans k2);clear k2 x0 x1 x2;gi_wp2_with (fail);refine ⟨Wd.mem K2.o,?_⟩
 repeat (refine pq rfl rfl ?_;go_big_quiet_step (fail);refine wpQuiet_nil ?_)
 refine perm_done ?_;go_wp2;go_ret;exact ⟨rfl,K2.o⟩
end
section
open Go.Shelf
open Sd (layZ layW)
theorem make_ok {m:Mst} (h:m.ok) {ws:List Int} (hw:∀ z ∈ ws,I64 z) (ht:m.size<=65536):(m.make ws).ok:=by
 unfold Mst.make
 split
 ·rename_i hf;unfold Mst.fits at hf;simp at hf;refine ⟨fun z hz=>?_,by show (m.xs++ws).length<=65536;rw [List.length_append];omega⟩;rcases List.mem_append.1 hz with h1 | h1
  ·exact h.1 z h1
  ·exact hw z h1
 ·exact h
theorem write_ok' {m:Mst} (h:m.ok) (a:Int) {x:Int} (hx:I64 x):(m.write a x).ok:=by
 cases hu:m.used a with
 | true=>exact (Sd.write_put h hu hx).ok
 | false=>rw [Mst.write_out hu];exact ⟨by rw [Mst.touch_xs];exact h.1,by rw [Mst.touch_xs];exact h.2⟩
theorem cas_ok' {m:Mst} (h:m.ok) (a o:Int) {x:Int} (hx:I64 x):(m.cas a o x).ok:=by
 unfold Mst.cas
 split
 ·exact write_ok' h a hx
 ·exact ⟨by rw [Mst.touch_xs];exact h.1,by rw [Mst.touch_xs];exact h.2⟩
def Laid (W:World) (n₀ y b x mb tb:Nat) (tv lv:Sl) (pz:List Pt) (ix:Ixp) (sh:Bool) (W':World) (r:Int):Prop:=
 ∃ p v' mv' m',p ∈ ownL ix.m/\(layZ ix.m p sh).2=r/\YdIs W' n₀ y b x mb tb v' mv' tv lv pz m' { ix with m:=(layZ ix.m p sh).1 }/\m'.xs=(layZ ix.m p sh).1.xs/\m'.size=(layZ ix.m p sh).1.size/\Td (fun k=>n₀<=k) W W'
set_option maxRecDepth 100000 in
set_option maxHeartbeats 4000000 in
theorem lay_y (W:World) (n₀ y b x mb tb:Nat) (v mv:Value) (tv lv:Sl) (pz:List Pt) (m:Mst) (ix:Ixp) (h:YdIs W n₀ y b x mb tb v mv tv lv pz m ix) (hn:n₀<=W.heap.size) (hx:m.xs=ix.m.xs) (hz:m.size=ix.m.size) (hs:soundB ix.m=true) (h0:7<=ix.m.xs.length) (n:Int) (sh:Bool) :
  Calls Tryz.prog 23 #[.pointer (some ⟨y,0,none⟩),.int .i64 n,.bool sh] W fun e W'=>∃ r,e=.returned (.int .i64 r)/\Laid W n₀ y b x mb tb tv lv pz ix sh W' r:=by
 have ho:=h.ixs.mok;have c0:W.cell? ⟨y,1,none⟩=some (.pointer (some ⟨x,0,none⟩)):=by have:=h.box;simp [World.cell?,this]
 have c2:=h.ixs.cells.1.1;have SD:=slot_d W mb ix.m ⟨n₀,mv,ix.m,rfl,h.ixs.mem⟩ ho hs n;have H:=gh h;have HN:=gh hn;have HX:=gh (And.intro hx hz);have HS:=gh hs;have HO:=gh ho;have H0:=gh h0;have HSD:=gh SD;clear h hn hx hz hs ho h0 SD;go_enter Tryz.func23,Tryz.ntmps23;go_wp2_with (fail);refine HSD.o.mono ?_;rintro e W1 ⟨p,hp,rfl,k1⟩;obtain ⟨p1,p2⟩:=p;have HP:=gh hp;have H1:=gh (H.o.kept k1);have K1:=gh k1;obtain ⟨V,hV⟩:∃ V,W1.alloc (.cells #[.int .i64 p1,.int .i64 p2] 56)=V:=⟨_,rfl⟩;obtain ⟨o,hoo⟩:∃ o,W1.heap.size=o:=⟨_,rfl⟩;have kV:Kept W1 V:=by rw [<- hV];exact Td.alloc _ _ _
 have bo:V.heap[o]? = some (.cells #[.int .i64 p1,.int .i64 p2] 56):=by rw [<- hV,<- hoo];exact heap_new _ _
 have o1:V.cell? ⟨o,0,none⟩=some (.int .i64 p1):=by simp [World.cell?,bo]
 have o2:V.cell? ⟨o,1,none⟩=some (.int .i64 p2):=by simp [World.cell?,bo]
 have HV:=gh hV;have HOO:=gh hoo;have BO:=gh bo;have H2:=gh (H1.o.kept kV);have KV:=gh (k1.trans kV);clear hp k1 hV kV bo H1 HSD c0 c2;go_wp2_with (fail);rw [HV.o];obtain ⟨z,hz⟩:∃ z,ix.m.look p2=z:=⟨_,rfl⟩;obtain ⟨k,hk⟩:∃ k,kd z=k:=⟨_,rfl⟩;have HZ:=gh hz;have HK:=gh hk;have IZ:Hid (I64 z):=gh (by rw [<- hz];exact HO.o.look _);clear hz hk;refine (lk_d V mb ix.m p2 z ⟨n₀,mv,ix.m,rfl,H2.o.ixs.mem⟩ HZ.o).mono ?_;rintro e w' ⟨rfl,rfl⟩;have KK:∀ X,Calls Tryz.prog 74 #[.int .i64 z] X fun e w'=>e=.returned (.int .i64 k)/\X=w':=fun X=>kk_d X z k IZ.o HK.o;have T0:Hid (Td (fun k=>n₀<=k) W V):=gh (KV.o.mono fun _ _ e=>e.elim);have STOP:Hid (k=5∨k=3∨k=4->∀ U,Kept V U->Laid W n₀ y b x mb tb tv lv pz ix sh U 0):=gh (fun h U kU=>by
  have e0:layZ ix.m (p1,p2) sh=(ix.m,0):=by unfold layZ;rw [if_pos (by rw [HZ.o,HK.o];exact h)]
  have e:(layZ ix.m (p1,p2) sh).1=ix.m:=by rw [e0]
  exact ⟨(p1,p2),v,mv,m,HP.o,by rw [e0],by rw [e];exact H2.o.kept kU,by rw [e];exact HX.o.1,by rw [e];exact HX.o.2,T0.o.trans kU (fun _ e=>e) (fun _ _ e=>e.elim)⟩)
 by_cases k5:k=5
 ·subst k5;go_wp2_with (fail);refine (KK V).mono ?_;rintro e w' ⟨rfl,rfl⟩;clear KK o1 o2;go_wp2;go_ret;exact ⟨0,rfl,STOP.o (by simp) _ (Kept.refl _)⟩
 have g5:(k == 5)=false:=by simp [k5]
 by_cases k3:k=3
 ·subst k3;clear k5;go_wp2_with (fail);refine (KK V).mono ?_;rintro e w' ⟨rfl,rfl⟩;go_wp2_with (fail);refine (KK V).mono ?_;rintro e w' ⟨rfl,rfl⟩;clear KK o1 o2;go_wp2;go_ret;exact ⟨0,rfl,STOP.o (by simp) _ (Kept.refl _)⟩
 have g3:(k == 3)=false:=by simp [k3]
 by_cases k4:k=4
 ·subst k4;clear k5 k3;go_wp2_with (fail);refine (KK V).mono ?_;rintro e w' ⟨rfl,rfl⟩;go_wp2_with (fail);refine (KK V).mono ?_;rintro e w' ⟨rfl,rfl⟩;go_wp2_with (fail);refine (KK V).mono ?_;rintro e w' ⟨rfl,rfl⟩;clear KK o1 o2;go_wp2;go_ret;exact ⟨0,rfl,STOP.o (by simp) _ (Kept.refl _)⟩
 have g4:(k == 4)=false:=by simp [k4]
 have NK:=gh (And.intro k5 (And.intro k3 k4));clear k5 k3 k4 STOP;go_wp2_with (fail);refine (KK V).mono ?_;rintro e w' ⟨rfl,rfl⟩;go_wp2_with (fail);refine (KK V).mono ?_;rintro e w' ⟨rfl,rfl⟩;go_wp2_with (fail);refine (KK V).mono ?_;rintro e w' ⟨rfl,rfl⟩;clear KK o1 o2;go_wp2_with (fail);clear g5 g3 g4;refine (empty_r V).mono ?_;intro e V1 hF;obtain ⟨fa,fc,rfl,hr,hc1,hc2,hnb,hrow,hk⟩:=hF.form;have NV:Hid (n₀<=V1.heap.size):=gh (by have:=HN.o;have:=T0.o.size;have:=hk.size;omega);have H3:=gh (H2.o.kept hk);have BO1:=gh (hk.heap BO.o id);have T1:Hid (Td (fun k=>n₀<=k) W V1):=gh (T0.o.trans hk (fun _ e=>e) (fun _ _ e=>e.elim));have MK:=make_d V1 n₀ mb mv ix.m fa [0] fc H3.o.ixs.mem NV.o hr (by unfold maxLen;decide) (fun _ ad e=>by
  have h1:=hnb ad e;have h2:=(H2.o.ixs.mem.lt mb (.inl rfl)).2;omega)
 obtain ⟨f1,hf1⟩:∃ f1,ix.m.fits 1=f1:=⟨_,rfl⟩;obtain ⟨ea,hea⟩:∃ ea,ix.m.next [0]=ea:=⟨_,rfl⟩;obtain ⟨m1,hm1⟩:∃ m1,ix.m.make [0]=m1:=⟨_,rfl⟩;rw [show ([0]:List Int).length=1 from rfl,hf1,hea,hm1] at MK;have HMK:=gh MK;have HF1:=gh hf1;have HEA:=gh hea;have HM1:=gh hm1;clear hF hr hc1 hc2 hnb hrow hk MK hf1 hea hm1 H2 T0;go_wp2_with (fail);refine HMK.o.mono ?_;rintro e V2 ⟨rfl,mv2,dm2,t2,n2⟩;have OK1:Hid m1.ok:=gh (by rw [<- HM1.o];exact make_ok HO.o (by intro z hz;simp at hz;rw [hz];exact ⟨by decide,by decide⟩) H3.o.ixs.mem.top);have H4:=gh (H3.o.doc t2 dm2 OK1.o n2);have BO2:=gh (t2.heap BO1.o (foot_apart H3.o.ixs.mem BO1.o (by decide) (by decide)));have T2:Hid (Td (fun k=>n₀<=k) W V2):=gh (T1.o.trans t2 (fun _ e=>e) (fun k _ e=>(H3.o.ixs.mem.lt k e).1));clear dm2 t2 n2 HMK H3 BO1 NV T1;obtain ⟨V3,hV3⟩:∃ V3,V2.drew=V3:=⟨_,rfl⟩;have kV3:Kept V2 V3:=by rw [<- hV3];exact Kept.drew _
 have H5:=gh (H4.o.kept kV3);have BO3:=gh (kV3.heap BO2.o id);have T3:Hid (Td (fun k=>n₀<=k) W V3):=gh (T2.o.trans kV3 (fun _ e=>e) (fun _ _ e=>e.elim));have HV3:=gh hV3;have NF:=gh (foot_apart H5.o.ixs.mem BO3.o (by decide) (by decide));have cc0:V3.cell? ⟨o,0,none⟩=some (.int .i64 p1):=by have:=BO3.o;simp [World.cell?,this]
 have cc1:V3.cell? ⟨o,1,none⟩=some (.int .i64 p2):=by have:=BO3.o;simp [World.cell?,this]
 have x0:∀ u:Wd (fun U=>Td (Foot mb mv2) V3 U),u.w.cell? ⟨o,0,none⟩=some (.int .i64 p1):=fun u=>u.ok.cell cc0 NF.o;have x1:∀ u:Wd (fun U=>Td (Foot mb mv2) V3 U),u.w.cell? ⟨o,1,none⟩=some (.int .i64 p2):=fun u=>u.ok.cell cc1 NF.o;obtain ⟨xe,hxe⟩:∃ xe,Rf.ofZ 1 ea=xe:=⟨_,rfl⟩;have HXE:=gh hxe;clear hV3 kV3 hxe cc0 cc1 H4 BO2 T2;go_wp2_with (fail);refine region_wide [0,1,2,3,4,5,6,7,8,9,10,11,12,13,14,15] (fun U=>Td (Foot mb mv2) V3 U) (by kernel_rfl) (by kernel_rfl) (by rw [HV3.o];exact Td.refl _ _) (fun _=>?_);rw [HV3.o]
 repeat (refine pq rfl rfl ?_;go_big_quiet_step (fail);refine wpQuiet_nil ?_)
 refine pl rfl rfl ?_;gi_wp2_with (fail);refine ⟨trivial,?_⟩;refine (callsIn_wide.2 (ofr_c 1 ea xe HXE.o V3)).mono ?_;rintro e w' ⟨rfl,rfl⟩;gi_wp2_with (fail);refine ⟨Wd.mem (Td.refl _ _),?_⟩;refine pl rfl rfl ?_;gi_wp2_with (fail);refine ⟨trivial,?_⟩;refine (callsIn_wide.2 (dcssw_r V3 (wrap64 (p1+2)) p2 z xe)).mono ?_;intro e V4 hF;obtain ⟨fa,fc,rfl,hr,hc1,hc2,hnb,hrow,hk⟩:=hF.form;have H6:=gh (H5.o.kept hk);have KT:Hid (Td (Foot mb mv2) V3 V4):=gh (hk.mono fun _ _ e=>e.elim);have EW:Hid ([wrap64 (p1+2),p2,z,xe,0]=layW ix.m (p1,p2)):=gh (by unfold layW;rw [HZ.o,HEA.o,HXE.o]);have MK:=make_d V4 n₀ mb mv2 m1 fa [wrap64 (p1+2),p2,z,xe,0] fc H6.o.ixs.mem (by have:=HN.o;have:=T3.o.size;have:=hk.size;omega) hr (by unfold maxLen;simp) (fun _ ad e=>by
  have h1:=hnb ad e;have h2:=(H5.o.ixs.mem.lt mb (.inl rfl)).2;omega)
 obtain ⟨f5,hf5⟩:∃ f5,m1.fits 5=f5:=⟨_,rfl⟩;obtain ⟨da,hda⟩:∃ da,m1.next [wrap64 (p1+2),p2,z,xe,0]=da:=⟨_,rfl⟩;obtain ⟨m2,hm2⟩:∃ m2,m1.make [wrap64 (p1+2),p2,z,xe,0]=m2:=⟨_,rfl⟩;rw [show [wrap64 (p1+2),p2,z,xe,0].length=5 from rfl,hf5,hda,hm2] at MK;have HMK:=gh MK;have HF5:=gh hf5;have HDA:=gh hda;have HM2:=gh hm2;clear hF hr hc1 hc2 hnb hrow hk MK hf5 hda hm2;gi_wp2_with (fail);refine ⟨Wd.mem KT.o,?_⟩;refine pl rfl rfl ?_;gi_wp2_with (fail);refine ⟨trivial,?_⟩;refine (callsIn_wide.2 HMK.o).mono ?_;rintro e V5 ⟨rfl,mv5,dm5,t5,n5⟩;have TR:Hid (Td (Foot mb mv2) V3 V5):=gh (KT.o.trans t5 (fun _ e=>e) (fun _ _ e=>e));have OK2:Hid m2.ok:=gh (by
  rw [<- HM2.o];refine make_ok OK1.o (fun y hy=>?_) H6.o.ixs.mem.top;have pb:=ownL_in HO.o HS.o _ HP.o;simp only [List.mem_cons,List.not_mem_nil,or_false] at hy;rcases hy with rfl | rfl | rfl | rfl | rfl
  ·unfold wrap64;constructor <;> omega
  ·exact ⟨by omega,by omega⟩
  ·exact IZ.o
  ·rw [<- HXE.o];exact i64_of 1 ea
  ·exact ⟨by decide,by decide⟩)
 have H7:=gh (H6.o.doc t5 dm5 OK2.o n5);have BO5:=gh (TR.o.heap BO3.o NF.o);have T5:Hid (Td (fun k=>n₀<=k) W V5):=gh (T3.o.trans TR.o (fun _ e=>e) (fun k _ e=>(H5.o.ixs.mem.lt k e).1));clear dm5 t5 n5 HMK;gi_wp2_with (fail);refine ⟨Wd.mem TR.o,?_⟩
 repeat (refine pq rfl rfl ?_;go_big_quiet_step (fail);refine wpQuiet_nil ?_)
 refine perm_done ?_;clear x0 x1 H5 H6 KT TR NF BO3 T3 HV3;have GR:Hid (Grew1 ix.m m2):=gh (by rw [<- HM2.o,<- HM1.o];exact (Mst.make_grew _ _).trans (Mst.make_grew _ _));have NV5:Hid (n₀<=V5.heap.size):=gh (Nat.le_trans HN.o T5.o.size);have FOL:Hid (∀ (V:World) (m3:Mst) (mv3:Value) (r:Int),YdIs V n₀ y b x mb tb v mv3 tv lv pz m { ix with m:=m3 }->Grew1 ix.m m3->layZ ix.m (p1,p2) sh=(m3,r)->Td (fun k=>n₀<=k) W V->Calls Tryz.prog 79 #[.pointer (some ⟨y,0,none⟩)] V fun e W'=>e=.returned (.tuple #[])/\Laid W n₀ y b x mb tb tv lv pz ix sh W' r):=gh (fun V m3 mv3 r hy hg el ht=>by
  refine (follow_y V n₀ y b x mb tb v mv3 tv lv pz m { ix with m:=m3 } hy (Nat.le_trans HN.o ht.size) (by have:=hg.len;have:=H0.o;show 0 < m3.xs.length;omega) (by rw [HX.o.1];exact hg.len) (by rw [HX.o.2];exact hg.size.symm)).mono ?_;rintro e W' ⟨rfl,v',m',h1,h2,h3,h4⟩;exact ⟨rfl,(p1,p2),v',mv3,m',HP.o,by rw [el],by rw [el];exact h1,by rw [el];exact h2,by rw [el];exact h3,ht.trans h4 (fun _ e=>e) (fun _ _ e=>e)⟩)
 have NLAY:Hid (¬ (f1=true/\f5=true)->layZ ix.m (p1,p2) sh=(m2,0)):=gh (fun h=>by
  unfold layZ;rw [if_neg (by rw [HZ.o,HK.o];exact fun e=>e.elim NK.o.1 (fun e=>e.elim NK.o.2.1 NK.o.2.2)),if_neg (by rw [HM1.o,HF1.o,HF5.o];exact h),HM1.o,<- EW.o,HM2.o])
 cases f1 with
 | false=>
  go_wp2_with (fail);refine (FOL.o V5 m2 mv5 0 H7.o GR.o (NLAY.o (by simp)) T5.o).mono ?_;rintro e W9 ⟨rfl,L9⟩;have L:=gh L9;clear L9;go_wp2;go_ret;exact ⟨0,rfl,L.o⟩
 | true=>
  cases f5 with
  | false=>
   go_wp2_with (fail);refine (FOL.o V5 m2 mv5 0 H7.o GR.o (NLAY.o (by simp)) T5.o).mono ?_;rintro e W9 ⟨rfl,L9⟩;have L:=gh L9;clear L9;go_wp2;go_ret;exact ⟨0,rfl,L.o⟩
  | true=>
   clear NLAY;obtain ⟨V6,hV6⟩:∃ V6,V5.drew=V6:=⟨_,rfl⟩;have kV6:Kept V5 V6:=by rw [<- hV6];exact Kept.drew _
   have H8:=gh (H7.o.kept kV6);have BO6:=gh (kV6.heap BO5.o id);have T6:Hid (Td (fun k=>n₀<=k) W V6):=gh (T5.o.trans kV6 (fun _ e=>e) (fun _ _ e=>e.elim));have HV6:=gh hV6;have NF:=gh (foot_apart H8.o.ixs.mem BO6.o (by decide) (by decide));have cc1:V6.cell? ⟨o,1,none⟩=some (.int .i64 p2):=by have:=BO6.o;simp [World.cell?,this]
   have x1:∀ u:Wd (fun U=>Td (Foot mb mv5) V6 U),u.w.cell? ⟨o,1,none⟩=some (.int .i64 p2):=fun u=>u.ok.cell cc1 NF.o;obtain ⟨xd,hxd⟩:∃ xd,Rf.ofZ 5 da=xd:=⟨_,rfl⟩;have HXD:=gh hxd;clear hV6 kV6 hxd cc1 H7 BO5 T5;go_wp2_with (fail);refine region_wide [0,1,2,3,4,5,6] (fun U=>Td (Foot mb mv5) V6 U) (by kernel_rfl) (by kernel_rfl) (by rw [HV6.o];exact Td.refl _ _) (fun _=>?_);rw [HV6.o]
   repeat (refine pq rfl rfl ?_;go_big_quiet_step (fail);refine wpQuiet_nil ?_)
   refine pl rfl rfl ?_;gi_wp2_with (fail);refine ⟨trivial,?_⟩;refine (callsIn_wide.2 (ofr_c 5 da xd HXD.o V6)).mono ?_;rintro e w' ⟨rfl,rfl⟩;gi_wp2_with (fail);refine ⟨Wd.mem (Td.refl _ _),?_⟩;refine pl rfl rfl ?_;gi_wp2_with (fail);refine ⟨trivial,?_⟩;refine (callsIn_wide.2 (cas_d V6 n₀ mb mv5 m2 p2 z xd H8.o.ixs.mem)).mono ?_;rintro e V7 ⟨rfl,dm7,t7⟩;obtain ⟨m3,hm3⟩:∃ m3,m2.cas p2 z xd=m3:=⟨_,rfl⟩;rw [hm3] at dm7;have HM3:=gh hm3;have OK3:Hid m3.ok:=gh (by rw [<- hm3];exact cas_ok' OK2.o _ _ (by rw [<- HXD.o];exact i64_of 5 da));have H9:=gh (H8.o.doc t7 dm7 OK3.o (fun _ e=>.inl e));have BO7:=gh (t7.heap BO6.o NF.o);have T7:Hid (Td (fun k=>n₀<=k) W V7):=gh (T6.o.trans t7 (fun _ e=>e) (fun k _ e=>(H8.o.ixs.mem.lt k e).1));have TF:=gh t7;have GR3:Hid (Grew1 ix.m m3):=gh (by
    refine GR.o.trans ?_;rw [<- HM3.o];unfold Mst.cas
    split
    ·exact Mst.write_grew _ _ _
    ·exact Mst.touch_grew _ _)
   clear dm7 t7 hm3;gi_wp2_with (fail);refine ⟨Wd.mem TF.o,?_⟩
   repeat (refine pq rfl rfl ?_;go_big_quiet_step (fail);refine wpQuiet_nil ?_)
   refine perm_done ?_;clear x1 H8 TF NF BO6 T6 HV6;have LZ:Hid (layZ ix.m (p1,p2) sh=(if sh=true/\p1≠1 then m3.write (wrap64 (p1+2)) 1 else m3,da)):=gh (by
    unfold layZ;rw [if_neg (by rw [HZ.o,HK.o];exact fun e=>e.elim NK.o.1 (fun e=>e.elim NK.o.2.1 NK.o.2.2)),if_pos (by rw [HM1.o,HF1.o,HF5.o];simp),HM1.o,<- EW.o,HM2.o,HZ.o,HDA.o,HXD.o,HM3.o])
   have cc0:V7.cell? ⟨o,0,none⟩=some (.int .i64 p1):=by have:=BO7.o;simp [World.cell?,this]
   cases sh with
   | false=>
    go_wp2_with (fail);refine (FOL.o V7 m3 mv5 da H9.o GR3.o (by rw [LZ.o,if_neg (by simp)]) T7.o).mono ?_;rintro e W9 ⟨rfl,L9⟩;have L:=gh L9;clear L9;go_wp2;go_ret;exact ⟨da,rfl,L.o⟩
   | true=>
    by_cases h1:p1=1
    ·have g1:(p1 != 1)=false:=by simp [h1]
     have HH:=gh h1;clear h1;go_wp2_with (fail);refine (FOL.o V7 m3 mv5 da H9.o GR3.o (by rw [LZ.o,if_neg (fun e=>e.2 HH.o)]) T7.o).mono ?_;rintro e W9 ⟨rfl,L9⟩;have L:=gh L9;clear L9;go_wp2;go_ret;exact ⟨da,rfl,L.o⟩
    ·have g1:(p1 != 1)=true:=by simp [h1]
     have HH:=gh h1;clear h1;go_wp2_with (fail);refine (write_d V7 n₀ mb mv5 m3 (wrap64 (p1+2)) 1 H9.o.ixs.mem).mono ?_;rintro e V8 ⟨rfl,dm8,t8⟩;have H10:=gh (H9.o.doc t8 dm8 (write_ok' OK3.o _ ⟨by decide,by decide⟩) (fun _ e=>.inl e));have T8:Hid (Td (fun k=>n₀<=k) W V8):=gh (T7.o.trans t8 (fun _ e=>e) (fun k _ e=>(H9.o.ixs.mem.lt k e).1));clear dm8 t8 cc0;go_wp2_with (fail);refine (FOL.o V8 _ mv5 da H10.o (GR3.o.trans (Mst.write_grew _ _ _)) (by rw [LZ.o,if_pos (by first | exact ⟨rfl,HH.o⟩ | exact ⟨trivial,HH.o⟩ | simpa using HH.o)]) T8.o).mono ?_;rintro e W9 ⟨rfl,L9⟩;have L:=gh L9;clear L9;go_wp2;go_ret;exact ⟨da,rfl,L.o⟩
end
section
set_option maxRecDepth 20000
structure MPk (w W:World) (b:Nat) (s:Mst) (f:Nat) (p:Pk):Prop where
 mem:∃ v,PMem W w.heap.size b v s/\¬ Foot b v f
 frame:PkAt W f p
 new:w.heap.size<=f
 kept:Kept w W
theorem Now.peek {w W W':World} {b:Nat} {s:Mst} {p:Pk} (h:Now w W b s) (k:Kept W W') (hf:PkAt W' W.heap.size p):MPk w W' b s W.heap.size p:=by
 obtain ⟨⟨v,h⟩,hk⟩:=h;exact ⟨⟨v,h.kept k,fun e=>Nat.lt_irrefl _ (h.lt _ e).2⟩,hf,hk.size,hk.trans k⟩
theorem MPk.now {w W:World} {b f:Nat} {s:Mst} {p:Pk} (h:MPk w W b s f p):Now w W b s:=by
 obtain ⟨⟨v,h1,_⟩,_,_,hk⟩:=h;exact ⟨⟨v,h1⟩,hk⟩
theorem mpk_step (w W:World) (b:Nat) (s:Mst) (f:Nat) (p:Pk) (h:MPk w W b s f p) (ho:∀ a,I64 (s.look a)) (p':Pk) (s':Mst) (r:Bool) (e1:p.step s=(p',s')) (e2:(p'.n == 4)=r) :
  Calls Tryz.prog 30 #[.pointer (some ⟨f,0,none⟩),.pointer (some ⟨b,0,none⟩)] W fun e W'=>e=.returned (.bool r)/\MPk w W' b s' f p':=by
 obtain ⟨⟨v,hm,hf⟩,hp,hn,hk⟩:=h;refine (pk_step W _ b v f p s hp hm ho hf p' s' r e1 e2).mono ?_;rintro e W' ⟨rfl,R⟩;exact ⟨rfl,⟨v,R.mem,hf⟩,R.frame,hn,hk.own (fun i hi=>hi.elim (fun e=>e ▸ hn) (fun e=>e ▸ (hm.lt b (.inl rfl)).1)) R.turned⟩
theorem Mst.look_i64 {s:Mst} (h:∀ z ∈ s.xs,I64 z) (a:Int):I64 (s.look a):=by
 unfold Mst.look
 split
 ·rename_i hu;cases hx:s.xs[(a - 1).toNat]? with
  | none=>rw [List.getD_eq_getElem?_getD,hx];exact ⟨by decide,by decide⟩
  | some z=>
   rw [List.getD_eq_getElem?_getD,hx];exact h z (List.mem_of_getElem? hx)
 ·exact ⟨by decide,by decide⟩
def allI (l:List Int):Bool:=l.all fun z=>decide (-9223372036854775808<=z) && decide (z<=9223372036854775807)
theorem allI_ok {s:Mst} (h:allI s.xs=true):∀ a,I64 (s.look a):=Mst.look_i64 (fun z hz=>by
 have:=List.all_eq_true.1 h z hz
 simp only [Bool.and_eq_true,decide_eq_true_eq] at this;exact this)
theorem count_q (W:World) (n₀ b:Nat) (v:Value) (m:Mst) (h:PMem W n₀ b v m) (r:Int) (e1:m.count=r):Calls Tryz.prog 34 #[.pointer (some ⟨b,0,none⟩)] W fun e W'=>e=.returned (.int .i64 r)/\W=W':=by
 obtain ⟨⟨_,_,c2,_⟩,_⟩:=h.opened;rw [e1] at c2;clear h e1;go_enter Tryz.func34,Tryz.ntmps34;go_wp2;go_ret;exact ⟨rfl,rfl⟩
theorem now_count (w W:World) (b:Nat) (s:Mst) (r:Int) (h:Now w W b s) (e1:s.count=r):Calls Tryz.prog 34 #[.pointer (some ⟨b,0,none⟩)] W fun e W'=>e=.returned (.int .i64 r)/\W=W':=by
 obtain ⟨⟨v,h⟩,_⟩:=h;exact count_q W _ b v s h r e1
def pkn0:Mst:=⟨[1,0,0,0,0,57,0],9,2,0,0⟩
theorem pkn0_is:begun (Mst.new 9)=pkn0:=by kernel_rfl
theorem known11_c (w:World):Calls Tryz.prog 27 #[] w fun e w'=>e=.returned (.bool true)/\Kept w w':=by
 go_enter Tryz.func27,Tryz.ntmps27;go_wp2_with (fail);refine (now_new w w 9 (Kept.refl w) (by decide) (by decide)).mono ?_;rintro e W1 ⟨rfl,h1,-⟩;have H1:=gh h1;clear h1;go_wp2_with (fail);refine (begin_c w W1 _ _ H1.o rfl (by decide)).mono ?_;rintro e W2 ⟨rfl,h2⟩;have H2:=gh h2;rw [pkn0_is] at H2;clear h2 H1;go_wp2_with (fail);refine (pk_new W2 6).mono ?_;rintro e W3 ⟨rfl,p3,k3⟩;obtain ⟨f,hf⟩:∃ f,W2.heap.size=f:=⟨_,rfl⟩;have M3:=gh (H2.o.peek k3 p3);rw [hf] at M3;clear p3 k3 H2;rw [hf];clear hf;go_wp2_with (fail);refine (pk_done W3 f _ M3.o.frame false rfl).mono ?_;rintro e W4 ⟨rfl,rfl⟩;go_wp2_with (fail);refine (pk_word W3 f _ M3.o.frame 0 rfl).mono ?_;rintro e W4 ⟨rfl,rfl⟩;go_wp2_with (fail);refine (mpk_step w W3 _ _ f _ M3.o (allI_ok (by kernel_rfl)) ⟨4,6,0,57⟩ ⟨[1,0,0,0,0,57,0],9,3,0,0⟩ true (by kernel_rfl) rfl).mono ?_;rintro e W4 ⟨rfl,m4⟩;have M4:=gh m4;clear m4 M3;go_wp2_with (fail);refine (pk_done W4 f _ M4.o.frame true rfl).mono ?_;rintro e W5 ⟨rfl,rfl⟩;go_wp2_with (fail);refine (pk_word W4 f _ M4.o.frame 57 rfl).mono ?_;rintro e W5 ⟨rfl,rfl⟩;go_wp2_with (fail);refine (mpk_step w W4 _ _ f _ M4.o (allI_ok (by kernel_rfl)) ⟨4,6,0,57⟩ ⟨[1,0,0,0,0,57,0],9,3,0,0⟩ true (by kernel_rfl) rfl).mono ?_;rintro e W5 ⟨rfl,m5⟩;have M5:=gh m5;clear m5 M4;go_wp2_with (fail);refine (now_count w W5 _ _ 3 M5.o.now rfl).mono ?_;rintro e W6 ⟨rfl,rfl⟩;go_wp2;go_ret;exact ⟨rfl,M5.o.kept⟩
theorem pk_idle (W:World) (f b:Nat) (p:Pk) (h:PkAt W f p) (hn:p.n=4):Calls Tryz.prog 30 #[.pointer (some ⟨f,0,none⟩),.pointer (some ⟨b,0,none⟩)] W fun e W'=>e=.returned (.bool true)/\W=W':=by
 have D:=pk_done W f p h true (by rw [hn];rfl);have HD:=gh D;obtain ⟨⟨c0,_⟩,_⟩:=h.cells;rw [hn] at c0;clear h D;go_enter Tryz.func30,Tryz.ntmps30;go_wp2_with (fail);refine HD.o.mono ?_;rintro e W3 ⟨rfl,rfl⟩;go_wp2;go_ret;exact ⟨rfl,rfl⟩
end
section
theorem region_quiet {P:Program} {l:List Oper} {Q:Exit->Act->World->Prop} {id:Nat} {a:Act} {w:World} (S:World->Prop) (hm:P.follows .mixedOrders=true) (hB:Region.lexB .any l.toArray=true) (hS:S w.drew)
  (h:Nonempty (Wd S)->wpQuiet P l.toArray (fun w'=>∃ x:Wd S,w'=x.w) (fun a'=>∀ x:Wd S,Q .normal a' x.w) l a):(Code.region id l.toArray true).wp P Q a w:=by
 refine wp_region_quiet (C:=fun w'=>∃ x:Wd S,w'=x.w) hm hB (Wd.mem hS) ?_
 have:=h ⟨⟨_,hS⟩⟩
 have e:∀ (l:List Oper) (a:Act),wpQuiet P l.toArray (fun w'=>∃ x:Wd S,w'=x.w) (fun a'=>∀ x:Wd S,Q .normal a' x.w) l a->True:=fun _ _ _=>trivial;have q:(fun a'=>∀ x:Wd S,Q .normal a' x.w)=(fun a'=>∀ w',(∃ x:Wd S,w'=x.w)->Q .normal a' w'):=by
  funext a';exact propext ⟨fun h w' ⟨x,e⟩=>by rw [e];exact h x,fun h x=>h _ ⟨x,rfl⟩⟩
 rw [q] at this;simpa using this
end
section
open Go.Shelf
def Yx (w W:World) (y b x mb:Nat) (m:Mst) (ix:Ixp):Prop:=∃ tb v mv tv lv pz,YdIs W w.heap.size y b x mb tb v mv tv lv pz m ix/\Kept w W
theorem Yd.sees {w W:World} {y:Nat} {m:Mst} {ix:Ixp} (h:Yd w W y m ix):∃ b x mb,Yx w W y b x mb m ix:=by
 obtain ⟨b,x,mb,tb,v,mv,tv,lv,pz,h⟩:=h;exact ⟨b,x,mb,tb,v,mv,tv,lv,pz,h⟩
namespace Yx
variable {w W W':World} {y b x mb:Nat} {m m':Mst} {ix:Ixp}
theorem yd (h:Yx w W y b x mb m ix):Yd w W y m ix:=by
 obtain ⟨tb,v,mv,tv,lv,pz,h⟩:=h;exact ⟨b,x,mb,tb,v,mv,tv,lv,pz,h⟩
theorem since (h:Yx w W y b x mb m ix):Kept w W:=by
 obtain ⟨tb,v,mv,tv,lv,pz,_,h⟩:=h;exact h
theorem kept (h:Yx w W y b x mb m ix) (k:Kept W W'):Yx w W' y b x mb m ix:=by
 obtain ⟨tb,v,mv,tv,lv,pz,h1,h2⟩:=h;exact ⟨tb,v,mv,tv,lv,pz,h1.kept k,h2.trans k⟩
theorem cells (h:Yx w W y b x mb m ix):W.cell? ⟨y,0,none⟩=some (.pointer (some ⟨b,0,none⟩))/\W.cell? ⟨y,1,none⟩=some (.pointer (some ⟨x,0,none⟩))/\W.cell? ⟨x,3,none⟩=some (.pointer (some ⟨mb,0,none⟩)):=by
 obtain ⟨tb,v,mv,tv,lv,pz,h1,_⟩:=h;have hb:=h1.box;exact ⟨by simp [World.cell?,hb],by simp [World.cell?,hb],h1.ixs.cells.1.1⟩
theorem pm (h:Yx w W y b x mb m ix):PM W b m:=by
 obtain ⟨tb,v,mv,tv,lv,pz,h1,_⟩:=h;exact ⟨_,v,h1.pm⟩
theorem now (h:Yx w W y b x mb m ix):Now w W b m:=by
 obtain ⟨tb,v,mv,tv,lv,pz,h1,h2⟩:=h;exact ⟨⟨v,h1.pm⟩,h2⟩
theorem dm (h:Yx w W y b x mb m ix):DM W mb ix.m:=by
 obtain ⟨tb,v,mv,tv,lv,pz,h1,_⟩:=h;exact ⟨_,mv,ix.m,rfl,h1.ixs.mem⟩
end Yx
theorem YOk.like {m m':Mst} {ix:Ixp} {c:Nat} (h:YOk m ix c) (e1:m'.xs=m.xs) (e2:m'.size=m.size):YOk m' ix c:=⟨e1.trans h.xs,e2.trans h.size,h.wi,h.gd,h.len,h.big⟩
theorem YOk.le {m:Mst} {ix:Ixp} {c c':Nat} (h:YOk m ix c) (hc:c<=c'):YOk m ix c':=⟨h.xs,h.size,h.wi,h.gd.le hc,h.len,h.big⟩
theorem layZ_len {m:Mst} {g:Sd.Gh} (h:Sd.Inv m g) {p:Int × Int} (hs:Sd.Sl m g p) (sh:Bool) (h7:7<=m.xs.length):7<=(Sd.layZ m p sh).1.xs.length:=by
 obtain ⟨g',G⟩:=Sd.lay_gt h hs sh 0
 have:=G.ex.len 7 (by unfold Mst.used;simp;omega)
 unfold Mst.used at this;simp at this;omega
theorem lay_xx (w W:World) (y b x mb:Nat) (m:Mst) (ix:Ixp) (c:Nat) (h:Yx w W y b x mb m ix) (o:YOk m ix c) (n:Int) (sh:Bool) :
  Calls Tryz.prog 23 #[.pointer (some ⟨y,0,none⟩),.int .i64 n,.bool sh] W fun e W'=>∃ p m' ix',e=.returned (.int .i64 (Sd.layZ ix.m p sh).2)/\p ∈ ownL ix.m/\ix'.m=(Sd.layZ ix.m p sh).1/\Yx w W' y b x mb m' ix'/\YOk m' ix' c:=by
 obtain ⟨tb,v,mv,tv,lv,pz,h1,h2⟩:=h;refine (lay_y W w.heap.size y b x mb tb v mv tv lv pz m ix h1 h2.size o.xs o.size o.sound o.big n sh).mono ?_;rintro e W' ⟨r,rfl,p,v',mv',m',hp,hr,q1,q2,q3,q4⟩;obtain ⟨g,hI,_⟩:=o.wi;exact ⟨p,m',_,by rw [hr],hp,rfl,⟨tb,v',mv',tv,lv,pz,q1,h2.own (fun _ e=>e) q4⟩,q2,q3,Sd.wi_lay o.wi hp sh,⟨o.gd.ts,o.gd.tape,o.gd.bud,o.gd.log⟩,o.len,layZ_len hI (Sd.own_sl hI hp) sh o.big⟩
theorem lay_x (w W:World) (y b x mb:Nat) (m:Mst) (ix:Ixp) (c:Nat) (h:Yx w W y b x mb m ix) (o:YOk m ix c) (n:Int) (sh:Bool) :
  Calls Tryz.prog 23 #[.pointer (some ⟨y,0,none⟩),.int .i64 n,.bool sh] W fun e W'=>∃ r m' ix',e=.returned (.int .i64 r)/\Yx w W' y b x mb m' ix'/\YOk m' ix' c:=by
 refine (lay_xx w W y b x mb m ix c h o n sh).mono ?_;rintro e W' ⟨p,m',ix',rfl,_,_,q1,q2⟩;exact ⟨_,m',ix',rfl,q1,q2⟩
theorem Pk.step_xs (p:Pk) (m:Mst):(p.step m).2.xs=m.xs/\(p.step m).2.size=m.size:=by
 unfold Pk.step
 split
 ·exact ⟨Mst.touch_xs _ _,Mst.touch_size _ _⟩
 ·split
  ·exact ⟨Mst.touch_xs _ _,Mst.touch_size _ _⟩
  ·split
   ·exact ⟨Mst.touch_xs _ _,Mst.touch_size _ _⟩
   ·split
    ·exact ⟨Mst.touch_xs _ _,Mst.touch_size _ _⟩
    ·exact ⟨rfl,rfl⟩
structure Yp (w W:World) (y b x mb:Nat) (m:Mst) (ix:Ixp) (c f:Nat) (p:Pk):Prop where
 yx:Yx w W y b x mb m ix
 ok:YOk m ix c
 fr:PkAt W f p
 new:w.heap.size<=f
theorem pk_x (w W:World) (y b x mb:Nat) (m:Mst) (ix:Ixp) (c f:Nat) (p:Pk) (h:Yp w W y b x mb m ix c f p) (p':Pk) (m':Mst) (r:Bool) (e1:p.step m=(p',m')) (e2:(p'.n == 4)=r) :
  Calls Tryz.prog 30 #[.pointer (some ⟨f,0,none⟩),.pointer (some ⟨b,0,none⟩)] W fun e W'=>e=.returned (.bool r)/\Yp w W' y b x mb m' ix c f p':=by
 obtain ⟨⟨tb,v,mv,tv,lv,pz,h1,h2⟩,o,hf,hn⟩:=h;have ho:=o.ok.2;have hnf:¬ Foot b v f:=h1.pm.other hf (by decide) (by decide);refine (pk_step W _ b v f p m hf h1.pm (fun a=>ho.look a) hnf p' m' r e1 e2).mono ?_;rintro e W' ⟨rfl,R⟩;have ex:=Pk.step_xs p m;rw [e1] at ex;refine ⟨rfl,⟨tb,v,mv,tv,lv,pz,h1.prog R.turned (fun k hk=>?_) R.mem (fun k hk=>.inl hk),h2.own (fun k hk=>?_) R.turned⟩,o.like ex.1 ex.2,R.frame,hn⟩
 ·rcases hk with rfl | rfl
  ·exact .inr ⟨_,_,hf,by decide,by decide⟩
  ·exact .inl (.inl rfl)
 ·rcases hk with rfl | rfl
  ·exact hn
  ·exact h1.pm.le
theorem pk_begin (w W:World) (y b x mb:Nat) (m:Mst) (ix:Ixp) (c:Nat) (h:Yx w W y b x mb m ix) (o:YOk m ix c) (s:Int):Calls Tryz.prog 25 #[.int .i64 s] W fun e W'=>∃ f,e=.returned (.pointer (some ⟨f,0,none⟩))/\Yp w W' y b x mb m ix c f (Pk.new s):=by
 refine (pk_new W s).mono ?_;rintro e W' ⟨rfl,hp,hk⟩;exact ⟨_,rfl,h.kept hk,o,hp,h.since.size⟩
theorem Yp.kept {w W W':World} {y b x mb:Nat} {m:Mst} {ix:Ixp} {c f:Nat} {p:Pk} (h:Yp w W y b x mb m ix c f p) (k:Kept W W'):Yp w W' y b x mb m ix c f p:=⟨h.yx.kept k,h.ok,h.fr.kept k,h.new⟩
end
end Go.Proofs.YtibnlaihiahjpaaGreat
