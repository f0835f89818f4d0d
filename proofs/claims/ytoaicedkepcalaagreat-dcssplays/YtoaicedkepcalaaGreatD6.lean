/-
  What the proof of YtoaicedkepcalaaGreatDcssPlaysProof goes by, part 6 of 11: contracts and plain facts; each part begins with its own sentence. No conditions beyond each theorem's own.
-/
import Derived.Test.YtoaicedkepcalaaGreatD5
import Derived.Laws.MakeOwn
import Derived.RegionTactic
import Derived.Deep.OwnRows
namespace Go.Proofs.YtoaicedkepcalaaGreat
open Go.RowKit
section
structure FitA (q:Ak):Prop where
 x:I64 q.x
 y:I64 q.y
 w:∀ z ∈ q.w,I64 z
structure Fit (s:Rn):Prop where
 tp:∀ z ∈ s.tape,I64 z
 nx:FitA s.nx
theorem i64_small {z:Int} (h0:-1000000000<=z) (h1:z<=1000000000):I64 z:=⟨by omega,by omega⟩
theorem i64_w (z:Int):I64 (wrap64 z):=by
 unfold wrap64;constructor <;> omega
theorem i64_of (k t:Int):I64 (Rf.ofZ k t):=by
 unfold Rf.ofZ
 split
 ·rename_i h;simp only [Rf.may,decide_eq_true_eq] at h;exact i64_small (by omega) (by omega)
 ·exact i64_0
theorem i64_child (n d i:Int):I64 (childZ n d i):=by
 unfold childZ
 split
 ·rename_i h;simp only [Bool.and_eq_true,nearB_iff] at h;exact ⟨by omega,by omega⟩
 ·exact i64_0
namespace Fit
variable {s:Rn}
theorem ask (h:Fit s) {q:Ak} (hq:FitA q):Fit (s.ask q).2:=by
 refine ⟨by rw [Rn.ask_tape];exact h.tp,?_⟩;unfold Rn.ask
 split
 ·exact h.nx
 ·split
  ·exact h.nx
  ·exact hq
theorem read (h:Fit s) (a:Int):Fit (s.read a).2:=h.ask ⟨i64_0,i64_0,fun _ h=>by cases h⟩
theorem r64 (h:Fit s) (a:Int):I64 (s.read a).1:=Rn.ask_i64 _ h.tp
theorem write (h:Fit s) (a:Int) {x:Int} (hx:I64 x):Fit (s.write a x):=h.ask ⟨hx,i64_0,fun _ h=>by cases h⟩
theorem cas (h:Fit s) (a:Int) {o x:Int} (ho:I64 o) (hx:I64 x):Fit (s.cas a o x).2:=h.ask ⟨ho,hx,fun _ h=>by cases h⟩
theorem make (h:Fit s) {w:List Int} (hw:∀ z ∈ w,I64 z):Fit (s.make w).2:=h.ask ⟨i64_0,i64_0,hw⟩
theorem rc (h:Fit s) (x:Int):Fit { s with rc:=x }:=⟨h.tp,h.nx⟩
theorem ld (h:Fit s) (x:Int):Fit { s with ld:=x }:=⟨h.tp,h.nx⟩
theorem peek (h:Fit s) (a:Int):Fit (s.peek a).2/\I64 (s.peek a).1:=by
 unfold Rn.peek;dsimp only
 split
 ·split
  ·exact ⟨((h.read _).read _).read _,((h.read _).read _).r64 _⟩
  ·exact ⟨((h.read _).read _).read _,((h.read _).read _).r64 _⟩
 ·exact ⟨h.read _,h.r64 _⟩
theorem ite2 {α:Type} {c:Prop} [Decidable c] {x y:α × Rn} (hx:Fit x.2) (hy:Fit y.2):Fit (if c then x else y).2:=by split <;> assumption
theorem ite1 {α:Type} {c:Prop} [Decidable c] {x y:Int × α} (hx:I64 x.1) (hy:I64 y.1):I64 (if c then x else y).1:=by split <;> assumption
theorem ite0 {c:Prop} [Decidable c] {x y:Int} (hx:I64 x) (hy:I64 y):I64 (if c then x else y):=by split <;> assumption
theorem i12 {c:Prop} [Decidable c]:I64 (if c then 1 else 2):=ite0 (i64_small (by decide) (by decide)) (i64_small (by decide) (by decide))
theorem help (h:Fit s) (a:Int):Fit (s.help a):=by
 unfold Rn.help;dsimp only;have h3:=(((((h.read a).read (s.read a).1).cas (a+4) (o:=0) (x:=if ((s.read a).2.read (s.read a).1).1=0 then 1 else 2) i64_0 i12).read (a+4)).read (a+1));exact Fit.cas (ite2 (h3.read _) (h3.read _)) _ (i64_of _ _) (ite1 (h3.r64 _) (h3.r64 _))
theorem slotL (n:Nat):∀ (s:Rn) (a z:Int),s.left<=n->Fit s->I64 z->Fit (s.slotL a z).2/\I64 (s.slotL a z).1:=by
 induction n with
 | zero=>
  intro s a z hn h hz
  by_cases hc:s.off=false/\kd z=5
  ·exact absurd (Rn.help_lt (ad z) hc.1) (by omega)
  ·rw [Rn.slotL_stop hc];exact ⟨h,hz⟩
 | succ n ih=>
  intro s a z hn h hz
  by_cases hc:s.off=false/\kd z=5
  ·rw [Rn.slotL,dif_pos hc];have h1:=Rn.help_lt (ad z) hc.1;have h2:=Rn.read_le (s.help (ad z)) a;exact ih _ _ _ (by omega) ((h.help _).read _) ((h.help _).r64 _)
  ·rw [Rn.slotL_stop hc];exact ⟨h,hz⟩
theorem slot (h:Fit s) (a:Int):Fit (s.slot a).2/\I64 (s.slot a).1:=slotL (s.read a).2.left (s.read a).2 a (s.read a).1 (Nat.le_refl _) (h.read a) (h.r64 a)
theorem dcss (h:Fit s) {g p o x:Int} (hg:I64 g) (hp:I64 p) (ho:I64 o) (hx:I64 x):Fit (s.dcss g p o x).2/\(s.dcss g p o x).2.left<=s.left:=by
 unfold Rn.dcss;dsimp only;have hm:Fit (s.make [g,p,o,x,0]).2:=h.make (by simp only [List.mem_cons,List.not_mem_nil,or_false];rintro z (rfl | rfl | rfl | rfl | rfl) <;> first | assumption | exact i64_0);have lm:(s.make [g,p,o,x,0]).2.left<=s.left:=Rn.ask_le s _;generalize s.make [g,p,o,x,0]=m at *
 by_cases c1:0 < m.1
 ·rw [if_pos c1];have hr:Fit { m.2 with rc:=m.1 }:=hm.rc m.1;have lr:({ m.2 with rc:=m.1 }:Rn).left<=s.left:=lm;generalize ({ m.2 with rc:=m.1 }:Rn)=t at *;have hc:=hr.cas p (o:=o) (x:=Rf.ofZ 5 m.1) ho (i64_of 5 m.1);have lc:(t.cas p o (Rf.ofZ 5 m.1)).2.left<=t.left:=Rn.ask_le t _;generalize t.cas p o (Rf.ofZ 5 m.1)=c at *
  by_cases c2:c.1=true
  ·rw [if_pos c2];have hq:=hc.read g;have lq:=Rn.read_le c.2 g;generalize c.2.read g=q at *;have hd:=hq.cas (wrap64 (m.1+4)) (o:=0) (x:=if q.1=0 then 1 else 2) i64_0 i12;have ld:(q.2.cas (wrap64 (m.1+4)) 0 (if q.1=0 then 1 else 2)).2.left<=q.2.left:=Rn.ask_le q.2 _;generalize q.2.cas (wrap64 (m.1+4)) 0 (if q.1=0 then 1 else 2)=d at *;have he:=hd.read (wrap64 (m.1+4));have le:=Rn.read_le d.2 (wrap64 (m.1+4));generalize d.2.read (wrap64 (m.1+4))=e at *
   by_cases c3:e.1=1
   ·rw [if_pos c3];exact ⟨he.cas _ (i64_of _ _) hx,by have:(e.2.cas p (Rf.ofZ 5 m.1) x).2.left<=e.2.left:=Rn.ask_le e.2 _;dsimp only;omega⟩
   ·rw [if_neg c3];exact ⟨he.cas _ (i64_of _ _) ho,by have:(e.2.cas p (Rf.ofZ 5 m.1) o).2.left<=e.2.left:=Rn.ask_le e.2 _;dsimp only;omega⟩
  ·rw [if_neg c2];exact ⟨hc,by dsimp only;omega⟩
 ·rw [if_neg c1];exact ⟨hm,lm⟩
theorem downF (n k:Int):∀ (i:Nat) (s:Rn),Fit s->Fit (Rn.downF n k i s).2
 | 0,s,h=>h
 | i+1,s,h=>by
  rw [Rn.downF]
  split
  ·split
   ·exact h.read _
   ·exact downF n k i _ (h.read _)
  ·exact h
theorem upF (n k m:Int):∀ (c:Nat) (i:Int) (s:Rn),Fit s->Fit (Rn.upF n k m c i s).2
 | 0,_,s,h=>h
 | c+1,i,s,h=>by
  rw [Rn.upF]
  split
  ·split
   ·exact h.read _
   ·exact upF n k m c _ _ (h.read _)
  ·exact h
theorem route (h:Fit s) (n k:Int):Fit (s.route n k).2:=by
 unfold Rn.route;dsimp only
 repeat' split
 all_goals first
  | exact h.read _
  | exact (h.read _).read _
  | exact ((h.read _).read _).read _
  | exact downF _ _ _ _ ((((h.read _).read _).read _).read _)
  | exact upF _ _ _ _ _ _ ((((h.read _).read _).read _).read _)
  | exact upF _ _ _ _ _ _ (((h.read _).read _).read _)
theorem child (h:Fit s) (n k:Int):Fit (s.child n k).2:=h.route n k
theorem seekL (n:Nat):∀ (s:Rn) (a k:Int),s.left<=n->Fit s->Fit (s.seekL a k).2:=by
 induction n with
 | zero=>
  intro s a k hn h;cases ho:s.off with
  | true=>rw [Rn.seekL_off ho];exact h
  | false=>exact absurd (Rn.child_lt a k ho) (by omega)
 | succ n ih=>
  intro s a k hn h;cases ho:s.off with
  | true=>rw [Rn.seekL_off ho];exact h
  | false=>
   have hp:=((h.child a k).peek (s.child a k).1).1;have hl:=Rn.child_lt a k ho;have hl2:=(Rn.peek_on (s:=(s.child a k).2) (a:=(s.child a k).1) rfl).left;rw [Rn.seekL,dif_pos ho]
   split
   ·dsimp only
    split
    ·exact (hp.read _).read _
    ·exact hp.read _
   ·split
    ·exact ih _ _ _ (by omega) hp
    ·split
     ·exact ih _ _ _ (by have:=Rn.read_le ((s.child a k).2.peek (s.child a k).1).2 (ad ((s.child a k).2.peek (s.child a k).1).1);omega) (hp.read _)
     ·exact hp
theorem seek (h:Fit s) (k:Int):Fit (s.seek k).2:=seekL _ _ _ _ (Nat.le_refl _) h
theorem markK {g:Rn->Int->Int × Rn} (hg:∀ s a,Fit s->Fit (g s a).2/\(g s a).2.left<=s.left) (n d:Int):∀ (c:Nat) (i m:Int) (t:Rn),Fit t->Fit (Rn.markK g n d c i m t).2/\(Rn.markK g n d c i m t).2.left<=t.left
 | 0,_,_,t,h=>⟨h,Nat.le_refl _⟩
 | c+1,i,m,t,h=>by
  rw [Rn.markK];have hs:=(h.slot (childZ n d i)).1;have ls:=Rn.slot_le t (childZ n d i)
  split
  ·exact ⟨h,Nat.le_refl _⟩
  ·generalize t.slot (childZ n d i)=x at *
   split
   ·have:=markK hg n d c (i+1) (wrap64 (m+1)) _ hs
    exact ⟨this.1,Nat.le_trans this.2 ls⟩
   ·split
    ·have hq:=hg x.2 (ad x.1) hs
     have:=markK hg n d c (i+1) (wrap64 (m+(g x.2 (ad x.1)).1)) _ hq.1
     exact ⟨this.1,Nat.le_trans this.2 (Nat.le_trans hq.2 ls)⟩
    ·split
     ·dsimp only;have hr:=hs.read (ad x.1);have lr:=Rn.read_le x.2 (ad x.1);generalize x.2.read (ad x.1)=q at *;have hq:=hg q.2 (ad q.1) hr
      have:=markK hg n d c (i+1) (wrap64 (m+(g q.2 (ad q.1)).1)) _ hq.1
      exact ⟨this.1,Nat.le_trans this.2 (Nat.le_trans hq.2 (Nat.le_trans lr ls))⟩
     ·have:=markK hg n d c (i+1) m _ hs
      exact ⟨this.1,Nat.le_trans this.2 ls⟩
theorem markF:∀ (f:Nat) (s:Rn) (n:Int),Fit s->Fit (Rn.markF f s n).2/\(Rn.markF f s n).2.left<=s.left
 | 0,_,_,h=>⟨h,Nat.le_refl _⟩
 | f+1,s,n,h=>by
  obtain ⟨x,s1,e1⟩:∃ x s1,s.read (wrap64 (n+4))=(x,s1):=⟨_,_,rfl⟩;have h1:=h.read (wrap64 (n+4));have l1:=Rn.read_le s (wrap64 (n+4));rw [e1] at h1 l1
  by_cases c:x=0
  ·subst c;obtain ⟨s2,e2⟩:∃ s2,s1.write (wrap64 (n+2)) 1=s2:=⟨_,rfl⟩;have h2:=h1.write (wrap64 (n+2)) (x:=1) (i64_small (by decide) (by decide));have l2:=Rn.write_le s1 (wrap64 (n+2)) 1;rw [e2] at h2 l2;obtain ⟨d,s3,e3⟩:∃ d s3,s2.read n=(d,s3):=⟨_,_,rfl⟩;have h3:=h2.read n;have l3:=Rn.read_le s2 n;rw [e3] at h3 l3;have h4:=markK (fun s a h=>markF f s a h) n d d.toNat 0 0 s3 h3;obtain ⟨m,s4,e4⟩:∃ m s4,Rn.markK (Rn.markF f) n d d.toNat 0 0 s3=(m,s4):=⟨_,_,rfl⟩;rw [e4] at h4;rw [Rn.markF_go e1 e2 e3 e4 rfl];have l5:=Rn.write_le s4 (wrap64 (n+4)) (wrap64 (m+1));exact ⟨h4.1.write _ (i64_w _),by have:=h4.2;dsimp only at *;omega⟩
  ·rw [Rn.markF_shut e1 c];exact ⟨h1,l1⟩
def PF (ps:List (Int × Int)):Prop:=∀ p ∈ ps,I64 p.1/\I64 p.2
theorem PF.add {ps:List (Int × Int)} (h:PF ps) {k v:Int} (hk:I64 k) (hv:I64 v):PF (ps++[(k,v)]):=fun p hp=>by
 rcases List.mem_append.1 hp with hp | hp
 ·exact h p hp
 ·obtain rfl:=List.mem_singleton.1 hp;exact ⟨hk,hv⟩
theorem gatherK {g:Rn->Int->Int->Int->List (Int × Int)->List (Int × Int) × Rn} (hg:∀ s a f t ys,Fit s->PF ys->Fit (g s a f t ys).2/\PF (g s a f t ys).1/\(g s a f t ys).1.length+(g s a f t ys).2.left<=ys.length+s.left) (n d f tu:Int) :
  ∀ (c:Nat) (i rk:Int) (ys:List (Int × Int)) (t:Rn),Fit t->PF ys->Fit (Rn.gatherK g n d f tu c i rk ys t).2/\PF (Rn.gatherK g n d f tu c i rk ys t).1/\(Rn.gatherK g n d f tu c i rk ys t).1.length+(Rn.gatherK g n d f tu c i rk ys t).2.left<=ys.length+t.left
 | 0,_,_,ys,t,h,hy=>⟨h,hy,Nat.le_refl _⟩
 | c+1,i,rk,ys,t,h,hy=>by
  rw [Rn.gatherK]
  split
  ·exact ⟨h,hy,Nat.le_refl _⟩
  ·rename_i hoff;have hoff':t.off=false:=by
    cases ho:t.off with
    | false=>rfl
    | true=>exact absurd (.inr ho) hoff
   dsimp only;have hs:=(h.peek (childZ n d i)).1;have hl:(t.peek (childZ n d i)).2.left < t.left:=Rn.peek_lt _ hoff'
   split
   ·split
    ·have hr:=gatherK hg n d f tu c (i+1) (wrap64 (rk+1)) (ys++[(((t.peek (childZ n d i)).2.read (ad (t.peek (childZ n d i)).1)).1,(((t.peek (childZ n d i)).2.read (ad (t.peek (childZ n d i)).1)).2.read (ad (t.peek (childZ n d i)).1+1)).1)]) _ ((hs.read (ad (t.peek (childZ n d i)).1)).read (ad (t.peek (childZ n d i)).1+1)) (PF.add hy (hs.r64 (ad (t.peek (childZ n d i)).1)) ((hs.read (ad (t.peek (childZ n d i)).1)).r64 (ad (t.peek (childZ n d i)).1+1)));refine ⟨hr.1,hr.2.1,Nat.le_trans hr.2.2 ?_⟩;have l1:=Rn.read_le (t.peek (childZ n d i)).2 (ad (t.peek (childZ n d i)).1);have l2:=Rn.read_le ((t.peek (childZ n d i)).2.read (ad (t.peek (childZ n d i)).1)).2 (ad (t.peek (childZ n d i)).1+1);simp only [List.length_append,List.length_cons,List.length_nil];omega
    ·have hr:=gatherK hg n d f tu c (i+1) (wrap64 (rk+1)) ys _ hs hy;exact ⟨hr.1,hr.2.1,by have:=hr.2.2;omega⟩
   ·split
    ·have l1:=Rn.read_le (t.peek (childZ n d i)).2 (ad (t.peek (childZ n d i)).1+4)
     split
     ·have hq:=hg _ (ad (t.peek (childZ n d i)).1) (wrap64 (f - rk)) (wrap64 (tu - rk)) ys (hs.read (ad (t.peek (childZ n d i)).1+4)) hy;have hr:=gatherK hg n d f tu c (i+1) (wrap64 (rk+wrap64 (((t.peek (childZ n d i)).2.read (ad (t.peek (childZ n d i)).1+4)).1 - 1))) _ _ hq.1 hq.2.1;exact ⟨hr.1,hr.2.1,by have:=hr.2.2;have:=hq.2.2;omega⟩
     ·have hr:=gatherK hg n d f tu c (i+1) (wrap64 (rk+wrap64 (((t.peek (childZ n d i)).2.read (ad (t.peek (childZ n d i)).1+4)).1 - 1))) ys _ (hs.read (ad (t.peek (childZ n d i)).1+4)) hy;exact ⟨hr.1,hr.2.1,by have:=hr.2.2;omega⟩
    ·split
     ·have l0:=Rn.read_le (t.peek (childZ n d i)).2 (ad (t.peek (childZ n d i)).1);have hb:=hs.read (ad (t.peek (childZ n d i)).1);have l1:=Rn.read_le ((t.peek (childZ n d i)).2.read (ad (t.peek (childZ n d i)).1)).2 (ad ((t.peek (childZ n d i)).2.read (ad (t.peek (childZ n d i)).1)).1+4)
      split
      ·have hq:=hg _ (ad ((t.peek (childZ n d i)).2.read (ad (t.peek (childZ n d i)).1)).1) (wrap64 (f - rk)) (wrap64 (tu - rk)) ys (hb.read (ad ((t.peek (childZ n d i)).2.read (ad (t.peek (childZ n d i)).1)).1+4)) hy;have hr:=gatherK hg n d f tu c (i+1) (wrap64 (rk+wrap64 ((((t.peek (childZ n d i)).2.read (ad (t.peek (childZ n d i)).1)).2.read (ad ((t.peek (childZ n d i)).2.read (ad (t.peek (childZ n d i)).1)).1+4)).1 - 1))) _ _ hq.1 hq.2.1;exact ⟨hr.1,hr.2.1,by have:=hr.2.2;have:=hq.2.2;omega⟩
      ·have hr:=gatherK hg n d f tu c (i+1) (wrap64 (rk+wrap64 ((((t.peek (childZ n d i)).2.read (ad (t.peek (childZ n d i)).1)).2.read (ad ((t.peek (childZ n d i)).2.read (ad (t.peek (childZ n d i)).1)).1+4)).1 - 1))) ys _ (hb.read (ad ((t.peek (childZ n d i)).2.read (ad (t.peek (childZ n d i)).1)).1+4)) hy;exact ⟨hr.1,hr.2.1,by have:=hr.2.2;omega⟩
     ·have hr:=gatherK hg n d f tu c (i+1) rk ys _ hs hy;exact ⟨hr.1,hr.2.1,by have:=hr.2.2;omega⟩
theorem gatherF:∀ (F:Nat) (s:Rn) (n f tu:Int) (ys:List (Int × Int)),Fit s->PF ys->Fit (Rn.gatherF F s n f tu ys).2/\PF (Rn.gatherF F s n f tu ys).1/\(Rn.gatherF F s n f tu ys).1.length+(Rn.gatherF F s n f tu ys).2.left<=ys.length+s.left
 | 0,s,_,_,_,ys,h,hy=>⟨h,hy,Nat.le_refl _⟩
 | F+1,s,n,f,tu,ys,h,hy=>by
  show Fit (Rn.gatherK (Rn.gatherF F) n (s.read n).1 f tu (s.read n).1.toNat 0 0 ys (s.read n).2).2/\_;have hr:=gatherK (fun s a f t ys h hy=>gatherF F s a f t ys h hy) n (s.read n).1 f tu (s.read n).1.toNat 0 0 ys (s.read n).2 (h.read _) hy
  have:=Rn.read_le s n
  exact ⟨hr.1,hr.2.1,Nat.le_trans hr.2.2 (by omega)⟩
theorem recM (h:Fit s) (k:Int) {ws:List Int} (hw:∀ z ∈ ws,I64 z):Fit (s.recM k ws).2/\I64 (s.recM k ws).1.1:=⟨h.make hw,i64_of _ _⟩
theorem PF.part {ps:List (Int × Int)} (h:PF ps) (i:Int):PF (partL ps i):=fun p hp=>h p (List.mem_of_mem_drop (List.mem_of_mem_take hp))
theorem PF.head {ps:List (Int × Int)} (h:PF ps):I64 (ps.headD (0,0)).1/\I64 (ps.headD (0,0)).2:=by
 cases ps with
 | nil=>exact ⟨i64_0,i64_0⟩
 | cons p ps=>exact h p (List.mem_cons_self ..)
theorem lowL {ps:List (Int × Int)} (h:PF ps):∀ n,∀ z ∈ Go.Proofs.YtoaicedkepcalaaGreat.lowL ps n,I64 z
 | 0,z,hz=>by cases hz
 | n+1,z,hz=>by
  rw [Go.Proofs.YtoaicedkepcalaaGreat.lowL] at hz
  split at hz
  ·cases hz
  ·rcases List.mem_append.1 hz with hz | hz
   ·exact lowL h n z hz
   ·obtain rfl:=List.mem_singleton.1 hz;exact (PF.head (PF.part h _)).1
theorem growK {L:Rn->List (Int × Int)->(Int × Bool) × Rn} (hL:∀ s ps,Fit s->PF ps->ps.length<=1000000->Fit (L s ps).2/\I64 (L s ps).1.1) {ps:List (Int × Int)} (hp:PF ps) (hl:ps.length<=1000000) {s:Rn} (h:Fit s):∀ n,Fit (Rn.growK L ps s n).2/\∀ z ∈ (Rn.growK L ps s n).1.2,I64 z
 | 0=>⟨h,fun _ h=>by cases h⟩
 | i+1=>by
  have ih:=growK hL hp hl h i;rw [Rn.growK]
  split
  ·exact ih
  ·have hq:=hL _ _ ih.1 (PF.part hp (i:Int)) (Nat.le_trans (by unfold partL;simp only [List.length_take,List.length_drop];omega) hl);refine ⟨hq.1,fun z hz=>?_⟩;rcases List.mem_append.1 hz with hz | hz
   ·exact ih.2 z hz
   ·obtain rfl:=List.mem_singleton.1 hz;exact hq.2
theorem growK_le (L:Rn->List (Int × Int)->(Int × Bool) × Rn) (ps:List (Int × Int)) (s:Rn):∀ n,(Rn.growK L ps s n).1.2.length<=n
 | 0=>Nat.le_refl _
 | i+1=>by
  have ih:=growK_le L ps s i;rw [Rn.growK]
  split
  ·omega
  ·simp only [List.length_append,List.length_cons,List.length_nil];omega
theorem innerL_fit {n:Int} {q c:List Int} (hn:I64 n) (hq:∀ z ∈ q,I64 z) (hc:∀ z ∈ c,I64 z) (hl:c.length<=1000000):∀ z ∈ innerL n q c,I64 z:=by
 intro z hz;unfold innerL at hz;simp only [List.mem_append,List.mem_cons,List.not_mem_nil,or_false] at hz;rcases hz with (rfl | rfl | rfl | rfl | rfl) | hz | hz
 ·exact i64_small (by omega) (by omega)
 ·exact hn
 ·exact i64_0
 ·exact i64_0
 ·exact i64_0
 ·exact hq z hz
 ·exact hc z hz
theorem growF:∀ (f:Nat) (s:Rn) (ps:List (Int × Int)),Fit s->PF ps->ps.length<=1000000->Fit (Rn.growF f s ps).2/\I64 (Rn.growF f s ps).1.1
 | 0,s,_,h,_,_=>⟨h,i64_0⟩
 | f+1,s,ps,h,hp,hl=>by
  rw [Rn.growF_succ];have hk:=growK (L:=Rn.growF f) (fun s ps h hp hl=>growF f s ps h hp hl) hp hl h (Pt.degZ ps.length).toNat
  split
  ·exact h.recM 1 (fun z hz=>by obtain rfl:=List.mem_singleton.1 hz;exact i64_0)
  ·split
   ·exact h.recM 2 (fun z hz=>by
     simp only [List.mem_cons,List.not_mem_nil,or_false] at hz;rcases hz with rfl | rfl
     ·exact (PF.head hp).1
     ·exact (PF.head hp).2)
   ·split
    ·exact hk.1.recM 3 (innerL_fit (i64_small (by omega) (by omega)) (lowL hp _) hk.2 (Nat.le_trans (growK_le _ _ _ _) (by have:=deg_small ps.length;omega)))
    ·exact ⟨hk.1,i64_0⟩
end Fit
structure FitL (s:Rn):Prop extends Fit s where
 len:s.left<=1000000
namespace FitL
variable {s:Rn} {N:Nat}
theorem part (h:FitL s) (n m root d i:Int):FitL (s.partR N n m root d i).2:=by
 unfold Rn.partR;dsimp only;have hg:=Fit.gatherF N s n (Pt.fromZ m i) (wrap64 (Pt.fromZ m i+Pt.sizeZ m i)) [] h.toFit (fun _ h=>by cases h);have hl:=h.len;generalize Rn.gatherF N s n (Pt.fromZ m i) (wrap64 (Pt.fromZ m i+Pt.sizeZ m i)) []=g at *;have h3:=hg.2.2;simp only [List.length_nil,Nat.zero_add] at h3
 by_cases c1:g.2.off=true
 ·rw [if_pos c1];exact ⟨hg.1,by dsimp only;omega⟩
 ·rw [if_neg c1];have hw:=Fit.growF (g.1.length+1) _ _ hg.1 hg.2.1 (by omega);have lw:=(Rn.growF_on (g.1.length+1) g.2 g.1).left;generalize Rn.growF (g.1.length+1) g.2 g.1=w at *
  by_cases c2:w.1.2=false
  ·rw [if_pos c2];exact ⟨hw.1,by dsimp only;omega⟩
  ·rw [if_neg c2]
   by_cases c3:0 < i/\0 < g.1.length
   ·rw [if_pos c3];have l1:(w.2.write (keyZ root i) (g.1.headD (0,0)).1).left<=w.2.left:=Rn.ask_le w.2 _;have l2:((w.2.write (keyZ root i) (g.1.headD (0,0)).1).cas (childZ root d i) 0 w.1.1).2.left<=_:=Rn.ask_le _ _;exact ⟨(hw.1.write _ (Fit.PF.head hg.2.1).1).cas _ i64_0 hw.2,by dsimp only;omega⟩
   ·rw [if_neg c3];have l2:(w.2.cas (childZ root d i) 0 w.1.1).2.left<=_:=Rn.ask_le _ _;exact ⟨hw.1.cas _ i64_0 hw.2,by dsimp only;omega⟩
theorem top (h:FitL s) (t:Int) {n:Int} (hn:I64 n):FitL (s.topR N t n).2/\I64 (s.topR N t n).1.1:=by
 have hl:=h.len;unfold Rn.topR
 split
 ·have:=h.toFit.recM 3 (Fit.innerL_fit hn (q:=List.replicate ((max (Pt.degZ n) 1).toNat - 1) 0) (c:=List.replicate (max (Pt.degZ n) 1).toNat 0) (fun z hz=>by rw [(List.mem_replicate.1 hz).2];exact i64_0) (fun z hz=>by rw [(List.mem_replicate.1 hz).2];exact i64_0) (by have:=deg_small n;simp;omega))
  exact ⟨⟨this.1,Nat.le_trans (Rn.recM_on s _ _).left hl⟩,this.2⟩
 ·split
  ·have hg:=Fit.gatherF N s t 0 1 [] h.toFit (fun _ h=>by cases h);have h3:=hg.2.2;simp only [List.length_nil,Nat.zero_add] at h3
   split
   ·exact ⟨⟨hg.1,by dsimp only;omega⟩,i64_0⟩
   ·have hw:=Fit.growF ((Rn.gatherF N s t 0 1 []).1.length+1) _ _ hg.1 hg.2.1 (by omega);have lw:=(Rn.growF_on ((Rn.gatherF N s t 0 1 []).1.length+1) (Rn.gatherF N s t 0 1 []).2 (Rn.gatherF N s t 0 1 []).1).left;exact ⟨⟨hw.1,by omega⟩,hw.2⟩
  ·split
   ·exact ⟨⟨h.toFit,hl⟩,i64_0⟩
   ·have hw:=Fit.growF 1 s [] h.toFit (fun _ h=>by cases h) (by simp);exact ⟨⟨hw.1,Nat.le_trans (Rn.growF_on 1 s []).left hl⟩,hw.2⟩
theorem askd (h:FitL s) {q:Ak} (hq:FitA q):FitL (s.ask q).2:=⟨h.toFit.ask hq,Nat.le_trans (Rn.ask_le s q) h.len⟩
theorem read (h:FitL s) (a:Int):FitL (s.read a).2:=h.askd ⟨i64_0,i64_0,fun _ h=>by cases h⟩
theorem cas (h:FitL s) (a:Int) {o x:Int} (ho:I64 o) (hx:I64 x):FitL (s.cas a o x).2:=h.askd ⟨ho,hx,fun _ h=>by cases h⟩
theorem add (h:FitL s) (a:Int) {d:Int} (hd:I64 d):FitL (s.add a d).2:=h.askd ⟨hd,i64_0,fun _ h=>by cases h⟩
theorem make (h:FitL s) {w:List Int} (hw:∀ z ∈ w,I64 z):FitL (s.make w).2:=h.askd ⟨i64_0,i64_0,hw⟩
theorem dcss (h:FitL s) {g p o x:Int} (hg:I64 g) (hp:I64 p) (ho:I64 o) (hx:I64 x):FitL (s.dcss g p o x).2:=⟨(h.toFit.dcss hg hp ho hx).1,Nat.le_trans (h.toFit.dcss hg hp ho hx).2 h.len⟩
theorem mark (h:FitL s) (f:Nat) (n:Int):FitL (Rn.markF f s n).2:=⟨(Fit.markF f s n h.toFit).1,Nat.le_trans (Fit.markF f s n h.toFit).2 h.len⟩
theorem partsA (b t n x d:Int):∀ (f:Nat) (s:Rn),FitL s->FitL (Rn.partsA N b t n x d f s).2
 | 0,s,h=>h
 | f+1,s,h=>by
  rw [Rn.partsA];have ha:=h.add (wrap64 (b+4)) (d:=1) (i64_small (by decide) (by decide));generalize s.add (wrap64 (b+4)) 1=a at *
  split
  ·exact h
  ·split
   ·exact ha
   ·split
    ·exact ha
    ·dsimp only;have hp:=ha.part (N:=N) t n x d a.1;generalize a.2.partR N t n x d a.1=p at *
     split
     ·exact partsA b t n x d f _ hp
     ·exact hp
theorem partsB (t n x d:Int):∀ (c:Nat) (j:Int) (s:Rn),FitL s->FitL (Rn.partsB N t n x d c j s).2
 | 0,_,s,h=>h
 | c+1,j,s,h=>by
  rw [Rn.partsB];have ha:=h.read (childZ x d j);generalize s.read (childZ x d j)=a at *
  split
  ·exact h
  ·split
   ·exact partsB t n x d c _ _ ha
   ·dsimp only;have hp:=ha.part (N:=N) t n x d j;generalize a.2.partR N t n x d j=p at *
    split
    ·exact partsB t n x d c _ _ hp
    ·exact hp
theorem parts (h:FitL s) (b t n x:Int):FitL (s.partsR N b t n x).2:=by
 unfold Rn.partsR;dsimp only;have ha:=partsA (N:=N) b t n x (Pt.degZ n) N s h;generalize Rn.partsA N b t n x (Pt.degZ n) N s=a at *
 split
 ·exact partsB t n x _ _ _ _ ha
 ·exact ha
theorem renewE (h:FitL s) (b a n:Int) {w:Int} (hw:I64 w):FitL (s.renewE N b a n w).2:=by
 unfold Rn.renewE;dsimp only;have hq:FitL (if 2<=n then s.partsR N b a n (ad w) else (true,s)).2:=by
  split
  ·exact h.parts ..
  ·exact h
 generalize (if 2<=n then s.partsR N b a n (ad w) else (true,s))=q at *
 split
 ·exact hq
 ·have h1:=hq.read (wrap64 (b+1));have i1:=hq.toFit.r64 (wrap64 (b+1));generalize q.2.read (wrap64 (b+1))=g at *;have h2:=h1.read (wrap64 (b+2));have i2:=h1.toFit.r64 (wrap64 (b+2));generalize g.2.read (wrap64 (b+2))=p at *;exact h2.dcss i1 i2 (i64_of _ _) hw
theorem renew (h:FitL s) (b:Int):FitL (s.renewR N b).2:=by
 unfold Rn.renewR;dsimp only;have h1:=h.read b;generalize s.read b=a at *;have h2:=h1.mark N (ad a.1);have i2:=Rn.markF_i64 N a.2 (ad a.1);generalize Rn.markF N a.2 (ad a.1)=m at *;have h3:=h2.read (wrap64 (b+3));have i3:=h2.toFit.r64 (wrap64 (b+3));generalize m.2.read (wrap64 (b+3))=w at *
 split
 ·exact h3
 ·split
  ·have h4:=h3.top (N:=N) (ad a.1) i2;generalize w.2.topR N (ad a.1) m.1=t at *
   split
   ·exact h4.1
   ·have h5:=h4.1.cas (wrap64 (b+3)) (o:=0) (x:=t.1.1) i64_0 h4.2;generalize t.2.cas (wrap64 (b+3)) 0 t.1.1=c at *;have h6:=h5.read (wrap64 (b+3));have i6:=h5.toFit.r64 (wrap64 (b+3));generalize c.2.read (wrap64 (b+3))=y at *;exact h6.renewE _ _ _ i6
  ·exact h3.renewE _ _ _ i3
theorem start (h:FitL s) (nd:Int) {sl w:Int} (hs:I64 sl) (hw:I64 w):FitL (s.startR N nd sl w).2:=by
 unfold Rn.startR;dsimp only;have h1:=h.make (w:=[w,wrap64 (nd+2),sl,0,0]) (by
  simp only [List.mem_cons,List.not_mem_nil,or_false];rintro z (rfl | rfl | rfl | rfl | rfl)
  ·exact hw
  ·exact i64_w _
  ·exact hs
  ·exact i64_0
  ·exact i64_0)
 generalize s.make [w,wrap64 (nd+2),sl,0,0]=a at *
 split
 ·have h2:=h1.dcss (g:=wrap64 (nd+2)) (i64_w _) hs hw (i64_of 4 a.1);generalize a.2.dcss (wrap64 (nd+2)) sl w (Rf.ofZ 4 a.1)=z at *
  split
  ·exact h2.renew _
  ·exact h2
 ·exact h1
def EF (es:List En):Prop:=∀ e ∈ es,I64 e.sl/\I64 e.wd
theorem tallyL:∀ (es:List En) (i:Nat) (f:Int) (s:Rn),FitL s->FitL (Rn.tallyL es i f s).2
 | [],_,_,_,h=>h
 | e :: l,i,f,s,h=>by
  rw [Rn.tallyL]
  split
  ·exact h
  ·exact tallyL l _ _ _ ((h.add _ (i64_small (by decide) (by decide))).read _)
theorem tally (h:FitL s) {es:List En} (he:EF es):FitL (s.tallyR N es):=by
 unfold Rn.tallyR;dsimp only;have h1:=tallyL es 0 (-1) s h;generalize Rn.tallyL es 0 (-1) s=p at *
 split
 ·have hg:I64 (es.getD p.1.toNat ⟨0,0,0⟩).sl/\I64 (es.getD p.1.toNat ⟨0,0,0⟩).wd:=by
   rw [List.getD_eq_getElem?_getD];cases hx:es[p.1.toNat]? with
   | none=>exact ⟨i64_0,i64_0⟩
   | some e=>exact he e (List.mem_of_getElem? hx)
  exact h1.start _ hg.1 hg.2
 ·exact h1
theorem recM (h:FitL s) (k:Int) {ws:List Int} (hw:∀ z ∈ ws,I64 z):FitL (s.recM k ws).2/\I64 (s.recM k ws).1.1:=⟨h.make hw,i64_of _ _⟩
theorem fresh (h:FitL s) (kind:Int) {key value w q:Int} (leaf there:Bool) (hk:I64 key) (hv:I64 value) (hw:I64 w) (hq:I64 q):FitL (s.freshR kind key value w q leaf there).2/\I64 (s.freshR kind key value w q leaf there).1.1:=by
 unfold Rn.freshR;have h1:=h.recM 2 (ws:=[key,value]) (by
  simp only [List.mem_cons,List.not_mem_nil,or_false];rintro z (rfl | rfl)
  ·exact hk
  ·exact hv)
 split
 ·exact h.recM 1 (fun z hz=>by obtain rfl:=List.mem_singleton.1 hz;exact i64_0)
 ·split
  ·exact h1
  ·generalize s.recM 2 [key,value]=m at *;refine h1.1.recM 3 (Fit.innerL_fit (i64_small (by decide) (by decide)) (fun z hz=>by
    obtain rfl:=List.mem_singleton.1 hz
    by_cases hle:q<=key
    ·rw [Int.max_eq_right hle];exact hk
    ·rw [Int.max_eq_left (by omega)];exact hq) (fun z hz=>?_) ?_)
   ·split at hz
    ·simp only [List.mem_cons,List.not_mem_nil,or_false] at hz;rcases hz with rfl | rfl
     ·exact h1.2
     ·exact hw
    ·simp only [List.mem_cons,List.not_mem_nil,or_false] at hz;rcases hz with rfl | rfl
     ·exact hw
     ·exact h1.2
   ·split <;> simp
theorem layB (h:FitL s) (kind:Int) {key value sl w q:Int} (n:Int) (res:Rs) (leaf found:Bool) {path:List En} (hk:I64 key) (hv:I64 value) (hs:I64 sl) (hw:I64 w) (hq:I64 q) (he:EF path):FitL (s.layB N kind key value n sl w q res leaf found path).2:=by
 unfold Rn.layB;dsimp only;have h1:=h.fresh kind leaf found hk hv hw hq;generalize s.freshR kind key value w q leaf found=x at *
 split
 ·exact h
 ·split
  ·exact h1.1
  ·have h2:FitL ({ x.2 with rc:=0 }:Rn):=⟨h1.1.toFit.rc 0,h1.1.len⟩;generalize ({ x.2 with rc:=0 }:Rn)=t at *;have h3:=h2.dcss (g:=wrap64 (n+2)) (i64_w _) hs hw h1.2;generalize t.dcss (wrap64 (n+2)) sl w x.1.1=o at *;have h4:FitL (if 0 < o.2.rc then { o.2 with ld:=o.2.rc } else o.2:Rn):=by
    split
    ·exact ⟨h3.toFit.ld _,h3.len⟩
    ·exact h3
   generalize (if 0 < o.2.rc then { o.2 with ld:=o.2.rc } else o.2:Rn)=u at *
   split
   ·exact h4
   ·show FitL (if _ then _ else _:Rn)
    split
    ·exact h4.tally he
    ·exact h4
theorem lay (h:FitL s) (kind:Int) {key value sl w:Int} (n:Int) {path:List En} (hk:I64 key) (hv:I64 value) (hs:I64 sl) (hw:I64 w) (he:EF path):FitL (s.layR N kind key value n sl w path).2:=by
 unfold Rn.layR;dsimp only;have h1:=h.read (ad w);have i1:=h.toFit.r64 (ad w);generalize s.read (ad w)=q at *
 split
 ·split
  ·exact (h1.read _).layB _ _ _ _ _ hk hv hs hw i1 he
  ·exact h1.layB _ _ _ _ _ hk hv hs hw i1 he
 ·exact h.layB _ _ _ _ _ hk hv hs hw i64_0 he
theorem child (h:FitL s) (n k:Int):FitL (s.child n k).2:=⟨h.toFit.child n k,Nat.le_trans (Rn.child_on s n k).left (Nat.le_trans (Rn.read_le s n) h.len)⟩
theorem slot (h:FitL s) (a:Int):FitL (s.slot a).2/\I64 (s.slot a).1:=⟨⟨(h.toFit.slot a).1,Nat.le_trans (Rn.slot_le s a) h.len⟩,(h.toFit.slot a).2⟩
theorem attempt (kind:Int) {key value:Int} (hk:I64 key) (hv:I64 value):∀ (c:Nat) (n:Int) (es:List En) (s:Rn),FitL s->EF es->FitL (Rn.attemptL N kind key value c n es s).2
 | 0,_,_,_,h,_=>h
 | c+1,n,es,s,h,he=>by
  rw [Rn.attemptL]
  split
  ·exact h
  ·dsimp only;have h1:=h.child n key;have i1:I64 (s.child n key).1:=i64_child _ _ _;generalize s.child n key=z at *;have h2:=h1.slot z.1;generalize z.2.slot z.1=w at *
   split
   ·split <;> exact h2.1.renew _
   ·split
    ·refine attempt kind hk hv c _ _ _ h2.1 (fun e hm=>?_);rcases List.mem_append.1 hm with hm | hm
     ·exact he e hm
     ·obtain rfl:=List.mem_singleton.1 hm;exact ⟨i1,h2.2⟩
    ·exact h2.1.lay _ _ hk hv i1 h2.2 he
theorem change (kind:Int) {key value:Int} (hk:I64 key) (hv:I64 value):∀ (c:Nat) (s:Rn),FitL s->FitL (Rn.changeL N kind key value c s).2
 | 0,_,h=>h
 | c+1,s,h=>by
  rw [Rn.changeL]
  split
  ·exact h
  ·dsimp only;have h1:=attempt (N:=N) kind hk hv (s.left+1) 1 [] s h (fun _ h=>by cases h);generalize Rn.attemptL N kind key value (s.left+1) 1 [] s=a at *
   split
   ·exact h1
   ·exact change kind hk hv c _ h1
end FitL
namespace Fit
theorem meets {s:Rn} (h:Fit s) (k:Wk) (a:Int):Fit (s.meetsW k a).2:=by
 unfold Rn.meetsW;dsimp only
 repeat' split
 all_goals first
  | exact h.read _
  | exact (h.read _).read _
theorem below {T:Rn->Wk->Int->(Bool × Wk) × Rn} (hT:∀ s k a,Fit s->Fit (T s k a).2) {s:Rn} (h:Fit s) (k:Wk) (w:Int):Fit (Rn.belowW T s k w).2:=by
 unfold Rn.belowW
 repeat' split
 all_goals first
  | exact h.meets _ _
  | exact hT _ _ _ h
  | exact hT _ _ _ (h.read _)
  | exact h
theorem thrL {T:Rn->Wk->Int->(Bool × Wk) × Rn} (hT:∀ s k a,Fit s->Fit (T s k a).2) (n d:Int):∀ (c:Nat) (i:Int) (k:Wk) (t:Rn),Fit t->Fit (Rn.thrL T n d c i k t).2
 | 0,_,_,_,h=>h
 | c+1,i,k,t,h=>by
  rw [Rn.thrL];dsimp only;have h1:=(h.peek (childZ n d i)).1;generalize t.peek (childZ n d i)=z at *;have h2:=below hT h1 { k with ss:=k.ss++[(childZ n d i,z.1)] } z.1;generalize Rn.belowW T z.2 { k with ss:=k.ss++[(childZ n d i,z.1)] } z.1=b at *
  repeat' split
  all_goals first
   | exact h
   | exact h1
   | exact h2
   | exact h2.read _
   | exact thrL hT n d c _ _ _ (h2.read _)
theorem thrF:∀ (f:Nat) (s:Rn) (k:Wk) (n:Int),Fit s->Fit (Rn.thrF f s k n).2
 | 0,_,_,_,h=>h
 | f+1,s,k,n,h=>by
  rw [Rn.thrF];exact thrL (fun s k a h=>thrF f s k a h) _ _ _ _ _ _ (h.route _ _)
theorem again:∀ (L:List (Int × Int)) (s:Rn),Fit s->Fit (Rn.againL L s).2
 | [],_,h=>h
 | p :: L,s,h=>by
  rw [Rn.againL]
  repeat' split
  all_goals first
   | exact h
   | exact again L _ (h.peek _).1
   | exact (h.peek _).1
theorem queryL (N:Nat) (kind key value:Int):∀ (c:Nat) (s:Rn),Fit s->Fit (Rn.queryL N kind key value c s).2
 | 0,_,h=>h
 | c+1,s,h=>by
  rw [Rn.queryL];dsimp only;have h1:=thrF N s (Wk.asked kind key value) 1 h;generalize Rn.thrF N s (Wk.asked kind key value) 1=t at *;have h2:=again t.1.2.ss t.2 h1;generalize Rn.againL t.1.2.ss t.2=a at *
  repeat' split
  all_goals first
   | exact h
   | exact h1
   | exact h2
   | exact queryL N kind key value c _ h2
theorem query {s:Rn} (h:Fit s) (N:Nat) (kind key value budget:Int):Fit (s.queryR N kind key value budget).2:=by
 unfold Rn.queryR;dsimp only;have h1:=h.seek key;generalize s.seek key=z at *
 repeat' split
 all_goals first
  | exact h1
  | exact queryL ..
  | exact queryL _ _ _ _ _ _ h
end Fit
theorem Rn.start_fit {tape:List Int} (h:∀ z ∈ tape,I64 z) (hl:tape.length<=900000):FitL (Rn.start tape):=⟨⟨h,i64_0,i64_0,fun _ h=>by cases h⟩,by rw [Rn.start_left];omega⟩
theorem Fp.play_fit {p:Fp} (hg:p.good) (h:∀ z ∈ p.tape,I64 z) (hl:p.tape.length<=900000):FitA p.play.2.nx:=by
 have hs:=Rn.start_fit h hl;unfold Fp.play
 split
 ·exact (FitL.change p.k hg.key hg.val _ _ hs).nx
 ·exact (Fit.query hs.toFit _ _ _ _ _).nx
theorem Mst.doA_ok {m:Mst} (h:m.ok) (hs:m.size<=65536) {q:Ak} (hq:FitA q):(m.doA q).2.ok/\(m.doA q).2.size=m.size:=by
 have ht:∀ a,(m.touch a).ok/\(m.touch a).size=m.size/\(m.touch a).xs=m.xs:=fun a=>by
  unfold Mst.touch
  split <;> exact ⟨h,rfl,rfl⟩
 have hw:∀ a x,I64 x->(m.write a x).ok/\(m.write a x).size=m.size:=fun a x hx=>by
  unfold Mst.write Mst.put
  split
  ·refine ⟨⟨fun z hz=>?_,?_⟩,(ht a).2.1⟩
   ·rcases List.mem_or_eq_of_mem_set hz with hz | rfl
    ·exact (ht a).1.1 z hz
    ·exact hx
   ·simpa using (ht a).1.2
  ·exact ⟨(ht a).1,(ht a).2.1⟩
 unfold Mst.doA
 split
 ·exact ⟨(ht _).1,(ht _).2.1⟩
 ·split
  ·exact hw _ _ hq.x
  ·split
   ·dsimp only;unfold Mst.cas
    split
    ·exact hw _ _ hq.y
    ·exact ⟨(ht _).1,(ht _).2.1⟩
   ·split
    ·exact hw _ _ (i64_w _)
    ·split
     ·dsimp only;unfold Mst.make
      split
      ·rename_i hf;refine ⟨⟨fun z hz=>?_,?_⟩,rfl⟩
       ·rcases List.mem_append.1 hz with hz | hz
        ·exact h.1 z hz
        ·exact hq.w z hz
       ·simp only [Mst.fits,Bool.and_eq_true,decide_eq_true_eq] at hf;simp only [List.length_append];omega
      ·exact ⟨h,rfl⟩
     ·exact ⟨h,rfl⟩
end
section
open Go.Shelf
variable {P:Nat->Prop}
attribute [local go_sem] Oper.semAt_some
namespace Ixp
def pickZ (ix:Ixp) (j:Nat):Bool × Ixp:=
 match ix.ts[j]? with
 | none=>(false,ix)
 | some q=>
  match q.fr with
  | none=>(false,ix)
  | some p=>
   if q.busy=true then
    let r:=q.step p ix.m
    let i2:=takesL ix.ts.length 0 (ix.pick1 j r.2.1 r.2.2)
    (r.1.2,{ i2 with logn:=i2.logn+(if r.1.2=true then 1 else 0) })
   else (false,ix)
def doZ (j:Nat):Nat->Ixp->Ixp
 | 0,ix=>ix
 | n+1,ix=>if (ix.pickZ j).1=true then (ix.pickZ j).2 else doZ j n (ix.pickZ j).2
def invokeZ (ix:Ixp) (j:Nat) (k key val:Int):Ixp:=
 match ix.ts[j]? with
 | none=>ix
 | some q=>if q.busy=true then ix else ix.invoke j q k key val
structure Gd (ix:Ixp) (c:Nat):Prop where
 ts:ix.ts.length<=64
 tape:∀ (i:Nat) (q:Tp) (p:Fp),ix.ts[i]? = some q->q.fr=some p->p.tape.length<=c
 bud:∀ (i:Nat) (q:Tp),ix.ts[i]? = some q->1<=q.bud/\q.bud<=64
 log:ix.logn<=100 * c+10
theorem Gd.le {ix:Ixp} {c c':Nat} (h:Gd ix c) (hc:c<=c'):Gd ix c':=
 ⟨h.ts,fun i q p e1 e2=>Nat.le_trans (h.tape i q p e1 e2) hc,h.bud,by have:=h.log;omega⟩
theorem takes1_ts (ix:Ixp) (k i:Nat) (q':Tp) (h:(ix.takes1 k).ts[i]? = some q'):∃ q,ix.ts[i]? = some q/\q'.fr=q.fr/\q'.busy=q.busy/\q'.bud=q.bud:=by
 unfold takes1 at h
 split at h
 ·rename_i q hq
  split at h
  ·rw [List.getElem?_set] at h
   by_cases hki:k=i
   ·subst hki;rw [if_pos rfl] at h
    split at h
    ·cases h;exact ⟨q,hq,rfl,rfl,rfl⟩
    ·cases h
   ·rw [if_neg hki] at h;exact ⟨q',h,rfl,rfl,rfl⟩
  ·exact ⟨q',h,rfl,rfl,rfl⟩
 ·exact ⟨q',h,rfl,rfl,rfl⟩
theorem takesL_ts:∀ (c k:Nat) (ix:Ixp) (i:Nat) (q':Tp),(takesL c k ix).ts[i]? = some q'->∃ q,ix.ts[i]? = some q/\q'.fr=q.fr/\q'.busy=q.busy/\q'.bud=q.bud
 | 0,_,_,_,q',h=>⟨q',h,rfl,rfl,rfl⟩
 | c+1,k,ix,i,q',h=>by
  obtain ⟨q1,h1,a1,a2,a3⟩:=takesL_ts c (k+1) _ i q' h;obtain ⟨q2,h2,b1,b2,b3⟩:=takes1_ts ix k i q1 h1;exact ⟨q2,h2,a1.trans b1,a2.trans b2,a3.trans b3⟩
theorem settle_tape (p:Fp):p.settle.tape=p.tape:=by
 unfold Fp.settle
 split <;> rfl
theorem step_tape (p:Fp) (m:Mst):(p.step m).1.tape.length<=p.tape.length+1:=by
 unfold Fp.step
 split
 ·simp
 ·dsimp only;rw [settle_tape];simp
theorem tstep_fr (q:Tp) (p:Fp) (m:Mst):(q.step p m).2.1.fr=some (p.step m).1/\(q.step p m).2.1.bud=q.bud/\(q.step p m).2.2=(p.step m).2/\((q.step p m).1.2=false->(q.step p m).2.1.busy=q.busy):=by
 unfold Tp.step
 split
 ·exact ⟨rfl,rfl,rfl,fun e=>by cases e⟩
 ·exact ⟨rfl,rfl,rfl,fun _=>rfl⟩
theorem pickZ_gd {ix:Ixp} {c:Nat} (h:Gd ix c) (j:Nat):Gd (ix.pickZ j).2 (c+1):=by
 unfold pickZ
 split
 ·exact h.le (by omega)
 ·rename_i q hq
  split
  ·exact h.le (by omega)
  ·rename_i p hp
   split
   ·dsimp only;obtain ⟨f1,f2,_,_⟩:=tstep_fr q p ix.m;obtain ⟨k1,k2,_⟩:=takesL_keeps ix.ts.length 0 (ix.pick1 j (q.step p ix.m).2.1 (q.step p ix.m).2.2);have l1:(ix.pick1 j (q.step p ix.m).2.1 (q.step p ix.m).2.2).ts.length=ix.ts.length:=by simp [pick1]
    have l2:(ix.pick1 j (q.step p ix.m).2.1 (q.step p ix.m).2.2).logn=ix.logn:=rfl;have jl:j < ix.ts.length:=(List.getElem?_eq_some_iff.1 hq).1;have get:∀ (i:Nat) (q':Tp),(ix.pick1 j (q.step p ix.m).2.1 (q.step p ix.m).2.2).ts[i]? = some q'->(∀ p',q'.fr=some p'->p'.tape.length<=c+1)/\1<=q'.bud/\q'.bud<=64:=by
     intro i q' e;simp only [pick1,List.getElem?_set] at e
     by_cases hji:j=i
     ·subst hji;rw [if_pos rfl,if_pos jl] at e;cases e;refine ⟨fun p' e'=>?_,by rw [f2];exact h.bud j q hq⟩;rw [f1] at e';cases e'
      have:=step_tape p ix.m
      have:=h.tape j q p hq hp
      omega
     ·rw [if_neg hji] at e;exact ⟨fun p' e'=>Nat.le_trans (h.tape i q' p' e e') (by omega),h.bud i q' e⟩
    refine ⟨by show (takesL _ _ _).ts.length<=64;rw [k1,l1];exact h.ts,fun i q' p' e1 e2=>?_,fun i q' e1=>?_,?_⟩
    ·obtain ⟨q1,g1,g2,_,_⟩:=takesL_ts _ _ _ i q' e1;exact (get i q1 g1).1 p' (by rw [<- g2];exact e2)
    ·obtain ⟨q1,g1,_,_,g4⟩:=takesL_ts _ _ _ i q' e1;rw [g4];exact (get i q1 g1).2
    ·show (takesL _ _ _).logn+_<=_
     have:=h.log
     have:=h.ts
     split <;> omega
   ·exact h.le (by omega)
theorem doZ_gd:∀ (n j:Nat) {ix:Ixp} {c:Nat},Gd ix c->Gd (doZ j n ix) (c+n)
 | 0,_,_,_,h=>h
 | n+1,j,ix,c,h=>by
  rw [doZ];have h1:=pickZ_gd h j
  split
  ·exact h1.le (by omega)
  ·exact (doZ_gd n j h1).le (by omega)
theorem invokeZ_gd {ix:Ixp} {c:Nat} (h:Gd ix c) (j:Nat) (k key val:Int):Gd (ix.invokeZ j k key val) (c+1):=by
 unfold invokeZ
 split
 ·exact h.le (by omega)
 ·rename_i q hq
  split
  ·exact h.le (by omega)
  ·have jl:j < ix.ts.length:=(List.getElem?_eq_some_iff.1 hq).1;refine ⟨by simp only [invoke,List.length_set];exact h.ts,fun i q' p' e1 e2=>?_,fun i q' e1=>?_,by simp only [invoke];have:=h.log;omega⟩
   ·simp only [invoke,List.getElem?_set] at e1
    by_cases hji:j=i
    ·subst hji;rw [if_pos rfl,if_pos jl] at e1;cases e1;simp only [Tp.begin] at e2;cases e2;rw [settle_tape];simp [Fp.make]
    ·rw [if_neg hji] at e1;exact Nat.le_trans (h.tape i q' p' e1 e2) (by omega)
   ·simp only [invoke,List.getElem?_set] at e1
    by_cases hji:j=i
    ·subst hji;rw [if_pos rfl,if_pos jl] at e1;cases e1;exact h.bud j q hq
    ·rw [if_neg hji] at e1;exact h.bud i q' e1
theorem pickZ_busy {ix:Ixp} {j:Nat} {q:Tp} {p:Fp} (hq:ix.ts[j]? = some q) (hp:q.fr=some p) (hb:q.busy=true) (he:(ix.pickZ j).1=false):∃ q' p',(ix.pickZ j).2.ts[j]? = some q'/\q'.fr=some p'/\q'.busy=true:=by
 unfold pickZ at he ⊢;rw [hq] at he ⊢;dsimp only at he ⊢;rw [hp] at he ⊢;dsimp only at he ⊢;rw [if_pos hb] at he ⊢;dsimp only at he ⊢;obtain ⟨f1,_,_,f4⟩:=tstep_fr q p ix.m;have jl:j < ix.ts.length:=(List.getElem?_eq_some_iff.1 hq).1;obtain ⟨k1,_,_⟩:=takesL_keeps ix.ts.length 0 (ix.pick1 j (q.step p ix.m).2.1 (q.step p ix.m).2.2);have l1:(ix.pick1 j (q.step p ix.m).2.1 (q.step p ix.m).2.2).ts.length=ix.ts.length:=by simp [pick1]
 have hl:j < (takesL ix.ts.length 0 (ix.pick1 j (q.step p ix.m).2.1 (q.step p ix.m).2.2)).ts.length:=by rw [k1,l1];exact jl
 have hx:=takesL_ts _ _ _ j _ (List.getElem?_eq_getElem hl);obtain ⟨q1,g1,g2,g3,_⟩:=hx;simp only [pick1,List.getElem?_set] at g1;simp only [if_true] at g1;rw [if_pos jl] at g1;cases g1;exact ⟨_,(p.step ix.m).1,List.getElem?_eq_getElem hl,by rw [g2,f1],by rw [g3,f4 he,hb]⟩
end Ixp
theorem pickz_r (W:World) (n₀ x mb tb:Nat) (ix:Ixp) (mv:Value) (tv lv:Sl) (pz:List Pt) (h:IxIs P W n₀ x ix mb mv tb tv lv pz) (hn:n₀<=W.heap.size) (j:Nat) (q:Tp) (p:Fp) (hq:ix.ts[j]? = some q) (hb:q.busy=true) (hfr:q.fr=some p) (c:Nat) (hg:ix.Gd c) (hc:c<=7000) (r:Bool) (ix':Ixp) (he:ix.pickZ j=(r,ix')) :
  Calls Tryz.prog 61 #[.pointer (some ⟨x,0,none⟩),.int .i64 (j:Int)] W fun e W'=>(∃ u la ln lc,e=.returned (.tuple #[.agg (Rs.cs u (.slice la ln lc)),.bool r]))/\(∃ mv' lv' pz',IxIs P W' n₀ x ix' mb mv' tb tv lv' pz')/\Td (Mine P W n₀) W W':=by
 have jl:j < ix.ts.length:=(List.getElem?_eq_some_iff.1 hq).1;have jp:j < pz.length:=by rw [h.pn];exact jl
 obtain ⟨pt,hpt⟩:∃ pt,pz[j]? = some pt:=⟨_,List.getElem?_eq_getElem jp⟩;have th:=h.th j q pt hq hpt;obtain ⟨gd,g64⟩:p.good/\∀ z ∈ p.tape,I64 z:=by
  rcases th.fr with ⟨_,h2,_⟩ | ⟨f,p',_,h2,F⟩
  ·rw [hfr] at h2;cases h2
  ·rw [hfr] at h2;cases h2;exact ⟨F.good,F.i64⟩
 have ht:=hg.tape j q p hq hfr;have hm1:(q.step p ix.m).2.2.ok:=by
  rw [(Ixp.tstep_fr q p ix.m).2.2.1];unfold Fp.step
  split
  ·exact h.mok
  ·exact (Mst.doA_ok h.mok h.mem.top (Fp.play_fit gd g64 (by omega))).1
 have hl:=hg.log;have hts:=hg.ts;unfold Ixp.pickZ at he;rw [hq] at he;dsimp only at he;rw [hfr] at he;dsimp only at he;rw [if_pos hb] at he;obtain ⟨rfl,rfl⟩:=Prod.mk.inj he;refine (pick_r W n₀ x mb tb ix mv tv lv pz h j q pt p hq hpt hb hfr (by omega) hn (by omega) _ _ _ _ _ rfl hm1 _ rfl).mono ?_;rintro e W' ⟨⟨l',rfl,pr⟩,h2,h3⟩;obtain ⟨la,lc,rfl,_⟩:=pr.reads;exact ⟨⟨_,la,_,lc,rfl⟩,h2,h3⟩
theorem Td.mine_trans {W W1 W2:World} {n₀:Nat} (t1:Td (Mine P W n₀) W W1) (t2:Td (Mine P W1 n₀) W1 W2):Td (Mine P W n₀) W W2:=
 t1.trans t2 (fun _ e=>e) (fun k hk e=>by
  by_cases hm:Mine P W n₀ k
  ·exact hm
  ·exact ⟨e.1,e.2.1,fun c T hc=>e.2.2 c T (by rw [t1.block k hk hm];exact hc)⟩)
theorem Td.mine_kept {W W1 W2:World} {n₀:Nat} (k:Kept W W1) (t2:Td (Mine P W1 n₀) W1 W2):Td (Mine P W n₀) W W2:=
 (k.mono (fun _ _ e=>e.elim)).mine_trans t2
set_option maxRecDepth 100000 in
set_option maxHeartbeats 4000000 in
theorem do_r (W:World) (n₀ x mb tb:Nat) (ix:Ixp) (mv:Value) (tv lv:Sl) (pz:List Pt) (h:IxIs P W n₀ x ix mb mv tb tv lv pz) (hn:n₀<=W.heap.size) (j:Nat) (q:Tp) (p:Fp) (hq:ix.ts[j]? = some q) (hb:q.busy=true) (hfr:q.fr=some p) (c:Nat) (hg:ix.Gd c) (N:Nat) (hN:N<=100) (hc:c+N<=7000) :
  Calls Tryz.prog 90 #[.pointer (some ⟨x,0,none⟩),.agg #[.int .i64 2,.int .i64 (j:Int),.int .i64 (N:Int),.int .i64 0,.int .i64 0,.int .i64 0]] W fun e W'=>e=.returned (.int .i64 0)/\(∃ mv' lv' pz',IxIs P W' n₀ x (Ixp.doZ j N ix) mb mv' tb tv lv' pz')/\Td (Mine P W n₀) W W':=by
 obtain ⟨V,hV⟩:∃ V,W.alloc (.cells #[.int .i64 2,.int .i64 (j:Int),.int .i64 (N:Int),.int .i64 0,.int .i64 0,.int .i64 0] 138)=V:=⟨_,rfl⟩;have kV:Kept W V:=by rw [<- hV];exact Td.alloc _ _ _
 have bo:V.heap[W.heap.size]? = some (.cells #[.int .i64 2,.int .i64 (j:Int),.int .i64 (N:Int),.int .i64 0,.int .i64 0,.int .i64 0] 138):=by rw [<- hV];exact heap_new _ _
 have HX:=gh (h.kept kV);have KV:=gh kV;have BO:=gh bo;have HG:=gh hg;have HQ:=gh hq;have HB:=gh hb;have HFR:=gh hfr;have HN:=gh (Nat.le_trans hn kV.size);have b0:V.cell? ⟨W.heap.size,0,none⟩=some (.int .i64 2):=by simp [World.cell?,bo]
 clear h hn hq hb hfr hg kV bo;go_enter Tryz.func90,Tryz.ntmps90;go_wp2_with (fail);clear b0
 go_loopw [5,6,7] (fun vi _ _ wr=>∃ (k:Nat) (ix':Ixp) (mv':Value) (lv':Sl) (pz':List Pt) (q':Tp) (p':Fp),vi=.int .i64 (k:Int)/\k<=N/\Hid (IxIs P wr n₀ x ix' mb mv' tb tv lv' pz')/\Hid (Td (Mine P V n₀) V wr)/\Hid (ix'.ts[j]? = some q'/\q'.busy=true/\q'.fr=some p')/\Hid (ix'.Gd (c+k))/\Hid (Ixp.doZ j N ix=Ixp.doZ j (N - k) ix')) (fun vi _ _ _=>N - (intOf vi).toNat)
 case atStart=>exact ⟨0,ix,mv,lv,pz,q,p,rfl,by omega,HX,gh (Td.refl _ _),gh ⟨HQ.o,HB.o,HFR.o⟩,HG,gh rfl⟩
 case round=>
  obtain ⟨k,ix',mv',lv',pz',q',p',rfl,hk,I,T,B,G,E⟩:=hrel;have bw:=T.o.mine BO.o (by decide);have b1:wr.cell? ⟨W.heap.size,1,none⟩=some (.int .i64 (j:Int)):=by simp [World.cell?,bw]
  have b2:wr.cell? ⟨W.heap.size,2,none⟩=some (.int .i64 (N:Int)):=by simp [World.cell?,bw]
  clear bw HX HG HQ HB HFR
  by_cases hkN:k < N
  ·have j1:(k:Int) < (N:Int):=by omega
   have j2:(k:Int) < 65536:=by omega
   obtain ⟨r,ix2,hr⟩:∃ r ix2,ix'.pickZ j=(r,ix2):=⟨_,_,rfl⟩;have HR:=gh hr;have NW:Hid (n₀<=wr.heap.size):=gh (Nat.le_trans HN.o T.o.size);clear hr;go_wp2_with (fail);refine (pickz_r wr n₀ x mb tb ix' mv' tv lv' pz' I.o NW.o j q' p' B.o.1 B.o.2.1 B.o.2.2 (c+k) G.o (by omega) r ix2 HR.o).mono ?_;rintro e U ⟨⟨u,la,ln,lc,rfl⟩,⟨mv2,lv2,pz2,i2⟩,t2⟩;have I2:=gh i2;have T2:=gh (T.o.mine_trans t2);have G2:Hid (ix2.Gd (c+(k+1))):=gh (by
    have:=Ixp.pickZ_gd G.o j
    rw [HR.o] at this;exact this.le (by omega))
   clear i2 t2 b1 b2;have hN1:N - k=(N - (k+1))+1:=by omega
   have HE:Hid (Ixp.doZ j N ix=if r=true then ix2 else Ixp.doZ j (N - (k+1)) ix2):=gh (by rw [E.o,hN1,Ixp.doZ,HR.o]);clear hN1;have PB:Hid (r=false->∃ q' p',ix2.ts[j]? = some q'/\q'.fr=some p'/\q'.busy=true):=gh (fun e=>by
    have:=Ixp.pickZ_busy B.o.1 B.o.2.2 B.o.2.1 (by rw [HR.o];exact e)
    rw [HR.o] at this;exact this)
   obtain ⟨u0,u1,u2,u3,u4⟩:=u;dsimp only [Rs.cs];clear E G B I T HR;cases r with
   | true=>
    rw [if_pos rfl] at HE;go_wp2;go_ret;exact ⟨rfl,⟨mv2,lv2,pz2,by rw [HE.o];exact I2.o.kept (Td.alloc _ _ _)⟩,Td.mine_kept KV.o (T2.o.trans (Td.alloc (fun _=>False) _ _) (fun _ e=>e) (fun _ _ e=>e.elim))⟩
   | false=>
    rw [if_neg (by decide)] at HE;obtain ⟨q2,p2,e1,e2,e3⟩:=PB.o rfl;have B2:Hid (ix2.ts[j]? = some q2/\q2.busy=true/\q2.fr=some p2):=gh ⟨e1,e3,e2⟩;clear e1 e2 e3 PB;go_wp2;exact ⟨⟨k+1,ix2,mv2,lv2,pz2,q2,p2,by simp,by omega,gh (I2.o.kept (Td.alloc _ _ _)),gh (T2.o.trans (Td.alloc (fun _=>False) _ _) (fun _ e=>e) (fun _ _ e=>e.elim)),B2,G2,HE⟩,by simp only [intOf];omega⟩
  ·have j1:¬ ((k:Int) < (N:Int)):=by omega
   obtain rfl:k=N:=by omega
   have HE:Hid (Ixp.doZ j k ix=ix'):=gh (by rw [E.o,Nat.sub_self,Ixp.doZ]);go_wp2;go_ret;exact ⟨rfl,⟨mv',lv',pz',by rw [HE.o];exact I.o⟩,Td.mine_kept KV.o T.o⟩
end
section
theorem empty_r (w:World)  : Calls Tryz.prog 39 #[] w (Fresh [0] w):=by
 go_enter Tryz.func39,Tryz.ntmps39;go_wp2;go_ret;exact ⟨_,rfl,row_new w 2 [0] _ (Nat.le_refl _) (by simp),Td.alloc _ _ _⟩
theorem leaf_r (w:World) (k:Int) (v:Int):Calls Tryz.prog 154 #[.int .i64 k,.int .i64 v] w (Fresh [k,v] w):=by
 go_enter Tryz.func154,Tryz.ntmps154;go_wp2;go_ret;exact ⟨_,rfl,row_new w 2 [k,v] _ (Nat.le_refl _) (by simp),Td.alloc _ _ _⟩
end
section
open Go.Shelf
variable {P:Nat->Prop}
attribute [local go_sem] Oper.semAt_some
def NowD (w W:World) (b:Nat) (s:Mst):Prop:=(∃ v,DMem W w.heap.size b v s)/\Kept w W
theorem NowD.on {w W W':World} {b:Nat} {s:Mst} (h:NowD w W b s) (k:Kept W W'):NowD w W' b s:=by
 obtain ⟨⟨v,h⟩,hk⟩:=h;exact ⟨⟨v,h.kept k⟩,hk.trans k⟩
theorem NowD.lt {w W:World} {b:Nat} {s:Mst} (h:NowD w W b s):w.heap.size<=b/\b < W.heap.size:=by
 obtain ⟨⟨v,h⟩,_⟩:=h;exact h.lt b (.inl rfl)
theorem nowd_make (w W:World) (b:Nat) (s:Mst) (a:Option Addr) (ws:List Int) (cw:Nat) (r:Int) (f:Bool) (s':Mst) (h:NowD w W b s) (hr:Reads W a ws) (hlw:ws.length<=maxLen) (hs:ws≠[]->∀ ad,a=some ad->ad.block≠b) (e1:s.next ws=r) (e2:s.fits ws.length=f) (e3:s.make ws=s') :
  Calls Tryz.prog 38 #[.pointer (some ⟨b,0,none⟩),.slice a ws.length cw] W fun e W'=>e=.returned (.tuple #[.int .i64 r,.bool f])/\NowD w W' b s':=by
 obtain ⟨⟨v,h⟩,hk⟩:=h;subst e1 e2 e3;exact (make_d W w.heap.size b v s a ws cw h hk.size hr hlw hs).mono fun _ _ ⟨h1,v',h',t,_⟩=>⟨h1,⟨v',h'⟩,hk.own (fun i hi=>(h.lt i hi).1) t⟩
theorem beginf_r (w:World):Calls Tryz.prog 51 #[.int .i64 1,.int .i64 7] w fun e w'=>e=.returned (.int .i64 57)/\w=w':=ofr_c 1 7 57 (by decide) w
set_option maxRecDepth 100000 in
theorem begin_d (w W:World) (b:Nat) (s:Mst) (h:NowD w W b s) (h0:s.xs=[]) (h7:7<=s.size) :
  Calls Tryz.prog 110 #[.pointer (some ⟨b,0,none⟩)] W fun e W'=>e=.returned (.bool true)/\NowD w W' b (begun s):=by
 have H:=gh h;have B1:=gh (begun_make h0 h7);have B2:=gh (begun_make2 h7);obtain ⟨⟨v,hv⟩,_⟩:=h;obtain ⟨⟨c1,c0,_⟩,_⟩:=hv.opened;obtain ⟨va,vc,rfl,_⟩:=hv.form;rw [h0] at c1;simp only [List.length_nil] at c1;have h7':decide (s.size < 7)=false:=by simp;omega
 clear h0 hv;go_enter Tryz.func110,Tryz.ntmps110;go_wp2_with (fail);refine (beginf_r W).mono ?_;rintro e w' ⟨rfl,rfl⟩;go_wp2_with (fail);refine (inner_r (W.alloc (.cells #[.int .i64 57] 2)) 0 none [] 0 (some ⟨W.heap.size,0,none⟩) [57] 1 (.inl rfl) (Reads.new W 2 [57]) (fun _=>rfl) (fun e=>by cases e) rfl (by decide)).mono ?_;intro e W1 hf;obtain ⟨a1,cap1,rfl,hr,hc,hm,ha,-,hk⟩:=hf.form;have H1:=gh (H.o.on ((Td.alloc (fun _=>False) W _).trans hk (fun _ e=>e) (fun _ _ e=>e)));have HR:=gh hr;have HA:Hid (∀ ad,a1=some ad->ad.block≠b):=gh (fun ad e=>by
  have e1:=ha ad e;have e2:=H.o.lt.2;simp at e1;omega)
 clear hf hr hc hm ha hk H c0 c1;go_wp2_with (fail);refine (nowd_make w W1 b s a1 (innerL 0 [] [57]) cap1 1 true _ H1.o HR.o (by decide) (fun _=>HA.o) B1.o.1 B1.o.2.1 B1.o.2.2).mono ?_;rintro e W2 ⟨rfl,h2⟩;have H2:=gh h2;clear h2 H1 HR HA B1;go_wp2_with (fail);refine (empty_r W2).mono ?_;intro e W3 hf;obtain ⟨a1,cap1,rfl,hr,hc,hm,ha,-,hk⟩:=hf.form;have H3:=gh (H2.o.on hk);have HR:=gh hr;have HA:Hid (∀ ad,a1=some ad->ad.block≠b):=gh (fun ad e=>by
  have e1:=ha ad e;have e2:=H2.o.lt.2;omega)
 clear hf hr hc hm ha hk H2;go_wp2_with (fail);refine (nowd_make w W3 b _ a1 [0] cap1 7 true _ H3.o HR.o (by decide) (fun _=>HA.o) B2.o.1 B2.o.2.1 B2.o.2.2).mono ?_;rintro e W4 ⟨rfl,h4⟩;have H4:=gh h4;clear h4 H3 HR HA B2;go_wp2;go_ret;exact ⟨rfl,H4.o⟩
theorem info_ptr:(Tryz.prog.info? 103).map (fun i=>(i.zero,i.size,i.bytes))=some (some (.pointer none),1,8):=by kernel_rfl
theorem wpListIn_append_ptr {F:Fence} {nF:Nat} {w:World} {ops:Array Oper} {rest:List Oper} {o:Oper} {a:Act} {Q:Exit->Act->World->Prop} (hgd:o.guard=none) (s x:Operand) (ho:o.op=.call { callee:=.builtin .append,args:=#[s,x],argTypes:=#[32,32] })
  (base:Nat) (v:Value) (n:Nat) (cs:List Value) (hs:a.eval s=v) (hown:w.ownsRow base 103 1 v n cs) (m t:Nat) (hx:a.eval x=.slice (some ⟨m,0,none⟩) 1 1) (hc:w.heap[m]? = some (.cells #[.pointer (some ⟨t,0,none⟩)] 103))
  (hl:n<=900000) (hbase:base<=w.heap.size)
  (h:∀ v' w',w'.ownsRow base 103 1 v' (n+1) (cs++[.pointer (some ⟨t,0,none⟩)])->w.grownBy w' v.ownBlock->(v'.ownBlock=v.ownBlock∨v'.ownBlock=some w.heap.size)->wpListIn F nF Tryz.prog ops Q rest (a.put o.dst v') w'):wpListIn F nF Tryz.prog ops Q (o :: rest) a w:=by
 obtain ⟨i0,hi,hz0,hz1,hz2⟩:=info_parts info_ptr;refine wpListIn_append_own_at w hgd s x 32 ho base 103 i0 _ 1 8 Tryz.underlying32 hi hz0 hz1 hz2 rfl (by decide) v n cs hs hown ⟨m,0,none⟩ 1 1 [.pointer (some ⟨t,0,none⟩)] hx (by simp) ?_ (by simp [Value.oneCell']) (by unfold maxLen;omega) (by omega) hbase ?_
 ·intro j u hu;rcases j with _ | j
  ·simp at hu;subst hu;simp [World.cell?,hc,Addr.add]
  ·simp at hu
 ·intro v' w' h3 h2 _ h4;exact h v' w' h3 h2 h4
end
section
open Go.Shelf
attribute [local go_sem] Oper.semAt_some
def Tp.idle (bud:Int):Tp:=⟨bud,false,0,0,0,none,0,false,0⟩
def Ixp.fresh (cells bud:Int) (n:Nat):Ixp:=⟨cells,(n:Int),bud,begun (Mst.new cells),List.replicate n (Tp.idle bud),0,0,0⟩
def ptrs (pz:List Pt):List Value:=pz.map fun p=>.pointer (some ⟨p.t,0,none⟩)
structure NewI (w W:World) (x mb:Nat) (cells bud:Int) (N n:Nat) (tv:Sl) (pz:List Pt):Prop where
 kept:Kept w W
 cfg:W.heap[w.heap.size]? = some (.cells #[.int .i64 cells,.int .i64 (N:Int),.int .i64 bud] 30)
 le:w.heap.size<=x
 box:W.heap[x]? = some (.cells ((Ixp.fresh cells bud N).cs mb tv Sl.nil) 35)
 mem:∃ v,DMem W w.heap.size mb v (begun (Mst.new cells))
 row:W.ownsRow w.heap.size 103 1 tv.v n (ptrs pz)
 rn:tv.n=n
 pn:pz.length=n
 th:∀ p,p ∈ pz->p.fa=none/\p.tp=Sl.nil/\w.heap.size<=p.t/\W.heap[p.t]? = some (.cells ((Tp.idle bud).cs none) 102)
 dt:∀ (i j:Nat) (p p':Pt),pz[i]? = some p->pz[j]? = some p'->i≠j->p.t≠p'.t
theorem own123 {W:World} {n₀ n:Nat} {v:Value} {cs:List Value} (h:W.ownsRow n₀ 103 1 v n cs):∀ g,v.ownBlock=some g->n₀<=g/\∃ c,W.heap[g]? = some (.cells c 103):=by
 intro g e;rcases h.2 with ⟨rfl,_⟩ | ⟨g',cap,cur,rfl,hg,hh,_⟩
 ·simp [Value.ownBlock] at e
 ·simp [Value.ownBlock] at e;subst e;exact ⟨hg,_,hh⟩
theorem own123_turned {W W':World} {n₀ n:Nat} {v:Value} {cs:List Value} {R:Nat->Prop} (h:W.ownsRow n₀ 103 1 v n cs) (t:Td R W W') (hn:∀ g,v.ownBlock=some g->¬ R g):W'.ownsRow n₀ 103 1 v n cs:=by
 refine ⟨h.1,?_⟩;rcases h.2 with h2 | ⟨g,cap,cur,rfl,hg,hh,r⟩
 ·exact .inl h2
 ·exact .inr ⟨g,cap,cur,rfl,hg,t.heap hh (hn g rfl),r⟩
theorem NewI.on {w W W':World} {x mb:Nat} {cells bud:Int} {N n:Nat} {tv:Sl} {pz:List Pt} (h:NewI w W x mb cells bud N n tv pz) (k:Kept W W'):NewI w W' x mb cells bud N n tv pz:=by
 refine ⟨h.kept.trans k,k.heap h.cfg id,h.le,k.heap h.box id,?_,own123_turned h.row k (fun _ _ e=>e),h.rn,h.pn,fun p hp=>?_,h.dt⟩
 ·obtain ⟨v,hv⟩:=h.mem;exact ⟨v,hv.kept k⟩
 ·obtain ⟨a,b,c,d⟩:=h.th p hp;exact ⟨a,b,c,k.heap d id⟩
theorem NewI.step {w W U2 A1 A2:World} {x mb:Nat} {cells bud:Int} {N n:Nat} {tv:Sl} {pz:List Pt} (h:NewI w W x mb cells bud N n tv pz) (k2:Kept W U2) (hb:U2.heap[W.heap.size]? = some (.cells ((Tp.idle bud).cs none) 102))
  (t:Td (fun k=>tv.v.ownBlock=some k) U2 A1) (la:Option Addr) (lc:Nat) (hr:A1.ownsRow w.heap.size 103 1 (.slice la (n+1) lc) (n+1) (ptrs pz++[.pointer (some ⟨W.heap.size,0,none⟩)])) (hA:A1.setCell ⟨x,4,none⟩ (.slice la (n+1) lc)=A2) :
  NewI w A2 x mb cells bud N (n+1) ⟨la,n+1,lc⟩ (pz++[⟨W.heap.size,none,Sl.nil,Sl.nil⟩]):=by
 have t1:Td (fun k=>tv.v.ownBlock=some k) W A1:=k2.then t;have own:=own123 h.row;have tA:Td (fun k=>k=x) A1 A2:=by rw [<- hA];exact Td.setCell (R:=fun k=>k=x) _ _ _ rfl
 have ne:∀ {y:Nat} {c:Array Value} {T:TypeId},W.heap[y]? = some (.cells c T)->T≠103->¬ tv.v.ownBlock=some y:=fun hy e1 e2=>by
  obtain ⟨_,c',hc⟩:=own _ e2;rw [hy] at hc;simp at hc;exact e1 hc.2
 have t2:Td (fun k=>tv.v.ownBlock=some k∨k=x) W A2:=t1.trans tA (fun _ e=>.inl e) (fun _ _ e=>.inr e);have xb:=t1.heap h.box (ne h.box (by decide));have nex:∀ {y:Nat} {c:Array Value} {T:TypeId},W.heap[y]? = some (.cells c T)->T≠103->T≠35->¬ (tv.v.ownBlock=some y∨y=x):=fun hy e1 e2=>by
  rintro (e | e)
  ·exact ne hy e1 e
  ·rw [e,h.box] at hy;simp at hy;exact e2 hy.2.symm
 have xl:x < W.heap.size:=(Array.getElem?_eq_some_iff.1 h.box).1;have lt:∀ p,p ∈ pz->p.t < W.heap.size:=fun p hp=>(Array.getElem?_eq_some_iff.1 (h.th p hp).2.2.2).1;refine ⟨h.kept.own (fun i hi=>hi.elim (fun e=>(own i e).1) (fun e=>by rw [e];exact h.le)) t2,t2.heap h.cfg (nex h.cfg (by decide) (by decide)),h.le,?_,?_,?_,rfl,by simp [h.pn],fun p hp=>?_,fun i j p p' e1 e2 hij=>?_⟩
 ·rw [<- hA];simp [World.setCell,Array.getElem?_modify,xb,Ixp.cs,Sl.nil]
 ·obtain ⟨v,hv⟩:=h.mem;refine ⟨v,hv.turned t2 (fun k hk=>?_)⟩;obtain ⟨c,hc | hc⟩:=hv.types k hk
  ·exact nex hc (by decide) (by decide)
  ·exact nex hc (by decide) (by decide)
 ·have e:ptrs (pz++[⟨W.heap.size,none,Sl.nil,Sl.nil⟩])=ptrs pz++[.pointer (some ⟨W.heap.size,0,none⟩)]:=by simp [ptrs]
  rw [e];refine own123_turned hr tA (fun g eg e'=>?_);obtain ⟨_,c,hc⟩:=own123 hr g eg;rw [e',xb] at hc;simp at hc
 ·rcases List.mem_append.1 hp with hp | hp
  ·obtain ⟨a,b,c,d⟩:=h.th p hp;exact ⟨a,b,c,t2.heap d (nex d (by decide) (by decide))⟩
  ·obtain rfl:=List.mem_singleton.1 hp;have h1:=t.heap hb (fun e=>by
    obtain ⟨_,c,hc⟩:=own _ e
    have:=(Array.getElem?_eq_some_iff.1 hc).1
    omega)
   exact ⟨rfl,rfl,h.kept.size,tA.heap h1 (by show ¬ W.heap.size=x;omega)⟩
 ·rw [List.getElem?_append] at e1 e2;have pn:=h.pn
  by_cases hi:i < pz.length
  ·rw [if_pos hi] at e1;have l1:=lt p (List.mem_of_getElem? e1)
   by_cases hj:j < pz.length
   ·rw [if_pos hj] at e2;exact h.dt i j p p' e1 e2 hij
   ·rw [if_neg hj] at e2;obtain rfl:=List.mem_singleton.1 (List.mem_of_getElem? e2);dsimp only;omega
  ·rw [if_neg hi] at e1;obtain rfl:=List.mem_singleton.1 (List.mem_of_getElem? e1);have i0:=(List.getElem?_eq_some_iff.1 e1).1
   by_cases hj:j < pz.length
   ·rw [if_pos hj] at e2;have l2:=lt p' (List.mem_of_getElem? e2);dsimp only;omega
   ·rw [if_neg hj] at e2;have j0:=(List.getElem?_eq_some_iff.1 e2).1;simp at i0 j0;omega
theorem NewI.done {w W:World} {x mb:Nat} {cells bud:Int} {N:Nat} {tv:Sl} {pz:List Pt} (h:NewI w W x mb cells bud N N tv pz) (h1:1<=N) (hok:(begun (Mst.new cells)).ok):∃ mv tb,IxIs NoP W w.heap.size x (Ixp.fresh cells bud N) mb mv tb tv Sl.nil pz:=by
 obtain ⟨mv,hm⟩:=h.mem;rcases h.row.2 with ⟨_,h2⟩ | ⟨g,cap,cur,e,hg,hh,hc,_,_,ht⟩
 ·omega
 ·obtain ⟨ea,en,ec⟩:=Sl.form e;refine ⟨mv,g,h.le,h.box,hm,hok,ea,⟨by rw [en];simp [Ixp.fresh],by rw [en,ec];exact hc⟩,⟨cur,hh,fun i p hp=>?_⟩,by rw [h.pn];simp [Ixp.fresh],fun i q p hq hp=>?_,⟨[],rfl,.inl ⟨rfl,rfl⟩⟩,fun i j p p' e1 e2 hij=>?_,fun i p hp g' eg=>?_,fun i q hq hb=>?_,fun k hk=>hk.elim⟩
  ·have h2:(ptrs pz)[i]? = some (.pointer (some ⟨p.t,0,none⟩)):=by simp [ptrs,hp]
   rw [<- ht,Nat.mul_one,List.getElem?_take] at h2
   split at h2
   ·simpa using h2
   ·cases h2
  ·have hq':q=Tp.idle bud:=by
    simp only [Ixp.fresh,List.getElem?_replicate] at hq
    split at hq
    ·cases hq;rfl
    ·cases hq
   obtain ⟨a,b,c,d⟩:=h.th p (List.mem_of_getElem? hp);subst hq';exact ⟨c,by rw [a];exact d,.inl ⟨a,rfl,b⟩⟩
  ·obtain ⟨a,b,_,_⟩:=h.th p (List.mem_of_getElem? e1);exact ⟨h.dt i j p p' e1 e2 hij,(fun f ef=>by rw [a] at ef;cases ef),(fun g eg=>by rw [b] at eg;simp [Sl.nil,Sl.v,Value.ownBlock] at eg)⟩
  ·obtain ⟨a,b,_,_⟩:=h.th p (List.mem_of_getElem? hp);rw [b] at eg;simp [Sl.nil,Sl.v,Value.ownBlock] at eg
  ·simp only [Ixp.fresh,List.getElem?_replicate] at hq
   split at hq
   ·cases hq;simp [Tp.idle] at hb
   ·cases hq
theorem nowd_new (w W:World) (n:Int) (hk:Kept w W) (h0:1<=n) (h1:n<=65536) :
  Calls Tryz.prog 109 #[.int .i64 n] W fun e W'=>e=.returned (.tuple #[.pointer (some ⟨W.heap.size,0,none⟩),.int .i64 0])/\NowD w W' W.heap.size (Mst.new n)/\Kept W W':=
 (new_d W n h0 h1).mono fun _ _ ⟨h1,h2,h3,_⟩=>⟨h1,⟨⟨_,h2.low hk.size⟩,hk.trans h3⟩,h3⟩
theorem begun_ok {n:Int} (_:n<=65536):(begun (Mst.new n)).ok:=by
 refine ⟨fun z hz=>?_,by simp [begun]⟩;simp only [begun,List.mem_cons,List.not_mem_nil,or_false] at hz;rcases hz with rfl | rfl | rfl | rfl | rfl | rfl | rfl <;> exact ⟨by decide,by decide⟩
set_option maxRecDepth 100000 in
set_option maxHeartbeats 4000000 in
theorem new_r (w:World) (cells bud:Int) (N:Nat) (h0:7<=cells) (h1:cells<=65536) (hN:1<=N) (hN':N<=64) (hb:1<=bud) (hb':bud<=64) :
  Calls Tryz.prog 86 #[.agg #[.int .i64 cells,.int .i64 (N:Int),.int .i64 bud]] w fun e w'=>∃ x,e=.returned (.tuple #[.pointer (some ⟨x,0,none⟩),.int .i64 0])/\(∃ mb mv tb tv lv pz,IxIs NoP w' w.heap.size x (Ixp.fresh cells bud N) mb mv tb tv lv pz)/\Kept w w':=by
 obtain ⟨V,hV⟩:∃ V,w.alloc (.cells #[.int .i64 cells,.int .i64 (N:Int),.int .i64 bud] 30)=V:=⟨_,rfl⟩;have kV:Kept w V:=by rw [<- hV];exact Td.alloc _ _ _
 have bo:V.heap[w.heap.size]? = some (.cells #[.int .i64 cells,.int .i64 (N:Int),.int .i64 bud] 30):=by rw [<- hV];exact heap_new _ _
 have b0:V.cell? ⟨w.heap.size,0,none⟩=some (.int .i64 cells):=by simp [World.cell?,bo]
 have b1:V.cell? ⟨w.heap.size,1,none⟩=some (.int .i64 (N:Int)):=by simp [World.cell?,bo]
 have b2:V.cell? ⟨w.heap.size,2,none⟩=some (.int .i64 bud):=by simp [World.cell?,bo]
 have i1:decide (cells < 7)=false:=by simp;omega
 have i2:decide (65536 < cells)=false:=by simp;omega
 have i3:decide ((N:Int) < 1)=false:=by simp;omega
 have i4:decide (64 < (N:Int))=false:=by simp;omega
 have i5:decide (bud < 1)=false:=by simp;omega
 have i6:decide (64 < bud)=false:=by simp;omega
 have KV:=gh kV;have BO:=gh bo;clear kV bo;go_enter Tryz.func86,Tryz.ntmps86;go_wp2_with (fail);refine (nowd_new V V cells (Kept.refl _) (by omega) h1).mono ?_;rintro e W1 ⟨rfl,n1,-⟩;obtain ⟨mb,hmb⟩:∃ m,V.heap.size=m:=⟨_,rfl⟩;rw [hmb] at n1;rw [hmb];clear hmb;have H1:=gh n1;clear n1 b0 b1 b2 hV;go_wp2_with (fail);refine (begin_d V W1 mb _ H1.o rfl h0).mono ?_;rintro e W2 ⟨rfl,n2⟩;have H2:=gh n2;have bo2:=n2.2.heap BO.o id;have d0:W2.cell? ⟨w.heap.size,0,none⟩=some (.int .i64 cells):=by simp [World.cell?,bo2]
 have d1:W2.cell? ⟨w.heap.size,1,none⟩=some (.int .i64 (N:Int)):=by simp [World.cell?,bo2]
 have d2:W2.cell? ⟨w.heap.size,2,none⟩=some (.int .i64 bud):=by simp [World.cell?,bo2]
 obtain ⟨x,hx⟩:∃ x,W2.heap.size=x:=⟨_,rfl⟩;have I0:Hid (NewI w (W2.alloc (.cells ((Ixp.fresh cells bud N).cs mb Sl.nil Sl.nil) 35)) x mb cells bud N 0 Sl.nil []):=gh (by
  have kA:Kept W2 (W2.alloc (.cells ((Ixp.fresh cells bud N).cs mb Sl.nil Sl.nil) 35)):=Td.alloc _ _ _;obtain ⟨⟨v,hv⟩,k2⟩:=H2.o;refine ⟨(KV.o.trans k2).trans kA,kA.heap bo2 id,by rw [<- hx];exact Nat.le_trans KV.o.size k2.size,by rw [<- hx];exact heap_new _ _,⟨v,(hv.low KV.o.size).kept kA⟩,⟨rfl,.inl ⟨rfl,rfl⟩⟩,rfl,rfl,(fun p hp=>by cases hp),(fun i j p p' e=>by cases e)⟩)
 clear n2 H1 bo2 BO;go_wp2_with (fail)
 rename World=>VV
 go_loopw [7] (fun vi wr=>∃ (i:Nat) (tv:Sl) (pz:List Pt),vi=.int .i64 (i:Int)/\i<=N/\Hid (NewI w wr x mb cells bud N i tv pz)) (fun vi _=>N - (intOf vi).toNat)
 case atStart=>exact ⟨0,_,_,rfl,by omega,I0⟩
 case round=>
  obtain ⟨i,tv,pz,rfl,hi,I⟩:=hrel;clear I0 d0 d1 d2 hx;have c1:wr.cell? ⟨w.heap.size,1,none⟩=some (.int .i64 (N:Int)):=by have:=I.o.cfg;simp [World.cell?,this]
  by_cases hlt:i < N
  ·have j1:(i:Int) < (N:Int):=by omega
   obtain ⟨V9,hV9⟩:∃ V9,wr.drew=V9:=⟨_,rfl⟩;have k9:Kept wr V9:=by rw [<- hV9];exact Kept.drew _
   have I9:=gh (I.o.on k9);have HV9:=gh hV9;have own:=own123 I9.o.row;have ne:∀ {y:Nat} {c:Array Value} {T:TypeId},V9.heap[y]? = some (.cells c T)->T≠103->¬ tv.v.ownBlock=some y:=fun hy e1 e2=>by
    obtain ⟨_,c',hc⟩:=own _ e2;rw [hy] at hc;simp at hc;exact e1 hc.2
   have e4:V9.cell? ⟨x,4,none⟩=some (.slice tv.a tv.n tv.c):=by have:=I9.o.box;simp [World.cell?,this,Ixp.cs]
   have e2:V9.cell? ⟨w.heap.size,2,none⟩=some (.int .i64 bud):=by have:=I9.o.cfg;simp [World.cell?,this]
   have z4:∀ u:Wd (fun U=>Td (fun k=>tv.v.ownBlock=some k) V9 U),u.w.cell? ⟨x,4,none⟩=some (.slice tv.a tv.n tv.c):=fun u=>u.ok.cell e4 (ne I9.o.box (by decide));have z2:∀ u:Wd (fun U=>Td (fun k=>tv.v.ownBlock=some k) V9 U),u.w.cell? ⟨w.heap.size,2,none⟩=some (.int .i64 bud):=fun u=>u.ok.cell e2 (ne I9.o.cfg (by decide));have SZ:Hid (w.heap.size<=V9.heap.size):=gh I9.o.kept.size;have NX:=gh (ne I9.o.box (by decide));have rn:=gh I9.o.rn;clear I hV9 k9 own ne e4 e2 hi;go_wp2_with (fail);clear c1;refine region_last [0,1,2,3,4,5,6,7,8,9,10,11,12] 13 (fun U=>Td (fun k=>tv.v.ownBlock=some k) V9 U) (by kernel_rfl) (by kernel_rfl) (by rw [HV9.o];exact Td.refl _ _) (fun _=>?_);rw [HV9.o]
   repeat (refine lq rfl rfl ?_;go_big_quiet_step (fail);refine wpQuiet_nil ?_)
   refine ll rfl rfl ?_;gi_wp2;refine ⟨Wd.mem (Td.alloc _ _ _),?_⟩;refine ll rfl rfl ?_;gi_wp2;refine ⟨Wd.mem ((show Kept V9 _ from Td.alloc _ _ _).then (Td.alloc _ _ _)),?_⟩;refine ll rfl rfl ?_;gi_wp2_with (gi_at_builtin;refine Stop.out ?_);refine ⟨?_⟩;obtain ⟨U2,hU2⟩:∃ U2,(V9.alloc (.cells ((Tp.idle bud).cs none) 102)).alloc (.cells #[.pointer (some ⟨V9.heap.size,0,none⟩)] 103)=U2:=⟨_,rfl⟩;have k2:Kept V9 U2:=by rw [<- hU2];exact (Kept.alloc (Kept.refl V9) _).alloc _
   have hb2:U2.heap[V9.heap.size]? = some (.cells ((Tp.idle bud).cs none) 102):=by
    rw [<- hU2];exact (show Kept (V9.alloc (.cells ((Tp.idle bud).cs none) 102)) _ from Td.alloc _ _ _).heap (heap_new _ _) id
   have hm2:U2.heap[V9.heap.size+1]? = some (.cells #[.pointer (some ⟨V9.heap.size,0,none⟩)] 103):=by
    rw [<- hU2];exact heap_alloc2_new _ _ _
   have r2:=own123_turned I9.o.row k2 (fun _ _ e=>e);show wpListIn _ _ _ _ _ _ _ ((V9.alloc (.cells ((Tp.idle bud).cs none) 102)).alloc (.cells #[.pointer (some ⟨V9.heap.size,0,none⟩)] 103));rw [hU2];have HU2:=gh hU2;clear hU2;refine wpListIn_append_ptr rfl _ _ rfl w.heap.size tv.v i (ptrs pz) rfl r2 (V9.heap.size+1) V9.heap.size rfl hm2 (by omega) (Nat.le_trans SZ.o k2.size) ?_;rintro v9 A1 hrow hgrow hat;obtain ⟨la,lc,rfl⟩:∃ la lc,v9=.slice la (i+1) lc:=by
    rcases hrow.2 with ⟨_,e⟩ | ⟨g,cap,cur,rfl,_⟩
    ·omega
    ·exact ⟨_,_,rfl⟩
   have TA:Hid (Td (fun k=>tv.v.ownBlock=some k) U2 A1):=gh (Td.of_grownBy (R:=fun k=>tv.v.ownBlock=some k) hgrow (fun _ h=>h));have TV:Hid (Td (fun k=>tv.v.ownBlock=some k) V9 A1):=gh (k2.then TA.o);have bxA:=TV.o.heap I9.o.box NX.o;have cA:A1.cell? ⟨x,4,none⟩=some (.slice tv.a tv.n tv.c):=by simp [World.cell?,bxA,Ixp.cs]
   have gA:A1.frozen? ⟨x,4,none⟩=false:=by simp [World.frozen?,bxA]
   obtain ⟨A2,hA2⟩:∃ A2,A1.setCell ⟨x,4,none⟩ (.slice la (i+1) lc)=A2:=⟨_,rfl⟩;have IN:Hid (NewI w A2 x mb cells bud N (i+1) ⟨la,i+1,lc⟩ (pz++[⟨V9.heap.size,none,Sl.nil,Sl.nil⟩])):=gh (I9.o.step k2 hb2 TA.o la lc hrow hA2);have HA2:=gh hA2;clear hrow hgrow hat hA2 bxA k2 hb2 hm2 r2;gi_wp2;refine ⟨Wd.mem TV.o,?_⟩;simp only [Act.put,List.setIfInBounds_toArray,List.set_cons_succ,List.set_cons_zero]
   repeat (refine lq rfl rfl ?_;go_big_quiet_step (fail);refine wpQuiet_nil ?_)
   refine lz rfl ?_;gi_wp2;refine last_done ?_;rw [HA2.o];clear z4 z2 cA gA;go_wp2;exact ⟨⟨i+1,_,_,by simp,by omega,IN⟩,by simp only [intOf];omega⟩
  ·have j1:¬ ((i:Int) < (N:Int)):=by omega
   obtain rfl:i=N:=by omega
   go_wp2
   go_ret2
   obtain ⟨mv,tb,hI⟩:=I.o.done hN (begun_ok h1);exact ⟨x,rfl,⟨mb,mv,tb,tv,Sl.nil,pz,hI⟩,I.o.kept⟩
end
section
def recS (s:Mst) (k:Int) (ws:List Int):Int × Mst:=(Rf.ofZ k (s.next ws),s.make ws)
def kidF (L:Mst->List (Int × Int)->Int × Mst) (ps:List (Int × Int)) (s:Mst):Nat->List Int × Mst
 | 0=>([],s)
 | i+1=>((kidF L ps s i).1++[(L (kidF L ps s i).2 (partL ps (i:Int))).1],(L (kidF L ps s i).2 (partL ps (i:Int))).2)
def layF:Nat->Mst->List (Int × Int)->Int × Mst
 | 0=>fun s _=>(0,s)
 | f+1=>fun s ps=>
  if ps.length=0 then recS s 1 [0]
  else if ps.length=1 then recS s 2 [(ps.headD (0,0)).1,(ps.headD (0,0)).2]
  else recS (kidF (layF f) ps s (Pt.degZ ps.length).toNat).2 3 (innerL ps.length (lowL ps (Pt.degZ ps.length).toNat) (kidF (layF f) ps s (Pt.degZ ps.length).toNat).1)
theorem kidF_len (L:Mst->List (Int × Int)->Int × Mst) (ps:List (Int × Int)) (s:Mst):∀ n,(kidF L ps s n).1.length=n
 | 0=>rfl
 | n+1=>by simp [kidF,kidF_len L ps s n]
section
variable {T:TypeId} {lay:Value->Int->Int->Int->Int->Array Value} {n₀ b:Nat} {v0:Value} {W₀ W W':World} {st st':Mst} {vq vc:Value} {qs cs:List Int}
structure LayI (T:TypeId) (lay:Value->Int->Int->Int->Int->Array Value) (n₀ b:Nat) (v0:Value) (W₀ W:World) (st:Mst) (vq vc:Value) (qs cs:List Int):Prop where
 mem:∃ v,MemAt T lay W n₀ b v st/\(∀ k,Foot b v k->Foot b v0 k∨W₀.heap.size<=k)/\(∀ k,vq.ownBlock=some k->¬ Foot b v k)/\(∀ k,vc.ownBlock=some k->¬ Foot b v k)
 turned:Td (Foot b v0) W₀ W
 q:Row W W₀.heap.size 2 vq qs
 c:Row W W₀.heap.size 2 vc cs
 qc:∀ k,vq.ownBlock=some k->vc.ownBlock≠some k
theorem Row.apt {n₀:Nat} {e:TypeId} {v:Value} {zs:List Int} {R:Nat->Prop} (h:Row W n₀ e v zs) (ht:Td R W W') (hn:∀ g,v.ownBlock=some g->¬ R g):Row W' n₀ e v zs:=by
 obtain ⟨h1,h2⟩:=h;refine ⟨h1,?_⟩;rcases h2 with h2 | ⟨g,cap,cur,rfl,hg,hh,r⟩
 ·exact .inl h2
 ·exact .inr ⟨g,cap,cur,rfl,hg,ht.heap hh (hn g rfl),r⟩
namespace LayI
theorem kept (h:LayI T lay n₀ b v0 W₀ W st vq vc qs cs) (k:Kept W W'):LayI T lay n₀ b v0 W₀ W' st vq vc qs cs:=by
 obtain ⟨⟨v,h1,h2⟩,ht,hq,hc,hqc⟩:=h;exact ⟨⟨v,h1.kept k,h2⟩,k.behind ht,hq.kept k,hc.kept k,hqc⟩
theorem step (h:LayI T lay n₀ b v0 W₀ W st vq vc qs cs):∃ v,MemAt T lay W n₀ b v st/\(∀ k,Foot b v k->Foot b v0 k∨W₀.heap.size<=k)/\∀ W' st',Does T lay n₀ b v st' W W'->LayI T lay n₀ b v0 W₀ W' st' vq vc qs cs:=by
 obtain ⟨⟨v,h1,h2,h3,h4⟩,ht,hq,hc,hqc⟩:=h;refine ⟨v,h1,h2,fun W' st' d=>?_⟩;obtain ⟨v',g1,g2,g3⟩:=d;refine ⟨⟨v',g1,?_,?_,?_⟩,?_,hq.apt g2 h3,hc.apt g2 h4,hqc⟩
 ·intro k hk;rcases g3 k hk with e | e
  ·exact h2 k e
  ·exact .inr (Nat.le_trans ht.size e)
 ·intro k hk hf;rcases g3 k hf with e | e
  ·exact h3 k hk e
  ·have:=(hq.lt k hk).2;omega
 ·intro k hk hf;rcases g3 k hf with e | e
  ·exact h4 k hk e
  ·have:=(hc.lt k hk).2;omega
 ·exact ht.trans g2 (fun _ e=>e) (fun i hi e=>by rcases h2 i e with e | e <;> first | exact e | omega)
theorem swap (h:LayI T lay n₀ b v0 W₀ W st vq vc qs cs):LayI T lay n₀ b v0 W₀ W st vc vq cs qs:=by
 obtain ⟨⟨v,h1,h2,h3,h4⟩,ht,hq,hc,hqc⟩:=h;exact ⟨⟨v,h1,h2,h4,h3⟩,ht,hc,hq,fun k hk e=>hqc k e hk⟩
theorem grow {w1:World} {vq':Value} {qs':List Int} (h:LayI T lay n₀ b v0 W₀ W st vq vc qs cs) (hown:Row w1 W₀.heap.size 2 vq' qs') (hg:W.grownBy w1 vq.ownBlock) (hat:vq'.ownBlock=vq.ownBlock∨vq'.ownBlock=some W.heap.size):LayI T lay n₀ b v0 W₀ w1 st vq' vc qs' cs:=by
 obtain ⟨⟨v,h1,h2,h3,h4⟩,ht,hq,hc,hqc⟩:=h;have tg:Td (fun k=>vq.ownBlock=some k) W w1:=Td.of_grownBy hg (fun _ e=>e);refine ⟨⟨v,h1.turned tg (fun k hk e=>h3 k e hk),h2,?_,h4⟩,?_,hown,hc.apt tg (fun g hg' e=>hqc g e hg'),?_⟩
 ·intro k hk hf;rcases hat with e | e
  ·exact h3 k (by rw [<- e];exact hk) hf
  ·have:=(h1.lt k hf).2
   rw [e] at hk;cases hk;omega
 ·exact ht.trans tg (fun _ e=>e) (fun i hi e=>by have:=(hq.lt i e).1;omega)
 ·intro k hk e';rcases hat with e | e
  ·exact hqc k (by rw [<- e];exact hk) e'
  ·have:=(hc.lt k e').2
   rw [e] at hk;cases hk;omega
theorem start (h:MemAt T lay W₀ n₀ b v0 st) (k:Kept W₀ W) (hq:Row W W₀.heap.size 2 vq qs) (hc:Row W W₀.heap.size 2 vc cs) (hqc:∀ k,vq.ownBlock=some k->vc.ownBlock≠some k):LayI T lay n₀ b v0 W₀ W st vq vc qs cs:=by
 refine ⟨⟨v0,h.kept k,fun _ e=>.inl e,?_,?_⟩,k.mono (fun _ _ e=>e.elim),hq,hc,hqc⟩
 ·intro j hj hf;have h1:=(hq.lt j hj).1;have h2:=(h.lt j hf).2;omega
 ·intro j hj hf;have h1:=(hc.lt j hj).1;have h2:=(h.lt j hf).2;omega
end LayI
theorem Does.then {v v1:Value} {s2:Mst} {W1 W2:World} (t:Td (Foot b v) W W1) (hs:∀ k,Foot b v1 k->Foot b v k∨W.heap.size<=k) (d:Does T lay n₀ b v1 s2 W1 W2):Does T lay n₀ b v s2 W W2:=by
 obtain ⟨v2,h2,t2,s2⟩:=d;refine ⟨v2,h2,t.trans t2 (fun _ e=>e) (fun i hi e=>by rcases hs i e with e | e <;> first | exact e | omega),fun k hk=>?_⟩;rcases s2 k hk with e | e
 ·exact hs k e
 ·exact .inr (Nat.le_trans t.size e)
theorem Does.after {v:Value} {s2:Mst} {W1 W2:World} (k:Kept W W1) (d:Does T lay n₀ b v s2 W1 W2):Does T lay n₀ b v s2 W W2:=
 Does.then (k.mono (fun _ _ e=>e.elim)) (fun _ e=>.inl e) d
end
end
section
set_option maxRecDepth 20000
end
section
set_option maxRecDepth 20000
theorem layF_succ (f:Nat) (s:Mst) (ps:List (Int × Int)):layF (f+1) s ps=if ps.length=0 then recS s 1 [0]
  else if ps.length=1 then recS s 2 [(ps.headD (0,0)).1,(ps.headD (0,0)).2]
  else recS (kidF (layF f) ps s (Pt.degZ ps.length).toNat).2 3 (innerL ps.length (lowL ps (Pt.degZ ps.length).toNat) (kidF (layF f) ps s (Pt.degZ ps.length).toNat).1):=rfl
theorem wpList_append_q {T:TypeId} {lay:Value->Int->Int->Int->Int->Array Value} {n₀ b:Nat} {v0:Value} {W₀ wr:World} {st:Mst} {vq vc:Value} {qs cs qs':List Int} {x:Int} {ops:Array Oper} {rest:List Oper} {o:Oper} {a:Act} {Q:Exit->Act->World->Prop} (hgd:o.guard=none) (s y:Operand)
  (ho:o.op=.call { callee:=.builtin .append,args:=#[s,y],argTypes:=#[56,56] }) (hs:a.eval s=vq) (hx:a.eval y=.slice (some ⟨wr.heap.size,0,none⟩) 1 1) (h:LayI T lay n₀ b v0 W₀ wr st vq vc qs cs) (hl:qs.length<=999999) (hq:qs'=qs++[x])
  (hk:∀ v' w',LayI T lay n₀ b v0 W₀ w' st v' vc qs' cs->wpList Tryz.prog ops Q rest (a.put o.dst v') w') :
  wpList Tryz.prog ops Q (o :: rest) a (wr.alloc (.cells #[.int .i64 x] 2)):=by
 have k1:Kept wr (wr.alloc (.cells #[.int .i64 x] 2)):=Td.alloc _ _ _;refine wpList_append_reads hgd s y ho W₀.heap.size vq qs.length (cellsOf qs) hs (h.q.kept k1) _ [x] 1 hx (Reads.new wr 2 [x]) (fun e=>by cases e) (by simp;omega) (Nat.le_trans h.turned.size k1.size) ?_;intro v2 w2 hown hg hat;refine hk v2 w2 ((h.kept k1).grow ?_ hg hat);subst hq;show World.ownsRow _ _ 2 1 _ (qs++[x]).length (cellsOf (qs++[x]));rw [List.length_append,cellsOf,List.map_append];exact hown
theorem wpList_append_c {T:TypeId} {lay:Value->Int->Int->Int->Int->Array Value} {n₀ b:Nat} {v0:Value} {W₀ wr:World} {st:Mst} {vq vc:Value} {qs cs cs':List Int} {x:Int} {ops:Array Oper} {rest:List Oper} {o:Oper} {a:Act} {Q:Exit->Act->World->Prop} (hgd:o.guard=none) (s y:Operand)
  (ho:o.op=.call { callee:=.builtin .append,args:=#[s,y],argTypes:=#[56,56] }) (hs:a.eval s=vc) (hx:a.eval y=.slice (some ⟨wr.heap.size,0,none⟩) 1 1) (h:LayI T lay n₀ b v0 W₀ wr st vq vc qs cs) (hl:cs.length<=999999) (hq:cs'=cs++[x])
  (hk:∀ v' w',LayI T lay n₀ b v0 W₀ w' st vq v' qs cs'->wpList Tryz.prog ops Q rest (a.put o.dst v') w') :
  wpList Tryz.prog ops Q (o :: rest) a (wr.alloc (.cells #[.int .i64 x] 2)):=
 wpList_append_q hgd s y ho hs hx h.swap hl hq (fun v' w' h'=>hk v' w' h'.swap)
def InnI (T:TypeId) (lay:Value->Int->Int->Int->Int->Array Value) (f n₀ b:Nat) (v0:Value) (W₀:World) (s:Mst) (ps:List (Int × Int)) (vq vc:Value) (t:Nat) (wr:World):Prop:=
 LayI T lay n₀ b v0 W₀ wr (kidF (layF f) ps s t).2 vq vc (lowL ps t) (kidF (layF f) ps s t).1
theorem LayI.list {T:TypeId} {lay:Value->Int->Int->Int->Int->Array Value} {n₀ b:Nat} {v0:Value} {W₀ W:World} {st:Mst} {vq vc:Value} {qs cs:List Int} {bl off:Nat} {ps:List (Int × Int)} (h:LayI T lay n₀ b v0 W₀ W st vq vc qs cs) (hr:PReads W₀ (some ⟨bl,off,none⟩) ps) (hf:¬ Foot b v0 bl) (F S:Nat):PReads W (some ⟨bl,off+F * 2,none⟩) ((ps.drop F).take S):=
 (hr.turned h.turned (fun k _ ⟨ad,e,e'⟩ hk=>by cases e;exact hf (by rw [<- e'] at hk;exact hk))).sub F S
end
namespace Pt
open Go.ChangeShapes Go.WideShapes Go.ChangeAt Go.RowKit
theorem wf_int {a:Int} (h:-9223372036854775808<=a) (h':a<=9223372036854775807):(Lit.int .i64 a).wf=true:=by
 have h1:IntKind.min .i64=-9223372036854775808:=by decide
 have h2:IntKind.max .i64=9223372036854775807:=by decide
 simp only [Lit.wf,h1,h2,Bool.and_eq_true,decide_eq_true_eq];exact ⟨h,h'⟩
end Pt
section
set_option maxRecDepth 20000
def ascB (ps:List (Int × Int)):Bool:=decide (ps.length<=16384/\(ps.map Prod.fst).Pairwise (· < ·))
def buildS (s:Mst) (ps:List (Int × Int)):(Int × Bool) × Mst:=
 if ascB ps=true/\Pt.celZ ps.length<=s.size - s.xs.length then (((layF (ps.length+1) s ps).1,true),(layF (ps.length+1) s ps).2) else ((0,false),s)
end
section
set_option maxRecDepth 20000
theorem record_d (W:World) (n₀ b:Nat) (v:Value) (s:Mst) (k:Int) (a:Option Addr) (ws:List Int) (M cw:Nat) (hM:ws.length=M) (h:DMem W n₀ b v s) (hn:n₀<=W.heap.size) (hr:Reads W a ws) (hl:M<=1000000) (hs:∀ ad,a=some ad->ad.block≠b) (z:Int) (s':Mst) (e1:recS s k ws=(z,s')) :
  ∃ x y,Rf.ofZ k x=z/\Calls Tryz.prog 38 #[.pointer (some ⟨b,0,none⟩),.slice a M cw] W fun e W'=>e=.returned (.tuple #[.int .i64 x,.bool y])/\Does 126 layD n₀ b v s' W W':=by
 subst hM;refine ⟨s.next ws,s.fits ws.length,congrArg Prod.fst e1,?_⟩
 have:=make_d W n₀ b v s a ws cw h hn hr (by unfold maxLen;omega) (fun _=>hs)
 rw [show s.make ws=s' from congrArg Prod.snd e1] at this;exact this
def LayCD (f:Nat):Prop:=∀ (W:World) (n₀ b:Nat) (v:Value) (s:Mst) (a:Option Addr) (ps:List (Int × Int)) (M cap:Nat) (_:DMem W n₀ b v s) (_:n₀<=W.heap.size) (_:PReads W a ps) (_:ps.length=M) (_:M<=cap) (_:cap<=maxLen) (_:M<=16384) (_:M < f) (_:ps≠[]->∀ ad,a=some ad->¬ Foot b v ad.block) (z:Int) (s':Mst) (_:layF f s ps=(z,s')),
  Calls Tryz.prog 142 #[.pointer (some ⟨b,0,none⟩),.slice a M cap] W fun e W'=>e=.returned (.int .i64 z)/\Does 126 layD n₀ b v s' W W'
set_option maxHeartbeats 4000000 in
theorem buildInner_d (f:Nat) (ih:LayCD f) (W:World) (n₀ b:Nat) (v:Value) (s:Mst) (a:Option Addr) (ps:List (Int × Int)) (M cap:Nat) (h:DMem W n₀ b v s) (hn:n₀<=W.heap.size) (hr:PReads W a ps) (hM:ps.length=M) (hc:M<=cap) (hcm:cap<=maxLen) (hm:M<=16384) (hf:M < f+1) (h2:2<=M) (ha:∀ ad,a=some ad->¬ Foot b v ad.block) (z:Int) (s':Mst) (e1:layF (f+1) s ps=(z,s')) :
  Calls Tryz.prog 142 #[.pointer (some ⟨b,0,none⟩),.slice a M cap] W fun e W'=>e=.returned (.int .i64 z)/\Does 126 layD n₀ b v s' W W':=by
 have db:=Pt.deg_bound (n:=(M:Int)) (by omega) (by omega);obtain ⟨D,hD⟩:∃ D:Nat,Pt.degZ (M:Int)=(D:Int):=⟨(Pt.degZ M).toNat,by omega⟩;rw [hD] at db;obtain ⟨d1,d2,d3⟩:=db;have e2:recS (kidF (layF f) ps s D).2 3 (innerL (M:Int) (lowL ps D) (kidF (layF f) ps s D).1)=(z,s'):=by
  rw [layF_succ,hM,if_neg (by omega),if_neg (by omega),hD] at e1;exact e1
 obtain ⟨bl,off,rfl⟩:∃ bl off,a=some ⟨bl,off,none⟩:=by
  rcases hr with e | ⟨bl,off,e,_⟩
  ·rw [e] at hM;simp at hM;omega
  ·exact ⟨bl,off,e⟩
 have hcm':(cap:Int)<=9223372036854775807:=by unfold maxLen at hcm;omega
 have hb1:bl < W.heap.size:=by
  obtain ⟨p,hp⟩:∃ p,ps[0]? = some p:=⟨_,List.getElem?_eq_getElem (by omega)⟩;obtain ⟨bl',off',e,h1,_⟩:=hr.at hp;cases e;exact h1
 have HA:=gh (ha _ rfl);have HB:=gh hb1;have HR:=gh hr;have HM:=gh hM;have H:=gh h;have HN:=gh hn;have IH:=gh ih;have HD:=gh hD;have E2:=gh e2;have HCM:=gh hcm;have HF:=gh hf;have S1:Hid (InnI 126 layD f n₀ b v W s ps (.slice none 0 0) (.slice none 0 0) 0 W):=gh (LayI.start h (Kept.refl W) (World.ownsRow_nil _ _ _ _) (World.ownsRow_nil _ _ _ _) (fun k hk=>by simp [Value.ownBlock] at hk));have FZ:Hid (Pt.aheadZ (M:Int) 0=0):=gh (Pt.ahead_zero (by rw [hD];omega));have g0:((M:Int) == 0)=false:=by simp only [beq_eq_false_iff_ne,ne_eq];omega
 have g1:((M:Int) == 1)=false:=by simp only [beq_eq_false_iff_ne,ne_eq];omega
 clear h hr ha hM ih e1 e2 hD hcm hf hn hb1;go_enter Tryz.func142,Tryz.ntmps142;go_wp2
 go_loopw [10,11,12,13,14,15] (fun vq vc at_ i _ _ wr=>∃ (t:Nat) (x:Int),t<=D/\i=.int .i64 t/\at_=.int .i64 x/\0<=x/\x<=(M:Int)/\Hid (Pt.aheadZ (M:Int) (t:Int)=x)/\Hid (InnI 126 layD f n₀ b v W s ps vq vc t wr)) (fun _ _ _ i _ _ _=>D - (intOf i).toNat)
 case atStart=>exact ⟨0,0,Nat.zero_le _,rfl,rfl,by omega,by omega,FZ,S1⟩
 case round=>
  obtain ⟨t,x,ht,rfl,rfl,x0,x1,HX,HI⟩:=hrel;clear S1 FZ
  by_cases hlt:t < D
  ·have pin:=part_in (n:=(M:Int)) (i:=(t:Int)) (by omega) (by rw [HD.o];omega);have sb:=Pt.size_bound (n:=(M:Int)) (i:=(t:Int)) (by omega) (by rw [HD.o];omega);obtain ⟨F,hF⟩:∃ F:Nat,Pt.fromZ (M:Int) (t:Int)=(F:Int):=⟨(Pt.fromZ (M:Int) (t:Int)).toNat,by omega⟩;obtain ⟨S,hS⟩:∃ S:Nat,Pt.sizeZ (M:Int) (t:Int)=(S:Int):=⟨(Pt.sizeZ (M:Int) (t:Int)).toNat,by omega⟩;rw [hF,hS] at pin;rw [hS] at sb;have hown:partL ps (t:Int)=(ps.drop F).take S:=by unfold partL;rw [HM.o,hF,hS];rfl
   obtain ⟨own,ho⟩:∃ own,partL ps (t:Int)=own:=⟨_,rfl⟩;have OWL:Hid (own.length=S):=gh (by rw [<- ho,hown,List.length_take,List.length_drop,HM.o];omega);have OWN:Hid (own=(ps.drop F).take S):=gh (by rw [<- ho,hown]);unfold InnI at HI;have KS:Hid (kidF (layF f) ps s (t+1)=((kidF (layF f) ps s t).1++[(layF f (kidF (layF f) ps s t).2 own).1],(layF f (kidF (layF f) ps s t).2 own).2)):=gh (by rw [kidF,ho]);have LS:Hid (0 < t->lowL ps (t+1)=lowL ps t++[(own.headD (0,0)).1]):=gh (fun h=>by rw [lowL,if_neg (by omega),ho]);have CL:=kidF_len (layF f) ps s t;have QL:=lowL_len ps t;obtain ⟨cs,hcs⟩:∃ cs,(kidF (layF f) ps s t).1=cs:=⟨_,rfl⟩;obtain ⟨st,hst⟩:∃ st,(kidF (layF f) ps s t).2=st:=⟨_,rfl⟩;obtain ⟨qs,hqs⟩:∃ qs,lowL ps t=qs:=⟨_,rfl⟩;obtain ⟨zc,sc,hz⟩:∃ zc sc,layF f st own=(zc,sc):=⟨_,_,rfl⟩;rw [hcs,hst,hz] at KS;rw [hqs] at LS QL;rw [hcs] at CL;rw [hcs,hst,hqs] at HI;have HZ:=gh hz;have HFF:=gh hF;have HSS:=gh hS;have HCL:=gh CL;have HQL:=gh QL;obtain ⟨p1,p2,p3⟩:=pin;have p4:F+S<=M:=by omega
   have p5:1<=S:=by omega
   have p6:S < M:=by omega
   have i1:(t:Int) < (D:Int):=by omega
   have xF:x=(F:Int):=by rw [<- HX.o,<- hF,Pt.from_some (by omega) (by rw [HD.o];omega)]
   have XN:Hid (Pt.aheadZ (M:Int) ((t+1:Nat):Int)=(F:Int)+(S:Int)):=gh (by rw [Int.natCast_add,Int.natCast_one,Pt.ahead_step (by omega) (by rw [HD.o];omega),HX.o,hS,xF]);subst xF;clear hown ho hcs hst hqs hz hF hS sb p1 p2 p3 CL QL HX x0 x1;go_wp2_with (fail);refine (Pt.deg_r (M:Int) (I64.wf ⟨by omega,by omega⟩) _).mono ?_;rw [HD.o];rintro e w' ⟨rfl,rfl⟩;go_wp2_with (fail);refine (Pt.size_r (M:Int) (t:Int) (I64.wf ⟨by omega,by omega⟩) _).mono ?_;rw [HSS.o];rintro e w2 ⟨rfl,rfl⟩;have PR:=LayI.list HI.o HR.o HA.o F S;rw [<- OWN.o] at PR;have c0:=(preads_head PR (by have:=OWL.o;omega)).1;obtain ⟨hk,hhk⟩:∃ x,(own.headD (0,0)).1=x:=⟨_,rfl⟩;rw [hhk] at c0 LS;clear PR hhk
   by_cases g0:(0:Int) < (t:Int)
   ·go_wp2_with (at_builtin;refine Stop.out ?_);refine ⟨?_⟩;refine wpList_append_q rfl _ _ rfl rfl rfl HI.o (by have:=HQL.o;omega) rfl ?_;intro vq' wq iq;have IQ:=gh iq;clear iq HI c0;go_wp2_with (fail);obtain ⟨v1,m1,f1,st1⟩:=IQ.o.step;have PR1:=LayI.list IQ.o HR.o HA.o F S;rw [<- OWN.o] at PR1;refine (IH.o _ n₀ b v1 st _ own S (cap - F) m1 (Nat.le_trans HN.o IQ.o.turned.size) PR1 OWL.o (by omega) (by have:=HCM.o;omega) (by omega) (by have:=HF.o;omega) (fun _ ad e hk=>by
     cases e;rcases f1 _ hk with e | e
     ·exact HA.o e
     ·have:=HB.o;exact absurd e (by simp only;omega)) zc sc HZ.o).mono ?_
    rintro e w3 ⟨rfl,d3⟩;have I3:=gh (st1 _ _ d3);clear d3 st1 m1 f1 PR1 IQ;go_wp2_with (at_builtin;refine Stop.out ?_);refine ⟨?_⟩;refine wpList_append_c rfl _ _ rfl rfl rfl I3.o (by have:=HCL.o;omega) rfl ?_;intro v4 w4 i4;have I4:=gh i4;clear i4 I3;go_wp2;exact ⟨⟨t+1,(F:Int)+S,by omega,by simp,rfl,by omega,by omega,XN,gh (by unfold InnI;rw [KS.o,LS.o (by omega)];exact I4.o)⟩,by simp [intOf];omega⟩
   ·have z0:t=0:=by omega
    have QN:Hid (lowL ps (t+1)=qs):=gh (by
     have h1:=lowL_len ps (t+1);have h2:=HQL.o;rw [z0] at h1 h2;rw [z0,List.length_eq_zero_iff.1 h1,List.length_eq_zero_iff.1 h2])
    clear c0 z0;go_wp2_with (fail);obtain ⟨v1,m1,f1,st1⟩:=HI.o.step;have PR1:=LayI.list HI.o HR.o HA.o F S;rw [<- OWN.o] at PR1;refine (IH.o _ n₀ b v1 st _ own S (cap - F) m1 (Nat.le_trans HN.o HI.o.turned.size) PR1 OWL.o (by omega) (by have:=HCM.o;omega) (by omega) (by have:=HF.o;omega) (fun _ ad e hk=>by
     cases e;rcases f1 _ hk with e | e
     ·exact HA.o e
     ·have:=HB.o;exact absurd e (by simp only;omega)) zc sc HZ.o).mono ?_
    rintro e w3 ⟨rfl,d3⟩;have I3:=gh (st1 _ _ d3);clear d3 st1 m1 f1 PR1 HI;go_wp2_with (at_builtin;refine Stop.out ?_);refine ⟨?_⟩;refine wpList_append_c rfl _ _ rfl rfl rfl I3.o (by have:=HCL.o;omega) rfl ?_;intro v4 w4 i4;have I4:=gh i4;clear i4 I3;go_wp2;exact ⟨⟨t+1,(F:Int)+S,by omega,by simp,rfl,by omega,by omega,XN,gh (by unfold InnI;rw [KS.o,QN.o];exact I4.o)⟩,by simp [intOf];omega⟩
  ·obtain rfl:t=D:=by omega
   unfold InnI at HI;have CL:=kidF_len (layF f) ps s t;have QL:=lowL_len ps t;obtain ⟨cs,hcs⟩:∃ cs,(kidF (layF f) ps s t).1=cs:=⟨_,rfl⟩;obtain ⟨st,hst⟩:∃ st,(kidF (layF f) ps s t).2=st:=⟨_,rfl⟩;obtain ⟨qs,hqs⟩:∃ qs,lowL ps t=qs:=⟨_,rfl⟩;rw [hcs,hst,hqs] at HI E2;rw [hqs] at QL;rw [hcs] at CL;obtain ⟨aq,cq,rfl,rq,q0⟩:=HI.o.q.form;obtain ⟨ac,cc,rfl,rc,c0⟩:=HI.o.c.form;have HIN:=gh (inner_r _ (M:Int) aq qs cq ac cs cc rq rc q0 c0 (by omega) (by omega));have WL:Hid ((innerL (M:Int) qs cs).length<=1000000):=gh (by rw [innerL_length];omega);obtain ⟨ws,hws⟩:∃ ws,innerL (M:Int) qs cs=ws:=⟨_,rfl⟩;rw [hws] at HIN E2 WL;clear hcs hst hqs hws rq rc q0 c0 CL QL;go_wp2_with (fail);refine (Pt.deg_r (M:Int) (I64.wf ⟨by omega,by omega⟩) _).mono ?_;rw [HD.o];rintro e w' ⟨rfl,rfl⟩;go_wp2_with (fail);refine HIN.o.mono ?_;intro e w1 hf;obtain ⟨a1,cap1,rfl,r1,-,-,lo1,-,k1⟩:=hf.form;have I1:=gh (HI.o.kept k1);have R1:=gh r1;have LO:Hid (∀ ad,a1=some ad->ad.block≠b):=gh (fun ad e=>by
    obtain ⟨v1,m1,_⟩:=HI.o.mem;have e1:=lo1 ad e;have e2:=(m1.lt b (.inl rfl)).2;omega)
   clear hf k1 r1 lo1 HI HIN;go_wp2_with (fail);obtain ⟨v1,m1,f1,st1⟩:=I1.o.step;obtain ⟨x2,y2,ex,hx2⟩:=record_d _ n₀ b v1 st 3 a1 ws ws.length cap1 rfl m1 (Nat.le_trans HN.o I1.o.turned.size) R1.o WL.o LO.o z s' E2.o;refine hx2.mono ?_;rintro e w3 ⟨rfl,d3⟩;have D3:=gh (Does.then I1.o.turned f1 d3);have EX:=gh ex;clear d3 st1 m1 f1 hx2 ex;go_wp2_with (fail);refine (ofr_c 3 x2 z EX.o _).mono ?_;rintro e w4 ⟨rfl,rfl⟩;go_wp2;go_ret;exact ⟨rfl,D3.o⟩
set_option maxHeartbeats 4000000 in
theorem build_d:∀ f,LayCD f
 | 0=>fun _ _ _ _ _ _ _ _ _ _ _ _ _ _ _ _ h=>by omega
 | f+1=>fun W n₀ b v s a ps M cap h hn hr hM hc hcm hm hf ha z s' e1=>by
  have ih:=build_d f;have hcm':(cap:Int)<=9223372036854775807:=by unfold maxLen at hcm;omega
  by_cases h0:M=0
  ·have e2:recS s 1 [0]=(z,s'):=by rw [<- e1,layF_succ,if_pos (by omega)]
   have H:=gh h;have HN:=gh hn;have E2:=gh e2;have g0:((M:Int) == 0)=true:=by simp [h0]
   clear h hn hr hM ha e1 e2 ih hcm;go_enter Tryz.func142,Tryz.ntmps142;go_wp2_with (fail);refine (empty_r W).mono ?_;intro e w1 hff;obtain ⟨a1,cap1,rfl,r1,-,-,lo1,-,k1⟩:=hff.form;have R1:=gh r1;have K1:=gh k1;have LO:Hid (∀ ad,a1=some ad->ad.block≠b):=gh (fun ad e=>by
    have e1:=lo1 ad e;have e2:=(H.o.lt b (.inl rfl)).2;omega)
   clear hff k1 r1 lo1;go_wp2_with (fail);obtain ⟨x2,y2,ex,hx2⟩:=record_d _ n₀ b v s 1 a1 [0] _ cap1 rfl (H.o.kept K1.o) (Nat.le_trans HN.o K1.o.size) R1.o (by decide) LO.o z s' E2.o;refine hx2.mono ?_;rintro e w3 ⟨rfl,d3⟩;have D3:=gh (Does.after K1.o d3);have EX:=gh ex;clear d3 hx2 ex;go_wp2_with (fail);refine (ofr_c 1 x2 z EX.o _).mono ?_;rintro e w4 ⟨rfl,rfl⟩;go_wp2;go_ret;exact ⟨rfl,D3.o⟩
  ·by_cases h1:M=1
   ·subst h1;obtain ⟨p,rfl⟩:∃ p,ps=[p]:=List.length_eq_one_iff.1 hM;have e2:recS s 2 [p.1,p.2]=(z,s'):=by rw [<- e1,layF_succ,if_neg (by simp),if_pos (by simp)];rfl
    obtain ⟨bl,off,rfl⟩:∃ bl off,a=some ⟨bl,off,none⟩:=by
     obtain ⟨bl,off,e,_⟩:=hr.at (j:=0) (p:=p) rfl;exact ⟨bl,off,e⟩
    obtain ⟨c1,c2⟩:=preads_head hr (by simp);simp only [List.headD_cons] at c1 c2;obtain ⟨V,hV⟩:∃ V,W.drew=V:=⟨_,rfl⟩;have kV:Kept W V:=by rw [<- hV];exact Kept.drew _
    have hna:=ha (by simp) _ rfl;have x1:∀ u:Wd (fun U=>Td (Foot b v) V U),u.w.cell? ⟨bl,off,none⟩=some (.int .i64 p.1):=fun u=>u.ok.cell (kV.cell c1 id) hna;have x2:∀ u:Wd (fun U=>Td (Foot b v) V U),u.w.cell? ⟨bl,off+1,none⟩=some (.int .i64 p.2):=fun u=>u.ok.cell (kV.cell c2 id) hna;have HV:=gh hV;have KV:=gh kV;have H:=gh (h.kept kV);have HN:=gh (Nat.le_trans hn kV.size);have E2:=gh e2;obtain ⟨p1,p2⟩:=p;simp only at x1 x2 E2;clear h hn hr hM ha e1 e2 ih hcm c1 c2 hna hV kV;go_enter Tryz.func142,Tryz.ntmps142;go_wp2_with (fail);refine region_wide [0,1,2,3,4,5,6,7,8,9,10,11,12,13,14,15] (fun U=>Td (Foot b v) V U) (by kernel_rfl) (by kernel_rfl) (by rw [HV.o];exact Td.refl _ _) (fun _=>?_);rw [HV.o]
    repeat (refine pq rfl rfl ?_;go_big_quiet_step (fail);refine wpQuiet_nil ?_)
    refine pl rfl rfl ?_;gi_wp2_with (fail);refine ⟨trivial,?_⟩;refine (callsIn_wide.2 (leaf_r V p1 p2)).mono ?_;intro e w1 hff;obtain ⟨a1,cap1,rfl,r1,-,-,lo1,-,k1⟩:=hff.form;have R1:=gh r1;have K1:=gh k1;have LO:Hid (∀ ad,a1=some ad->ad.block≠b):=gh (fun ad e=>by
     have e1:=lo1 ad e;have e2:=(H.o.lt b (.inl rfl)).2;omega)
    clear hff k1 r1 lo1;gi_wp2_with (fail);refine ⟨Wd.mem (K1.o.mono (fun _ _ e=>e.elim)),?_⟩;refine pl rfl rfl ?_;gi_wp2_with (fail);refine ⟨trivial,?_⟩;obtain ⟨x3,y3,ex,hx3⟩:=record_d _ n₀ b v s 2 a1 [p1,p2] _ cap1 rfl (H.o.kept K1.o) (Nat.le_trans HN.o K1.o.size) R1.o (by simp) LO.o z s' E2.o;refine (callsIn_wide.2 hx3).mono ?_;rintro e w3 ⟨rfl,d3⟩;have D3:=gh (Does.after (KV.o.trans K1.o) d3);have T3:Hid (Td (Foot b v) V w3):=gh (by
     obtain ⟨_,_,t3,_⟩:=Does.after K1.o d3;exact t3)
    have EX:=gh ex;clear d3 hx3 ex;gi_wp2_with (fail);refine ⟨Wd.mem T3.o,?_⟩
    repeat (refine pq rfl rfl ?_;go_big_quiet_step (fail);refine wpQuiet_nil ?_)
    refine perm_done ?_;go_wp2_with (fail);refine (ofr_c 2 x3 z EX.o _).mono ?_;rintro e w4 ⟨rfl,rfl⟩;go_wp2;go_ret;exact ⟨rfl,D3.o⟩
   ·exact buildInner_d f ih W n₀ b v s a ps M cap h hn hr hM hc hcm hm hf (by omega) (ha (fun e=>by rw [e] at hM;simp at hM;omega)) z s' e1
end
namespace Pt
open Go.ChangeShapes Go.WideShapes Go.ChangeAt Go.RowKit
theorem cells_rf (f:Nat):∀ (n:Int),n.toNat<=f->(Lit.int .i64 n).wf=true->∀ (w:World),
  Calls Tryz.prog 141 #[.int .i64 n] w fun e w'=>e=.returned (.int .i64 (celZ n))/\w=w':=by
 induction f with
 | zero=>
  intro n hf hn w;have hn':=bounds_i64 hn;clear hn
  by_cases c:n < 0
  ·rw [cel_none (by omega)];go_enter Tryz.func141,Tryz.ntmps141;go_wp2;go_ret;exact ⟨rfl,rfl⟩
  ·obtain rfl:n=0:=by omega
   rw [cel_is_0];go_enter Tryz.func141,Tryz.ntmps141;go_wp2;go_ret;exact ⟨rfl,rfl⟩
 | succ f ih=>
  intro n hf hn w;have hn':=bounds_i64 hn
  by_cases c:n < 0
  ·rw [cel_none (by omega)];clear hn ih;go_enter Tryz.func141,Tryz.ntmps141;go_wp2;go_ret;exact ⟨rfl,rfl⟩
  ·by_cases c1:16384 < n
   ·rw [cel_none (by omega)];clear hn ih;go_enter Tryz.func141,Tryz.ntmps141;go_wp2;go_ret;exact ⟨rfl,rfl⟩
   ·by_cases c2:n < 2
    ·rw [cel_few (by omega) c2];clear hn ih;go_enter Tryz.func141,Tryz.ntmps141;go_wp2;go_ret;exact ⟨rfl,rfl⟩
    ·have hd:=deg_r n hn;have d:=deg_bound (n:=n) (by omega) (by omega);have HE:=gh (cs_end (n:=n) (by omega));obtain ⟨z,ez⟩:∃ z,degZ n=z:=⟨_,rfl⟩;have HZ:=gh ez;rw [ez] at hd d HE;obtain ⟨r,er⟩:∃ r,celZ n=r:=⟨_,rfl⟩;rw [er] at HE ⊢;have hn2:=gh hn;have ih2:=gh ih;clear hn ez er ih;go_enter Tryz.func141,Tryz.ntmps141;go_wp2_with (go_at_call 155;refine (hd _).mono ?_;rintro e w' ⟨rfl,rfl⟩)
     go_loop [3,4] (fun a k=>∃ x y:Int,Hid (4+z * 2+csZ n y=x)/\0<=y/\y<=z/\a=.int .i64 x/\k=.int .i64 y) (fun _ k=>(z - intOf k).toNat)
     case atStart=>exact ⟨4+2 * z,0,gh (by rw [cs_zero (by have:=HZ.o;omega)];omega),by omega,by omega,rfl,rfl⟩
     case round=>
      obtain ⟨x,y,H,y0,y1,rfl,rfl⟩:=hrel
      by_cases g:y < z
      ·have hs:=size_r n y hn2.o;have sb:=size_bound (n:=n) (i:=y) y0 (by have:=HZ.o;omega);have hi:=ih2.o (sizeZ n y) (by omega) (wf_int (by omega) (by omega));have cb:=cel_nat (sizeZ n y);have nb:=cs_nat (n:=n) (i:=y) (by have:=HZ.o;omega) y0 (by have:=HZ.o;omega);have st:=cs_step (n:=n) (i:=y) y0 (by have:=HZ.o;omega);have xb:0<=x/\x<=100000000:=by have:=H.o;omega
       have H2:=gh (show 4+z * 2+csZ n (y+1)=x+celZ (sizeZ n y) by rw [st];have:=H.o;omega);clear st nb H HE HZ ih2;generalize celZ (sizeZ n y)=u at *;generalize sizeZ n y=s at *;go_wp2_with fail;refine (hd _).mono ?_;rintro e w' ⟨rfl,rfl⟩;go_wp2_with fail;refine (hs _).mono ?_;rintro e w' ⟨rfl,rfl⟩;go_wp2_with fail;refine (hi _).mono ?_;rintro e w' ⟨rfl,rfl⟩;go_wp2
       go_round
       case rel=>exact ⟨x+u,y+1,H2,by omega,by omega,rfl,rfl⟩
       case measure=>simp [intOf];omega
      ·obtain rfl:y=z:=by omega
       have e:x=r:=by rw [<- H.o,HE.o]
       subst e;clear H HE HZ ih2;go_wp2_with (go_at_call 155;refine (hd _).mono ?_;rintro e w' ⟨rfl,rfl⟩);go_ret;exact ⟨rfl,rfl⟩
theorem cells_r (n:Int) (hn:(Lit.int .i64 n).wf=true) (w:World) :
  Calls Tryz.prog 141 #[.int .i64 n] w fun e w'=>e=.returned (.int .i64 (celZ n))/\w=w':=cells_rf n.toNat n (Nat.le_refl _) hn w
end Pt
section
set_option maxRecDepth 20000
theorem map_d (W:World) (a:Option Addr) (ps:List (Int × Int)) (M cap:Nat) (hr:PReads W a ps) (hM:ps.length=M) (hc:M<=cap) (hm:M<=5000) (r:Bool) (e1:decide ((ps.map Prod.fst).Pairwise (· < ·))=r) :
  Calls Tryz.prog 138 #[.slice a M cap] W fun e W'=>e=.returned (.bool r)/\∃ m,W'=W.drewN m:=by
 have HR:=gh hr;have HM:=gh hM;have E1:=gh e1;have hm':(M:Int)<=5000:=by omega
 clear hr hM e1;go_enter Tryz.func138,Tryz.ntmps138;go_wp2
 go_loopw [3] (fun i wr=>∃ k d:Nat,(k < M∨k=0)/\i=.int .i64 ((k:Int)+1)/\Hid (Pb.PwTo (ps.map Prod.fst) (k+1))/\wr=W.drewN d) (fun i _=>M+1 - (intOf i).toNat)
 case atStart=>exact ⟨0,0,.inr rfl,rfl,gh (.start _),rfl⟩
 case round=>
  obtain ⟨k,d,hk1,rfl,HP,rfl⟩:=hrel
  by_cases hlt:k+1 < M
  ·obtain ⟨⟨x,xv⟩,hp⟩:∃ p,ps[k+1]? = some p:=⟨_,List.getElem?_eq_getElem (by have:=HM.o;omega)⟩;obtain ⟨⟨y,yv⟩,hq⟩:∃ p,ps[k]? = some p:=⟨_,List.getElem?_eq_getElem (by have:=HM.o;omega)⟩;have hx:(ps.map Prod.fst)[k+1]? = some x:=by rw [List.getElem?_map,hp];rfl
   have hy:(ps.map Prod.fst)[k]? = some y:=by rw [List.getElem?_map,hq];rfl
   obtain ⟨bl,off,rfl,hbl,g1,-⟩:=HR.o.at hp;obtain ⟨bl',off',hbe,_,g3,-⟩:=HR.o.at hq;cases hbe;have i1:(k:Int)+1 < (M:Int):=by omega
   have i3:k+1 < cap:=by omega
   simp only at g1 g3
   by_cases hyx:y < x
   ·have HP2:Hid (Pb.PwTo (ps.map Prod.fst) (k+1+1)):=gh (Pb.pw_snoc HP.o hy hx hyx);have hzy:¬ (x<=y):=by omega
    clear hp hq hx hy hk1 HP hyx;go_wp2;go_quiet (fail);go_wp2;exact ⟨⟨k+1,_,.inl (by omega),by simp,HP2,rfl⟩,by simp [intOf];omega⟩
   ·have HF:Hid (r=false):=gh (by rw [<- E1.o];exact decide_eq_false (Pb.pw_not hy hx (by omega)));have hyz':x<=y:=by omega
    clear hp hq hx hy hk1 HP hyx;go_wp2;go_quiet (fail);go_wp2;go_ret;exact ⟨by rw [HF.o];rfl,_,World.drewN_drewN ..⟩
  ·have i1:¬ ((k:Int)+1 < (M:Int)):=by omega
   have HF:Hid (r=true):=gh (by
    rw [<- E1.o];refine decide_eq_true ?_
    have:((ps.map Prod.fst).take (k+1)).Pairwise (· < ·):=HP.o
    rwa [List.take_of_length_le (by rw [List.length_map,HM.o];omega)] at this)
   clear HP;go_wp2;go_ret;exact ⟨by rw [HF.o];rfl,_,rfl⟩
theorem asc_d (W:World) (a:Option Addr) (ps:List (Int × Int)) (M cap:Nat) (hr:PReads W a ps) (hM:ps.length=M) (hc:M<=cap) (hm:M<=5000) (r:Bool) (e1:ascB ps=r) :
  Calls Tryz.prog 112 #[.slice a M cap] W fun e W'=>e=.returned (.bool r)/\Kept W W':=by
 have HD:=gh (map_d W a ps M cap hr hM hc hm r (by
  rw [<- e1];unfold ascB;exact decide_eq_decide.2 ⟨fun h=>⟨by omega,h⟩,fun h=>h.2⟩))
 have i1:(M:Int)<=16384:=by omega
 clear hr hM e1 hm;cases r with
 | true=>
  go_enter Tryz.func112,Tryz.ntmps112;go_wp2_with (fail);refine HD.o.mono ?_;rintro e w1 ⟨rfl,m,rfl⟩;go_wp2;go_ret;exact ⟨rfl,Kept.drewN _ _⟩
 | false=>
  go_enter Tryz.func112,Tryz.ntmps112;go_wp2_with (fail);refine HD.o.mono ?_;rintro e w1 ⟨rfl,m,rfl⟩;go_wp2;go_ret;exact ⟨rfl,Kept.drewN _ _⟩
set_option maxHeartbeats 4000000 in
theorem buildA_d (W:World) (n₀ b:Nat) (v:Value) (s:Mst) (a:Option Addr) (ps:List (Int × Int)) (M cap:Nat) (h:DMem W n₀ b v s) (hn:n₀<=W.heap.size) (hr:PReads W a ps) (hM:ps.length=M) (hc:M<=cap) (hcm:cap<=maxLen) (hm5:M<=5000) (ha:ps≠[]->∀ ad,a=some ad->¬ Foot b v ad.block) (z:Int) (r:Bool) (s':Mst) (e1:buildS s ps=((z,r),s')) :
  Calls Tryz.prog 114 #[.pointer (some ⟨b,0,none⟩),.slice a M cap] W fun e W'=>e=.returned (.tuple #[.int .i64 z,.bool r])/\Does 126 layD n₀ b v s' W W':=by
 obtain ⟨V,hV⟩:∃ V,W.drew=V:=⟨_,rfl⟩;have kV:Kept W V:=by rw [<- hV];exact Kept.drew _
 have H:=gh (h.kept kV);have HRG:=fun r=>asc_d V a ps M cap (hr.kept kV) hM hc hm5 r;have hcm':(M:Int)<=9223372036854775807:=by unfold maxLen at hcm;omega
 have hl:=h.len;have hroom:=h.room;have htop:=h.top;obtain ⟨a0,c0,rfl,_⟩:=h.form;have x1:∀ u:Wd (fun U=>Kept V U),u.w.cell? ⟨b,0,none⟩=some (.int .i64 s.size):=fun u=>(DMem.opened (H.o.kept u.ok)).1.2.1;have x2:∀ u:Wd (fun U=>Kept V U),u.w.cell? ⟨b,1,none⟩=some (.slice a0 s.xs.length c0):=fun u=>(DMem.opened (H.o.kept u.ok)).1.1;have HV:=gh hV;have KV:=gh kV;cases hb:ascB ps with
 | false=>
  have HR:=gh (HRG false hb);rw [buildS,if_neg (by rw [hb];simp)] at e1;simp only [Prod.mk.injEq] at e1;obtain ⟨⟨rfl,rfl⟩,rfl⟩:=e1;clear h hn hr hM hcm ha HRG hb hV kV;go_enter Tryz.func114,Tryz.ntmps114;go_wp2_with (fail);refine region_wide [0,1,2,3,4,5,7,8,9,10,11,12,13,14,15,16,6,17,18] (fun U=>Kept V U) (by kernel_rfl) (by kernel_rfl) (by rw [HV.o];exact Kept.refl _) (fun _=>?_);rw [HV.o];refine pq rfl rfl ?_;go_big_quiet_step (fail);refine wpQuiet_nil ?_;refine pl rfl rfl ?_;gi_wp2_with (fail);refine ⟨trivial,?_⟩;refine (callsIn_wide.2 HR.o).mono ?_;rintro e w1 ⟨rfl,k1⟩;have K1:=gh k1;clear k1;gi_wp2_with (fail);refine ⟨Wd.mem K1.o,?_⟩
  repeat (refine pq rfl rfl ?_;go_big_quiet_step (fail);refine wpQuiet_nil ?_)
  refine Go.Proofs.YtoaicedkepcalaaGreat.ps rfl rfl rfl (Wd.mem K1.o) ?_;go_big_quiet_step (fail);refine wpQuiet_nil ?_
  repeat (refine pq rfl rfl ?_;go_big_quiet_step (fail);refine wpQuiet_nil ?_)
  refine perm_done ?_;have D1:=gh (Does.same (H.o.kept K1.o) ((KV.o.trans K1.o).mono (fun _ _ e=>e.elim)));go_wp2
  go_ret2
  exact ⟨rfl,D1.o⟩
 | true=>
  have HR:=gh (HRG true hb);have hm:M<=16384:=by omega
  have HC:=gh (Pt.cells_r (M:Int) (I64.wf ⟨by omega,by omega⟩));have cb:=Pt.cel_nat (M:Int);obtain ⟨C,hC⟩:∃ C,Pt.celZ (M:Int)=C:=⟨_,rfl⟩;rw [hC] at HC cb
  by_cases hfit:C<=s.size - (s.xs.length:Int)
  ·rw [buildS,if_pos ⟨hb,by rw [hM,hC];exact hfit⟩,hM] at e1;simp only [Prod.mk.injEq] at e1;obtain ⟨⟨e1,rfl⟩,e2⟩:=e1;have e3:layF (M+1) s ps=(z,s'):=by rw [<- e1,<- e2]
   have HLAY:Hid (∀ w1,Kept V w1->Calls Tryz.prog 142 #[.pointer (some ⟨b,0,none⟩),.slice a M cap] w1 fun e W'=>e=.returned (.int .i64 z)/\Does 126 layD n₀ b (.slice a0 s.xs.length c0) s' w1 W'):=gh (fun w1 k1=>build_d (M+1) w1 n₀ b _ s a ps M cap (H.o.kept k1) (Nat.le_trans hn (KV.o.trans k1).size) (hr.kept (KV.o.trans k1)) hM hc hcm hm (by omega) ha z s' e3);have g1:¬ s.size - (s.xs.length:Int) < C:=by omega
   have g2:decide (s.size - (s.xs.length:Int) < C)=false:=decide_eq_false g1;clear e1 e2 e3;clear h hn hr hM hcm ha HRG hb hV kV hC hm;go_enter Tryz.func114,Tryz.ntmps114;go_wp2_with (fail);refine region_wide [0,1,2,3,4,5,7,8,9,10,11,12,13,14,15,16,6,17,18] (fun U=>Kept V U) (by kernel_rfl) (by kernel_rfl) (by rw [HV.o];exact Kept.refl _) (fun _=>?_);rw [HV.o];refine pq rfl rfl ?_;go_big_quiet_step (fail);refine wpQuiet_nil ?_;refine pl rfl rfl ?_;gi_wp2_with (fail);refine ⟨trivial,?_⟩;refine (callsIn_wide.2 HR.o).mono ?_;rintro e w1 ⟨rfl,k1⟩;have K1:=gh k1;clear k1;gi_wp2_with (fail);refine ⟨Wd.mem K1.o,?_⟩
   repeat (refine pq rfl rfl ?_;go_big_quiet_step (fail);refine wpQuiet_nil ?_)
   refine pl rfl rfl ?_;gi_wp2_with (fail);refine ⟨trivial,?_⟩;refine (callsIn_wide.2 (HC.o w1)).mono ?_;rintro e w2 ⟨rfl,rfl⟩;gi_wp2_with (fail);refine ⟨Wd.mem K1.o,?_⟩
   repeat (refine pq rfl rfl ?_;go_big_quiet_step (fail);refine wpQuiet_nil ?_)
   refine perm_done ?_;go_wp2_with (fail);refine (HLAY.o _ K1.o).mono ?_;rintro e w4 ⟨rfl,d4⟩;have D4:=gh (Does.after (KV.o.trans K1.o) d4);clear d4;go_wp2
   go_ret2
   exact ⟨rfl,D4.o⟩
  ·rw [buildS,if_neg (by rw [hM,hC];exact fun h=>hfit h.2)] at e1;simp only [Prod.mk.injEq] at e1;obtain ⟨⟨rfl,rfl⟩,rfl⟩:=e1;have g1:s.size - (s.xs.length:Int) < C:=by omega
   have g2:decide (s.size - (s.xs.length:Int) < C)=true:=decide_eq_true g1;clear h hn hr hM hcm ha HRG hb hV kV hC hm;go_enter Tryz.func114,Tryz.ntmps114;go_wp2_with (fail);refine region_wide [0,1,2,3,4,5,7,8,9,10,11,12,13,14,15,16,6,17,18] (fun U=>Kept V U) (by kernel_rfl) (by kernel_rfl) (by rw [HV.o];exact Kept.refl _) (fun _=>?_);rw [HV.o];refine pq rfl rfl ?_;go_big_quiet_step (fail);refine wpQuiet_nil ?_;refine pl rfl rfl ?_;gi_wp2_with (fail);refine ⟨trivial,?_⟩;refine (callsIn_wide.2 HR.o).mono ?_;rintro e w1 ⟨rfl,k1⟩;have K1:=gh k1;clear k1;gi_wp2_with (fail);refine ⟨Wd.mem K1.o,?_⟩
   repeat (refine pq rfl rfl ?_;go_big_quiet_step (fail);refine wpQuiet_nil ?_)
   refine pl rfl rfl ?_;gi_wp2_with (fail);refine ⟨trivial,?_⟩;refine (callsIn_wide.2 (HC.o w1)).mono ?_;rintro e w2 ⟨rfl,rfl⟩;gi_wp2_with (fail);refine ⟨Wd.mem K1.o,?_⟩
   repeat (refine pq rfl rfl ?_;go_big_quiet_step (fail);refine wpQuiet_nil ?_)
   refine perm_done ?_;have D1:=gh (Does.same (H.o.kept K1.o) ((KV.o.trans K1.o).mono (fun _ _ e=>e.elim)));go_wp2
   go_ret2
   exact ⟨rfl,D1.o⟩
end
section
structure DCk (w0 W:World) (b:Nat) (s:Mst) (g:Nat) (t:Tk):Prop where
 mem0:DM w0 b s
 ok:s.ok
 kept:Kept w0 W
 hg:w0.heap.size<=g
 row:W.rowIs g 4 (s.xs.length+1) (fun j=>.bool (t j))
namespace DCk
variable {w0 W W':World} {b g:Nat} {s:Mst} {t t':Tk}
theorem mem (h:DCk w0 W b s g t):DM W b s:=h.mem0.kept h.kept
theorem put (h:DCk w0 W b s g t) (i:Nat) (e:(fun j=>if j=i then true else t j)=t'):DCk w0 (W.setCell ⟨g,i,none⟩ (.bool true)) b s g t':=by
 have T:Td (fun k=>k=g) W (W.setCell ⟨g,i,none⟩ (.bool true)):=Td.setCell W ⟨g,i,none⟩ (.bool true) rfl;refine ⟨h.mem0,h.ok,h.kept.did h.hg T,h.hg,?_⟩;refine (h.row.set i (.bool true)).congr (fun j _=>?_);rw [<- e]
 by_cases e:j=i
 ·simp [e]
 ·simp [e]
theorem cells (h:DM W b s):∃ a cap,W.cell? ⟨b,1,none⟩=some (.slice a s.xs.length cap)/\Reads W a s.xs:=by
 obtain ⟨n₀,v,s0,e,h⟩:=h;obtain ⟨a,cap,rfl,h2,_,_⟩:=h.form;rw [<- e];exact ⟨a,cap,(DMem.opened h).1.1,h2⟩
end DCk
def DPost (w0 W:World) (b:Nat) (s:Mst) (g:Nat) (r:Option Tk) (e:Ending) (W':World):Prop:=
 e=.returned (.bool r.isSome)/\Td (fun i=>i=g) W W'/\∃ t',DCk w0 W' b s g t'/\∀ u,r=some u->t'=u
abbrev metS (s:Mst) (g:Nat):Value:=.slice (some ⟨g,0,none⟩) (s.xs.length+1) (s.xs.length+1)
theorem take_d (w0 W:World) (b:Nat) (s:Mst) (g:Nat) (t:Tk) (C:DCk w0 W b s g t) (a n:Nat) (h1:1<=a) (h2:a<=100000) (h3:1<=n) (h4:n<=500000000) (r:Option Tk) (e1:takeO (s.xs.length+1) t a n=r) :
  Calls Tryz.prog 177 #[.pointer (some ⟨b,0,none⟩),.int .i64 (a:Int),.int .i64 (n:Int),metS s g] W (DPost w0 W b s g r):=by
 obtain ⟨la,lc,c1,_⟩:=DCk.cells C.mem;have HL:=gh C.ok.2;have H:=gh C;obtain ⟨N,hN⟩:∃ N,s.xs.length=N:=⟨_,rfl⟩;have hN2:N<=65536:=by rw [<- hN];exact HL.o
 have HN:=gh hN;unfold metS;rw [hN] at c1 ⊢
 by_cases h5:a+n<=N+1
 ·have e2:r=if freeB t a n=true then some (takeT t a n) else none:=by
   rw [<- e1,hN];unfold takeO;have d1:decide (1<=n)=true:=by simp;omega
   have d2:decide (a+n<=N+1)=true:=by simp;omega
   rw [d1,d2];rfl
  have E2:=gh e2;have HS:Hid (DCk w0 W b s g (takeT t a 0)):=gh (by rw [takeT_zero];exact C);have i0:¬ ((N:Int) < (a:Int)+n - 1):=by omega
  have i1:¬ ((a:Int) < 1):=by omega
  clear C e1 e2 hN;go_enter Tryz.func177,Tryz.ntmps177;go_wp2
  go_loopw [9] (fun v wr=>∃ k:Nat,k<=n/\v=.int .i64 ((a:Int)+k)/\Hid (freeB t a k=true)/\Hid (DCk w0 wr b s g (takeT t a k))/\Hid (Td (fun i=>i=g) W wr)) (fun v _=>n+a - (intOf v).toNat)
  case atStart=>exact ⟨0,by omega,by simp,gh (freeB_zero t a),HS,gh (Td.refl _ _)⟩
  case round=>
   obtain ⟨k,hk,rfl,HF,HC,HT⟩:=hrel
   by_cases hkn:k < n
   ·have i1:(a:Int)+k < (a:Int)+n:=by omega
    have i2:a+k < N+1:=by omega
    have i3:(a:Int)+k < (N:Int)+1:=by omega
    have b2:=HC.o.row.cell (show a+k < s.xs.length+1 by rw [HN.o];exact i2);have b3:=HC.o.row.frozen (a+k);simp only [takeT_at] at b2;have i4:((a:Int)+k).toNat=a+k:=by omega
    by_cases ht:t (a+k)=true
    ·have HR:Hid (r=none):=gh (by
      rw [E2.o,if_neg];rw [freeB_false (n:=k+1) (by rw [freeB_succ,HF.o,ht];rfl) (by omega)];simp)
     rw [ht] at b2;clear ht;go_wp2;go_ret;exact ⟨by rw [HR.o];rfl,HT.o,_,HC.o,fun u h=>by rw [HR.o] at h;cases h⟩
    ·have ht':t (a+k)=false:=by simpa using ht
     rw [ht'] at b2;have G1:Hid (freeB t a (k+1)=true):=gh (by rw [freeB_succ,HF.o,ht'];rfl);have G2:=gh (HC.o.put (a+k) (takeT_succ t a k));have G3:Hid (Td (fun i=>i=g) W (wr.setCell ⟨g,a+k,none⟩ (.bool true))):=gh (HT.o.trans (Td.setCell (R:=fun i=>i=g) wr ⟨g,a+k,none⟩ (.bool true) rfl) (fun _ e=>e) (fun _ _ e=>e));clear ht ht';go_wp2;exact ⟨⟨k+1,by omega,by simp;omega,G1,G2,G3⟩,by simp [intOf];omega⟩
   ·have hkn':k=n:=by omega
    subst hkn';have i1:¬ ((a:Int)+k < (a:Int)+k):=by omega
    have HR:Hid (r=some (takeT t a k)):=gh (by rw [E2.o,if_pos HF.o]);go_wp2;go_ret;exact ⟨by rw [HR.o];rfl,HT.o,_,HC.o,fun u h=>by rw [HR.o] at h;cases h;rfl⟩
 ·have HR:Hid (r=none):=gh (by
   rw [<- e1,hN];unfold takeO;rw [if_neg];intro hh;simp only [Bool.and_eq_true,decide_eq_true_eq] at hh;exact h5 hh.1.2)
  have i0:(N:Int) < (a:Int)+n - 1:=by omega
  have i1:¬ ((a:Int) < 1):=by omega
  clear C e1 hN h5;go_enter Tryz.func177,Tryz.ntmps177;go_wp2;go_ret;exact ⟨by rw [HR.o];rfl,Td.refl _ _,t,H.o,fun u h=>by rw [HR.o] at h;cases h⟩
def WordD (f:Nat):Prop:=∀ (w0 W:World) (b:Nat) (s:Mst) (g:Nat) (t:Tk) (_:DCk w0 W b s g t) (x lo hi:Int) (_:I64 x) (_:I64 lo) (_:I64 hi) (_:freeN (s.xs.length+1) t < f) (r:Option Tk) (_:sndW s f x lo hi t=r),
  Calls Tryz.prog 175 #[.pointer (some ⟨b,0,none⟩),.int .i64 x,.int .i64 lo,.int .i64 hi,metS s g] W (DPost w0 W b s g r)
def SlotD (f:Nat):Prop:=∀ (w0 W:World) (b:Nat) (s:Mst) (g:Nat) (t:Tk) (_:DCk w0 W b s g t) (x lo hi:Int) (_:I64 lo) (_:I64 hi) (_:freeN (s.xs.length+1) t < f) (r:Option Tk) (_:sndSlot s (sndW s f) x lo hi t=r),
  Calls Tryz.prog 166 #[.pointer (some ⟨b,0,none⟩),.int .i64 x,.int .i64 lo,.int .i64 hi,metS s g] W (DPost w0 W b s g r)
theorem slot_of_word_d (f:Nat) (hW:WordD f):SlotD f:=by
 intro w0 W b s g t C x lo hi hlo hhi hf r e1;obtain ⟨la,lc,c1,_⟩:=DCk.cells C.mem;have H:=gh C;obtain ⟨z,hz⟩:∃ z,s.look x=z:=⟨_,rfl⟩;obtain ⟨k,hk⟩:∃ k,kd z=k:=⟨_,rfl⟩;obtain ⟨p,hp⟩:∃ p,ad z=p:=⟨_,rfl⟩;obtain ⟨l,hl⟩:∃ l,s.logicZ x=l:=⟨_,rfl⟩;obtain ⟨N,hN⟩:∃ N,s.xs.length=N:=⟨_,rfl⟩;have hzb:=C.ok.look x;rw [hz] at hzb;have hlb:=C.ok.logic x;rw [hl] at hlb;have kr:=ad_range z;rw [hp] at kr;obtain ⟨p0,p1⟩:=kr;have hn:N<=65536:=by rw [<- hN];exact C.ok.2
 have HZ:=gh hz;have HK:=gh hk;have HP:=gh hp;have HL:=gh hl;have HN:=gh hN;have HZB:=gh hzb;have HLB:=gh hlb;have HLO:=gh hlo;have HHI:=gh hhi;have HFU:=gh hf;have HO:=gh C.ok;have HW:=gh hW;rw [hN] at c1;have ew:metS s g=.slice (some ⟨g,0,none⟩) (N+1) (N+1):=by unfold metS;rw [hN]
 have EW:=gh ew;rw [ew];have FIN:dcssB s x=true->Hid (sndW s f l lo hi t=r):=fun hd=>gh (by rw [<- e1,sndSlot,if_pos hd,hl]);have NONE:dcssB s x=false->Hid (r=none):=fun hd=>gh (by rw [<- e1,sndSlot,hd];rfl)
 by_cases hk5:k=5
 ·obtain ⟨y,hy⟩:∃ y,s.look (p+1)=y:=⟨_,rfl⟩;have HY:=gh hy;have ed:dcssB s x=(decide (p+4<=(N:Int)) && (y == x)):=by rw [dcssB,hz,hk,hp,hN,hk5,hy];rfl
  have ED:=gh ed
  by_cases c2:p+4<=(N:Int)
  ·have c2':¬ ((N:Int) < p+4):=by omega
   by_cases c3:y=x
   ·have HR:=FIN (by rw [ed];simp [c2,c3]);subst c3 hk5;clear C hz hk hp hl hN hzb hlb hlo hhi hf e1 hy ed ED ew FIN NONE hW;go_enter Tryz.func166,Tryz.ntmps166;go_wp2_with (fail);refine (lk_d _ b s y z H.o.mem HZ.o).mono ?_;rintro e w' ⟨rfl,rfl⟩;go_wp2_with (fail);refine (kk_d _ z 5 HZB.o HK.o).mono ?_;rintro e w' ⟨rfl,rfl⟩;go_wp2_with (fail);refine (ak_d _ z p HZB.o HP.o).mono ?_;rintro e w' ⟨rfl,rfl⟩;go_wp2_with (fail);refine (lk_d _ b s (p+1) y H.o.mem HY.o).mono ?_;rintro e w' ⟨rfl,rfl⟩;go_wp2_with (fail);refine (logic_d _ b s y l H.o.mem HO.o HL.o).mono ?_;rintro e w' ⟨rfl,rfl⟩;go_wp2_with (fail);rw [<- EW.o];refine (HW.o w0 _ b s g t H.o l lo hi HLB.o HLO.o HHI.o HFU.o r HR.o).mono ?_;rintro e w' ⟨rfl,hT,hC⟩;have HC:=gh hC;have HT:=gh hT;clear hC hT H c1;go_wp2;go_ret;exact ⟨rfl,HT.o,HC.o⟩
   ·have HR:=NONE (by rw [ed];simp [c3]);have g1:(y == x)=false:=by simp [c3]
    have g2:(y != x)=true:=by simp [c3]
    subst hk5;clear C hz hk hp hl hN hzb hlb hlo hhi hf e1 hy ed ED ew FIN NONE hW c3;go_enter Tryz.func166,Tryz.ntmps166;go_wp2_with (fail);refine (lk_d _ b s x z H.o.mem HZ.o).mono ?_;rintro e w' ⟨rfl,rfl⟩;go_wp2_with (fail);refine (kk_d _ z 5 HZB.o HK.o).mono ?_;rintro e w' ⟨rfl,rfl⟩;go_wp2_with (fail);refine (ak_d _ z p HZB.o HP.o).mono ?_;rintro e w' ⟨rfl,rfl⟩;go_wp2_with (fail);refine (lk_d _ b s (p+1) y H.o.mem HY.o).mono ?_;rintro e w' ⟨rfl,rfl⟩;go_wp2;go_ret;exact ⟨by rw [HR.o];rfl,Td.refl _ _,t,H.o,fun u h=>by rw [HR.o] at h;cases h⟩
  ·have HR:=NONE (by rw [ed];simp [c2]);have c2':(N:Int) < p+4:=by omega
   subst hk5;clear C hz hk hp hl hN hzb hlb hlo hhi hf e1 hy ed ED ew FIN NONE hW c2;go_enter Tryz.func166,Tryz.ntmps166;go_wp2_with (fail);refine (lk_d _ b s x z H.o.mem HZ.o).mono ?_;rintro e w' ⟨rfl,rfl⟩;go_wp2_with (fail);refine (kk_d _ z 5 HZB.o HK.o).mono ?_;rintro e w' ⟨rfl,rfl⟩;go_wp2_with (fail);refine (ak_d _ z p HZB.o HP.o).mono ?_;rintro e w' ⟨rfl,rfl⟩;go_wp2;go_ret;exact ⟨by rw [HR.o];rfl,Td.refl _ _,t,H.o,fun u h=>by rw [HR.o] at h;cases h⟩
 ·have HR:=FIN (by rw [dcssB,hz,hk];simp [hk5]);have g1:(k == 5)=false:=by simp [hk5]
  have g2:(k != 5)=true:=by simp [hk5]
  clear C hz hk hp hl hN hzb hlb hlo hhi hf e1 ew FIN NONE hW hk5;go_enter Tryz.func166,Tryz.ntmps166;go_wp2_with (fail);refine (lk_d _ b s x z H.o.mem HZ.o).mono ?_;rintro e w' ⟨rfl,rfl⟩;go_wp2_with (fail);refine (kk_d _ z k HZB.o HK.o).mono ?_;rintro e w' ⟨rfl,rfl⟩;go_wp2_with (fail);refine (logic_d _ b s x l H.o.mem HO.o HL.o).mono ?_;rintro e w' ⟨rfl,rfl⟩;go_wp2_with (fail);rw [<- EW.o];refine (HW.o w0 _ b s g t H.o l lo hi HLB.o HLO.o HHI.o HFU.o r HR.o).mono ?_;rintro e w' ⟨rfl,hT,hC⟩;have HC:=gh hC;have HT:=gh hT;clear hC hT H c1;go_wp2;go_ret;exact ⟨rfl,HT.o,HC.o⟩
end
section
set_option maxHeartbeats 4000000 in
set_option maxRecDepth 20000 in
theorem inner_of_slot_d (f:Nat) (hS:SlotD f) (w0 W:World) (b:Nat) (s:Mst) (g:Nat) (t:Tk) (C:DCk w0 W b s g t) (a:Nat) (lo hi:Int) (h1:1<=a) (h2:a<=65536) (hlo:I64 lo) (hhi:I64 hi) (hf:freeN (s.xs.length+1) t < f+1) (r:Option Tk) (e1:sndInner s (sndW s f) a lo hi t=r) :
  Calls Tryz.prog 178 #[.pointer (some ⟨b,0,none⟩),.int .i64 (a:Int),.int .i64 lo,.int .i64 hi,metS s g] W (DPost w0 W b s g r):=by
 have H:=gh C;have HO:=gh C.ok;have HLO:=gh hlo;have HHI:=gh hhi;have HSL:=gh hS;have HF:=gh hf;obtain ⟨N,hN⟩:∃ N,s.xs.length=N:=⟨_,rfl⟩;have hn:N<=65536:=by rw [<- hN];exact C.ok.2
 have ew:metS s g=.slice (some ⟨g,0,none⟩) (N+1) (N+1):=by unfold metS;rw [hN]
 have EW:=gh ew;obtain ⟨D,hD⟩:∃ D,s.look a=D:=⟨_,rfl⟩;have HD:=gh hD;obtain ⟨z,hz⟩:∃ z,s.look ((a:Int)+2)=z:=⟨_,rfl⟩;have HZ:=gh hz;have e2:r=if D < 2 then none else (takeO (N+1) t a (2 * D.toNat+4)).bind fun t1=>if (keysB s a D.toNat lo hi && shutB s a)=true then chain (kidG s (sndW s f) a D.toNat lo hi) D.toNat t1 else none:=by
  rw [<- e1,sndInner,hD,hN]
 have E2:=gh e2;have HN:=gh hN;have a1:(a:Int)<=65536:=by omega
 rw [ew]
 by_cases d2:D < 2
 ·have HR:Hid (r=none):=gh (by rw [e2,if_pos d2]);clear C hS hlo hhi hf e1 e2 hN ew hD hz;go_enter Tryz.func178,Tryz.ntmps178;go_wp2_with (fail);refine (lk_d _ b s a D H.o.mem HD.o).mono ?_;rintro e w' ⟨rfl,rfl⟩;go_wp2;go_ret;exact ⟨by rw [HR.o];rfl,Td.refl _ _,t,H.o,fun u h=>by rw [HR.o] at h;cases h⟩
 by_cases d3:65536 < D
 ·have HR:Hid (r=none):=gh (by
   rw [e2,if_neg d2,takeO,if_neg]
   ·rfl
   ·intro hh;simp only [Bool.and_eq_true,decide_eq_true_eq] at hh;omega)
  clear C hS hlo hhi hf e1 e2 hN ew hD hz;go_enter Tryz.func178,Tryz.ntmps178;go_wp2_with (fail);refine (lk_d _ b s a D H.o.mem HD.o).mono ?_;rintro e w' ⟨rfl,rfl⟩;go_wp2_with (fail);refine (lk_d _ b s a D H.o.mem HD.o).mono ?_;rintro e w' ⟨rfl,rfl⟩;go_wp2;go_ret;exact ⟨by rw [HR.o];rfl,Td.refl _ _,t,H.o,fun u h=>by rw [HR.o] at h;cases h⟩
 obtain ⟨d,rfl⟩:∃ d:Nat,D=(d:Int):=⟨D.toNat,by omega⟩;have e3:r=(takeO (N+1) t a (2 * d+4)).bind fun t1=>if (keysB s a d lo hi && shutB s a)=true then chain (kidG s (sndW s f) a d lo hi) d t1 else none:=by
  rw [e2,if_neg d2,Int.toNat_natCast]
 have E3:=gh e3;have d5:(d:Int)<=65536:=by omega
 have d4:(2:Int)<=(d:Int):=by omega
 have i5:((2 * d+4:Nat):Int)=2 * (d:Int)+4:=by omega
 have I5:=gh i5;cases hT:takeO (N+1) t a (2 * d+4) with
 | none=>
  have HT:Hid (takeO (s.xs.length+1) t a (2 * d+4)=none):=gh (by rw [hN];exact hT);have HR:Hid (r=none):=gh (by rw [e3,hT];rfl);clear C hS hlo hhi hf e1 e2 e3 hN ew hD hz E2 E3 hT i5;go_enter Tryz.func178,Tryz.ntmps178;go_wp2_with (fail);refine (lk_d _ b s a d H.o.mem HD.o).mono ?_;rintro e w' ⟨rfl,rfl⟩;go_wp2_with (fail);refine (lk_d _ b s a d H.o.mem HD.o).mono ?_;rintro e w' ⟨rfl,rfl⟩;go_wp2_with (fail);refine (lk_d _ b s a d H.o.mem HD.o).mono ?_;rintro e w' ⟨rfl,rfl⟩;go_wp2_with (fail);rw [<- EW.o,<- I5.o];refine (take_d w0 _ b s g t H.o a (2 * d+4) h1 (by omega) (by omega) (by omega) none HT.o).mono ?_;rintro e w' ⟨rfl,hT',t',C',_⟩;have H':=gh C';have TT:=gh hT';clear C' hT' H;go_wp2;go_ret;exact ⟨by rw [HR.o];rfl,TT.o,t',H'.o,fun u h=>by rw [HR.o] at h;cases h⟩
 | some t1=>
  have HT:Hid (takeO (s.xs.length+1) t a (2 * d+4)=some t1):=gh (by rw [hN];exact hT);have HFR:Hid (freeN (s.xs.length+1) t1 < f):=gh (by have:=takeO_free HT.o;have:=HF.o;omega);have e4:r=if (keysB s a d lo hi && shutB s a)=true then chain (kidG s (sndW s f) a d lo hi) d t1 else none:=by rw [e3,hT];rfl
  have e5:r=if shutB s a=true then chain (docG s (sndW s f) a d lo hi) d t1 else none:=by
   rw [e4,doc_chain];cases keysB s a d lo hi <;> cases shutB s a <;> rfl
  have E5:=gh e5;have hfit:Hid (a+(2 * d+4)<=N+1):=gh (by
   unfold takeO at hT
   split at hT
   ·rename_i c;simp only [Bool.and_eq_true,decide_eq_true_eq] at c;exact c.1.2
   ·cases hT)
  by_cases hz01:z=0∨z=1
  ·have SB:shutB s a=true:=by unfold shutB;rw [hz];rcases hz01 with e | e <;> subst e <;> rfl
   have E6:Hid (r=chain (docG s (sndW s f) a d lo hi) d t1):=gh (by rw [e5,if_pos SB]);have START:Hid (chain (docG s (sndW s f) a d lo hi) 0 t1=some t1):=gh rfl;have LZ:Hid (lowZ s a lo 0=lo):=gh (by rw [lowZ,if_pos rfl]);clear C hS hlo hhi hf e1 e2 e3 e4 e5 hN ew hD hz E2 E3 E5 hT SB i5;rcases hz01 with hz0 | hz0
   ·subst hz0;go_enter Tryz.func178,Tryz.ntmps178;go_wp2_with (fail);refine (lk_d _ b s a d H.o.mem HD.o).mono ?_;rintro e w' ⟨rfl,rfl⟩;go_wp2_with (fail);refine (lk_d _ b s a d H.o.mem HD.o).mono ?_;rintro e w' ⟨rfl,rfl⟩;go_wp2_with (fail);refine (lk_d _ b s a d H.o.mem HD.o).mono ?_;rintro e w' ⟨rfl,rfl⟩;go_wp2_with (fail);rw [<- EW.o,<- I5.o];refine (take_d w0 _ b s g t H.o a (2 * d+4) h1 (by omega) (by omega) (by omega) (some t1) HT.o).mono ?_;rintro e W1 ⟨rfl,hT',t',C',ht'⟩;have et:=ht' _ rfl;rw [et] at C';have H':=gh C';have TT:=gh hT';clear C' hT' H ht' et;rw [EW.o,I5.o];go_wp2_with (fail);refine (lk_d _ b s ((a:Int)+2) 0 H'.o.mem HZ.o).mono ?_;rintro e w' ⟨rfl,rfl⟩;go_wp2
    go_loopw [12,13] (fun v12 v wr=>∃ (k:Nat) (tk:Tk) (F:Int),k<=d/\v12=.int .i64 F/\v=.int .i64 (k:Int)/\Hid (k < d->lowZ s a lo k=F)/\Hid (chain (docG s (sndW s f) a d lo hi) k t1=some tk)/\Hid (DCk w0 wr b s g tk)/\Hid (Td (fun i=>i=g) W wr)) (fun _ v _=>d - (intOf v).toNat)
    case atStart=>exact ⟨0,_,lo,by omega,rfl,by simp,gh (fun _=>LZ.o),START,H',TT⟩
    case round=>
     obtain ⟨k,tk,F,hk,rfl,rfl,HLF,HCH,HC,HTW⟩:=hrel
     by_cases hkn:k < d
     ·have j1:(k:Int) < (d:Int):=by omega
      have hF:lowZ s a lo k=F:=HLF.o hkn;have HFB:Hid (I64 F):=gh (by
       rw [<- hF,lowZ];split
       ·exact HLO.o
       ·exact HO.o.look _)
      have HFK:Hid (freeN (s.xs.length+1) tk < f):=gh (by
       have h0:∀ n t',chain (docG s (sndW s f) a d lo hi) n t1=some t'->freeN (s.xs.length+1) t'<=freeN (s.xs.length+1) t1:=by
        intro n
        induction n with
        | zero=>intro t' h;simp [chain] at h;subst h;exact Nat.le_refl _
        | succ n ih=>
         intro t' h;rw [chain,Option.bind_eq_some_iff] at h;obtain ⟨u,h1,h2⟩:=h;unfold docG at h2
         split at h2
         ·cases h2
         ·exact Nat.le_trans (sndSlot_free (sndW_free s f) h2) (ih _ h1)
       exact Nat.lt_of_le_of_lt (h0 _ _ HCH.o) HFR.o)
      have hcz:=gh (childZ_in (n:=a) (d:=(d:Int)) (i:=k) (by omega) (by omega) (by omega) (by omega) (by omega) (by omega));have HLF2:=gh hF;clear hF HLF
      by_cases hkd:k+1 < d
      ·have j2:(k:Int) < (d:Int) - 1:=by omega
       have hkz:=gh (keyZ_in (n:=a) (i:=(k:Int)+1) (by omega) (by omega) (by omega) (by omega));obtain ⟨y,hy⟩:∃ y,s.look ((a:Int)+4+((k:Int)+1))=y:=⟨_,rfl⟩;have HYB:=HO.o.look ((a:Int)+4+((k:Int)+1));rw [hy] at HYB;have HY:=gh hy;have hky:ky s a (k+1)=y:=by rw [<- hy];rfl
       have HKY:=gh hky;clear hy hky
       by_cases y1:y<=F
       ·have HR:Hid (r=none):=gh (by
         rw [E6.o];refine chain_none (n:=k+1) ?_ (by omega);rw [chain,HCH.o];show docG s (sndW s f) a d lo hi k tk=none;unfold docG;rw [if_pos];refine ⟨hkd,fun h=>?_⟩
         have:=h.1
         rw [HLF2.o,HKY.o] at this;omega)
        clear HYB;go_wp2_with (fail);refine (key_r _ a ((k:Int)+1) _ hkz.o).mono ?_;rintro e w' ⟨rfl,rfl⟩;go_wp2_with (fail);refine (lk_d _ b s _ y HC.o.mem HY.o).mono ?_;rintro e w' ⟨rfl,rfl⟩;go_wp2;go_ret;exact ⟨by rw [HR.o];rfl,HTW.o,tk,HC.o,fun u h=>by rw [HR.o] at h;cases h⟩
       by_cases y2:hi < y
       ·have HR:Hid (r=none):=gh (by
         rw [E6.o];refine chain_none (n:=k+1) ?_ (by omega);rw [chain,HCH.o];show docG s (sndW s f) a d lo hi k tk=none;unfold docG;rw [if_pos];refine ⟨hkd,fun h=>?_⟩
         have:=h.2
         rw [HKY.o] at this;omega)
        clear HYB;go_wp2_with (fail);refine (key_r _ a ((k:Int)+1) _ hkz.o).mono ?_;rintro e w' ⟨rfl,rfl⟩;go_wp2_with (fail);refine (lk_d _ b s _ y HC.o.mem HY.o).mono ?_;rintro e w' ⟨rfl,rfl⟩;go_wp2;go_ret;exact ⟨by rw [HR.o];rfl,HTW.o,tk,HC.o,fun u h=>by rw [HR.o] at h;cases h⟩
       have fb:=HFB.o;obtain ⟨fb1,fb2⟩:=fb;obtain ⟨yb1,yb2⟩:=HYB;have BH:Hid (I64 (y - 1)):=gh ⟨by omega,by omega⟩;obtain ⟨u,hu⟩:∃ u,sndSlot s (sndW s f) ((a:Int)+4+(d:Int)+k) F (y - 1) tk=u:=⟨_,rfl⟩;have HU2:=gh hu;have HNX:Hid (chain (docG s (sndW s f) a d lo hi) (k+1) t1=u):=gh (by
        rw [chain,HCH.o];show docG s (sndW s f) a d lo hi k tk=u;unfold docG;rw [if_neg,kidG,HLF2.o,highZ,if_pos hkd,HKY.o]
        ·exact hu
        ·rintro ⟨_,h⟩;apply h;rw [HLF2.o,HKY.o];exact ⟨by omega,by omega⟩)
       have NF:Hid (k+1 < d->lowZ s a lo (k+1)=y):=gh (fun _=>by rw [lowZ,if_neg (by omega),HKY.o]);clear hu HCH;go_wp2_with (fail);refine (key_r _ a ((k:Int)+1) _ hkz.o).mono ?_;rintro e w' ⟨rfl,rfl⟩;go_wp2_with (fail);refine (lk_d _ b s _ y HC.o.mem HY.o).mono ?_;rintro e w' ⟨rfl,rfl⟩;go_wp2_with (fail);refine (child_r _ a d k _ hcz.o).mono ?_;rintro e w' ⟨rfl,rfl⟩;go_wp2_with (fail);rw [<- EW.o];refine (HSL.o w0 _ b s g tk HC.o _ F (y - 1) HFB.o BH.o HFK.o u HU2.o).mono ?_;rintro e w' ⟨rfl,hT,t2,hC,ht2⟩;have HC2:=gh hC;have HT2:Hid (Td (fun i=>i=g) W w'):=gh (HTW.o.trans hT (fun _ e=>e) (fun _ _ e=>e));have HE2:=gh ht2;clear hT hC ht2 HC HTW;rw [EW.o];cases u with
       | none=>
        have HR:Hid (r=none):=gh (by rw [E6.o];exact chain_none HNX.o (by omega));go_wp2;go_ret;exact ⟨by rw [HR.o];rfl,HT2.o,t2,HC2.o,fun u h=>by rw [HR.o] at h;cases h⟩
       | some u=>
        have:=HE2.o u rfl
        subst this;clear HE2;go_wp2;exact ⟨⟨k+1,_,_,by omega,rfl,by simp,NF,HNX,HC2,HT2⟩,by simp [intOf];omega⟩
      ·have j2:¬ ((k:Int) < (d:Int) - 1):=by omega
       have BH:=HHI;obtain ⟨u,hu⟩:∃ u,sndSlot s (sndW s f) ((a:Int)+4+(d:Int)+k) F hi tk=u:=⟨_,rfl⟩;have HU2:=gh hu;have HNX:Hid (chain (docG s (sndW s f) a d lo hi) (k+1) t1=u):=gh (by
        rw [chain,HCH.o];show docG s (sndW s f) a d lo hi k tk=u;unfold docG;rw [if_neg (fun h=>hkd h.1),kidG,HLF2.o,highZ,if_neg hkd];exact hu)
       clear hu HCH;go_wp2_with (fail);refine (child_r _ a d k _ hcz.o).mono ?_;rintro e w' ⟨rfl,rfl⟩;go_wp2_with (fail);rw [<- EW.o];refine (HSL.o w0 _ b s g tk HC.o _ F hi HFB.o BH.o HFK.o u HU2.o).mono ?_;rintro e w' ⟨rfl,hT,t2,hC,ht2⟩;have HC2:=gh hC;have HT2:Hid (Td (fun i=>i=g) W w'):=gh (HTW.o.trans hT (fun _ e=>e) (fun _ _ e=>e));have HE2:=gh ht2;clear hT hC ht2 HC HTW;rw [EW.o];cases u with
       | none=>
        have HR:Hid (r=none):=gh (by rw [E6.o];exact chain_none HNX.o (by omega));go_wp2;go_ret;exact ⟨by rw [HR.o];rfl,HT2.o,t2,HC2.o,fun u h=>by rw [HR.o] at h;cases h⟩
       | some u=>
        have:=HE2.o u rfl
        subst this;clear HE2;go_wp2;exact ⟨⟨k+1,_,_,by omega,rfl,by simp,gh (fun h=>absurd h (by omega)),HNX,HC2,HT2⟩,by simp [intOf];omega⟩
     ·have hkn':k=d:=by omega
      subst hkn';have j1:¬ ((k:Int) < (k:Int)):=by omega
      go_wp2;go_ret;have HR:r=some tk:=by rw [E6.o,HCH.o]
      exact ⟨by rw [HR];rfl,HTW.o,tk,HC.o,fun u h=>by rw [HR] at h;cases h;rfl⟩
   ·subst hz0;go_enter Tryz.func178,Tryz.ntmps178;go_wp2_with (fail);refine (lk_d _ b s a d H.o.mem HD.o).mono ?_;rintro e w' ⟨rfl,rfl⟩;go_wp2_with (fail);refine (lk_d _ b s a d H.o.mem HD.o).mono ?_;rintro e w' ⟨rfl,rfl⟩;go_wp2_with (fail);refine (lk_d _ b s a d H.o.mem HD.o).mono ?_;rintro e w' ⟨rfl,rfl⟩;go_wp2_with (fail);rw [<- EW.o,<- I5.o];refine (take_d w0 _ b s g t H.o a (2 * d+4) h1 (by omega) (by omega) (by omega) (some t1) HT.o).mono ?_;rintro e W1 ⟨rfl,hT',t',C',ht'⟩;have et:=ht' _ rfl;rw [et] at C';have H':=gh C';have TT:=gh hT';clear C' hT' H ht' et;rw [EW.o,I5.o];go_wp2_with (fail);refine (lk_d _ b s ((a:Int)+2) 1 H'.o.mem HZ.o).mono ?_;rintro e w' ⟨rfl,rfl⟩;go_wp2_with (fail);refine (lk_d _ b s ((a:Int)+2) 1 H'.o.mem HZ.o).mono ?_;rintro e w' ⟨rfl,rfl⟩;go_wp2
    go_loopw [12,13] (fun v12 v wr=>∃ (k:Nat) (tk:Tk) (F:Int),k<=d/\v12=.int .i64 F/\v=.int .i64 (k:Int)/\Hid (k < d->lowZ s a lo k=F)/\Hid (chain (docG s (sndW s f) a d lo hi) k t1=some tk)/\Hid (DCk w0 wr b s g tk)/\Hid (Td (fun i=>i=g) W wr)) (fun _ v _=>d - (intOf v).toNat)
    case atStart=>exact ⟨0,_,lo,by omega,rfl,by simp,gh (fun _=>LZ.o),START,H',TT⟩
    case round=>
     obtain ⟨k,tk,F,hk,rfl,rfl,HLF,HCH,HC,HTW⟩:=hrel
     by_cases hkn:k < d
     ·have j1:(k:Int) < (d:Int):=by omega
      have hF:lowZ s a lo k=F:=HLF.o hkn;have HFB:Hid (I64 F):=gh (by
       rw [<- hF,lowZ];split
       ·exact HLO.o
       ·exact HO.o.look _)
      have HFK:Hid (freeN (s.xs.length+1) tk < f):=gh (by
       have h0:∀ n t',chain (docG s (sndW s f) a d lo hi) n t1=some t'->freeN (s.xs.length+1) t'<=freeN (s.xs.length+1) t1:=by
        intro n
        induction n with
        | zero=>intro t' h;simp [chain] at h;subst h;exact Nat.le_refl _
        | succ n ih=>
         intro t' h;rw [chain,Option.bind_eq_some_iff] at h;obtain ⟨u,h1,h2⟩:=h;unfold docG at h2
         split at h2
         ·cases h2
         ·exact Nat.le_trans (sndSlot_free (sndW_free s f) h2) (ih _ h1)
       exact Nat.lt_of_le_of_lt (h0 _ _ HCH.o) HFR.o)
      have hcz:=gh (childZ_in (n:=a) (d:=(d:Int)) (i:=k) (by omega) (by omega) (by omega) (by omega) (by omega) (by omega));have HLF2:=gh hF;clear hF HLF
      by_cases hkd:k+1 < d
      ·have j2:(k:Int) < (d:Int) - 1:=by omega
       have hkz:=gh (keyZ_in (n:=a) (i:=(k:Int)+1) (by omega) (by omega) (by omega) (by omega));obtain ⟨y,hy⟩:∃ y,s.look ((a:Int)+4+((k:Int)+1))=y:=⟨_,rfl⟩;have HYB:=HO.o.look ((a:Int)+4+((k:Int)+1));rw [hy] at HYB;have HY:=gh hy;have hky:ky s a (k+1)=y:=by rw [<- hy];rfl
       have HKY:=gh hky;clear hy hky
       by_cases y1:y<=F
       ·have HR:Hid (r=none):=gh (by
         rw [E6.o];refine chain_none (n:=k+1) ?_ (by omega);rw [chain,HCH.o];show docG s (sndW s f) a d lo hi k tk=none;unfold docG;rw [if_pos];refine ⟨hkd,fun h=>?_⟩
         have:=h.1
         rw [HLF2.o,HKY.o] at this;omega)
        clear HYB;go_wp2_with (fail);refine (key_r _ a ((k:Int)+1) _ hkz.o).mono ?_;rintro e w' ⟨rfl,rfl⟩;go_wp2_with (fail);refine (lk_d _ b s _ y HC.o.mem HY.o).mono ?_;rintro e w' ⟨rfl,rfl⟩;go_wp2;go_ret;exact ⟨by rw [HR.o];rfl,HTW.o,tk,HC.o,fun u h=>by rw [HR.o] at h;cases h⟩
       by_cases y2:hi < y
       ·have HR:Hid (r=none):=gh (by
         rw [E6.o];refine chain_none (n:=k+1) ?_ (by omega);rw [chain,HCH.o];show docG s (sndW s f) a d lo hi k tk=none;unfold docG;rw [if_pos];refine ⟨hkd,fun h=>?_⟩
         have:=h.2
         rw [HKY.o] at this;omega)
        clear HYB;go_wp2_with (fail);refine (key_r _ a ((k:Int)+1) _ hkz.o).mono ?_;rintro e w' ⟨rfl,rfl⟩;go_wp2_with (fail);refine (lk_d _ b s _ y HC.o.mem HY.o).mono ?_;rintro e w' ⟨rfl,rfl⟩;go_wp2;go_ret;exact ⟨by rw [HR.o];rfl,HTW.o,tk,HC.o,fun u h=>by rw [HR.o] at h;cases h⟩
       have fb:=HFB.o;obtain ⟨fb1,fb2⟩:=fb;obtain ⟨yb1,yb2⟩:=HYB;have BH:Hid (I64 (y - 1)):=gh ⟨by omega,by omega⟩;obtain ⟨u,hu⟩:∃ u,sndSlot s (sndW s f) ((a:Int)+4+(d:Int)+k) F (y - 1) tk=u:=⟨_,rfl⟩;have HU2:=gh hu;have HNX:Hid (chain (docG s (sndW s f) a d lo hi) (k+1) t1=u):=gh (by
        rw [chain,HCH.o];show docG s (sndW s f) a d lo hi k tk=u;unfold docG;rw [if_neg,kidG,HLF2.o,highZ,if_pos hkd,HKY.o]
        ·exact hu
        ·rintro ⟨_,h⟩;apply h;rw [HLF2.o,HKY.o];exact ⟨by omega,by omega⟩)
       have NF:Hid (k+1 < d->lowZ s a lo (k+1)=y):=gh (fun _=>by rw [lowZ,if_neg (by omega),HKY.o]);clear hu HCH;go_wp2_with (fail);refine (key_r _ a ((k:Int)+1) _ hkz.o).mono ?_;rintro e w' ⟨rfl,rfl⟩;go_wp2_with (fail);refine (lk_d _ b s _ y HC.o.mem HY.o).mono ?_;rintro e w' ⟨rfl,rfl⟩;go_wp2_with (fail);refine (child_r _ a d k _ hcz.o).mono ?_;rintro e w' ⟨rfl,rfl⟩;go_wp2_with (fail);rw [<- EW.o];refine (HSL.o w0 _ b s g tk HC.o _ F (y - 1) HFB.o BH.o HFK.o u HU2.o).mono ?_;rintro e w' ⟨rfl,hT,t2,hC,ht2⟩;have HC2:=gh hC;have HT2:Hid (Td (fun i=>i=g) W w'):=gh (HTW.o.trans hT (fun _ e=>e) (fun _ _ e=>e));have HE2:=gh ht2;clear hT hC ht2 HC HTW;rw [EW.o];cases u with
       | none=>
        have HR:Hid (r=none):=gh (by rw [E6.o];exact chain_none HNX.o (by omega));go_wp2;go_ret;exact ⟨by rw [HR.o];rfl,HT2.o,t2,HC2.o,fun u h=>by rw [HR.o] at h;cases h⟩
       | some u=>
        have:=HE2.o u rfl
        subst this;clear HE2;go_wp2;exact ⟨⟨k+1,_,_,by omega,rfl,by simp,NF,HNX,HC2,HT2⟩,by simp [intOf];omega⟩
      ·have j2:¬ ((k:Int) < (d:Int) - 1):=by omega
       have BH:=HHI;obtain ⟨u,hu⟩:∃ u,sndSlot s (sndW s f) ((a:Int)+4+(d:Int)+k) F hi tk=u:=⟨_,rfl⟩;have HU2:=gh hu;have HNX:Hid (chain (docG s (sndW s f) a d lo hi) (k+1) t1=u):=gh (by
        rw [chain,HCH.o];show docG s (sndW s f) a d lo hi k tk=u;unfold docG;rw [if_neg (fun h=>hkd h.1),kidG,HLF2.o,highZ,if_neg hkd];exact hu)
       clear hu HCH;go_wp2_with (fail);refine (child_r _ a d k _ hcz.o).mono ?_;rintro e w' ⟨rfl,rfl⟩;go_wp2_with (fail);rw [<- EW.o];refine (HSL.o w0 _ b s g tk HC.o _ F hi HFB.o BH.o HFK.o u HU2.o).mono ?_;rintro e w' ⟨rfl,hT,t2,hC,ht2⟩;have HC2:=gh hC;have HT2:Hid (Td (fun i=>i=g) W w'):=gh (HTW.o.trans hT (fun _ e=>e) (fun _ _ e=>e));have HE2:=gh ht2;clear hT hC ht2 HC HTW;rw [EW.o];cases u with
       | none=>
        have HR:Hid (r=none):=gh (by rw [E6.o];exact chain_none HNX.o (by omega));go_wp2;go_ret;exact ⟨by rw [HR.o];rfl,HT2.o,t2,HC2.o,fun u h=>by rw [HR.o] at h;cases h⟩
       | some u=>
        have:=HE2.o u rfl
        subst this;clear HE2;go_wp2;exact ⟨⟨k+1,_,_,by omega,rfl,by simp,gh (fun h=>absurd h (by omega)),HNX,HC2,HT2⟩,by simp [intOf];omega⟩
     ·have hkn':k=d:=by omega
      subst hkn';have j1:¬ ((k:Int) < (k:Int)):=by omega
      go_wp2;go_ret;have HR:r=some tk:=by rw [E6.o,HCH.o]
      exact ⟨by rw [HR];rfl,HTW.o,tk,HC.o,fun u h=>by rw [HR] at h;cases h;rfl⟩
  ·have SB:shutB s a=false:=by unfold shutB;rw [hz];simp;omega
   have HR:Hid (r=none):=gh (by rw [e5,SB];rfl);have g1:(z == 0)=false:=by simp;omega
   have g2:(z == 1)=false:=by simp;omega
   have g3:(z != 0)=true:=by simp;omega
   have g4:(z != 1)=true:=by simp;omega
   clear C hS hlo hhi hf e1 e2 e3 e4 e5 hN ew hD hz E2 E3 E5 hT SB hz01 i5;go_enter Tryz.func178,Tryz.ntmps178;go_wp2_with (fail);refine (lk_d _ b s a d H.o.mem HD.o).mono ?_;rintro e w' ⟨rfl,rfl⟩;go_wp2_with (fail);refine (lk_d _ b s a d H.o.mem HD.o).mono ?_;rintro e w' ⟨rfl,rfl⟩;go_wp2_with (fail);refine (lk_d _ b s a d H.o.mem HD.o).mono ?_;rintro e w' ⟨rfl,rfl⟩;go_wp2_with (fail);rw [<- EW.o,<- I5.o];refine (take_d w0 _ b s g t H.o a (2 * d+4) h1 (by omega) (by omega) (by omega) (some t1) HT.o).mono ?_;rintro e W1 ⟨rfl,hT',t',C',ht'⟩
   have:=ht' _ rfl
   subst this;have H':=gh C';have TT:=gh hT';clear C' hT' H ht';rw [EW.o,I5.o];go_wp2_with (fail);refine (lk_d _ b s ((a:Int)+2) z H'.o.mem HZ.o).mono ?_;rintro e w' ⟨rfl,rfl⟩;go_wp2_with (fail);refine (lk_d _ b s ((a:Int)+2) z H'.o.mem HZ.o).mono ?_;rintro e w' ⟨rfl,rfl⟩;go_wp2;go_ret;exact ⟨by rw [HR.o];rfl,TT.o,_,H'.o,fun u h=>by rw [HR.o] at h;cases h⟩
end
section
set_option maxHeartbeats 4000000 in
set_option maxRecDepth 20000 in
theorem word_d:∀ f,WordD f
 | 0=>fun w0 W b s g t C x lo hi hx hlo hhi hf r e1=>absurd hf (by omega)
 | f+1=>by
  have ih:=word_d f;have hS:=slot_of_word_d f ih;intro w0 W b s g t C x lo hi hx hlo hhi hf r e1;have H:=gh C;have HX:=gh hx;have HLO:=gh hlo;have HHI:=gh hhi;have HF:=gh hf;have IH:=gh ih;have HS:=gh hS;obtain ⟨k,hk⟩:∃ k,kd x=k:=⟨_,rfl⟩;obtain ⟨p,hp⟩:∃ p,ad x=p:=⟨_,rfl⟩;have kr:=ad_range x;rw [hp] at kr;have HK:=gh hk;obtain ⟨a,rfl⟩:∃ a:Nat,p=(a:Int):=⟨p.toNat,by omega⟩;have HP:=gh hp;have hap:k≠0->1<=a:=fun h=>by
   have:=ad_pos (w:=x) (by rw [hk];exact h)
   rw [hp] at this;omega
  have HA:=gh hap;have a1:(a:Int)<=65536:=kr.2;have haN:(ad x).toNat=a:=by rw [hp];omega
  obtain ⟨z,hz⟩:∃ z,s.look (a:Int)=z:=⟨_,rfl⟩;have HZ:=gh hz;have HZB:Hid (I64 z):=gh (by rw [<- hz];exact C.ok.look _);have e2:r=if k=1 then takeO (s.xs.length+1) t a 1
   else if k=2 then (if lo<=z/\z<=hi then takeO (s.xs.length+1) t a 2 else none)
   else if k=3 then sndInner s (sndW s f) a lo hi t
   else if k=4 then (if kd z=3 then (takeO (s.xs.length+1) t a 5).bind fun t1=>sndW s f z lo hi t1 else none)
   else none:=by
   rw [<- e1,sndW_succ,hk,hp,hz,Int.toNat_natCast]
  have hkr:=kd_range x;rw [hk] at hkr;have E2:=gh e2;obtain ⟨N,hN⟩:∃ N,s.xs.length=N:=⟨_,rfl⟩;have ew:metS s g=.slice (some ⟨g,0,none⟩) (N+1) (N+1):=by unfold metS;rw [hN]
  have EW:=gh ew;rw [ew];clear hN
  by_cases k1:k=1
  ·have HR:Hid (takeO (s.xs.length+1) t a 1=r):=gh (by rw [E2.o,if_pos k1]);have ha:=hap (by omega);subst k1;clear C hx hlo hhi hf ih hS hk hp kr hap haN hz e1 e2 E2 hkr ew;go_enter Tryz.func175,Tryz.ntmps175;go_wp2_with (fail);refine (ak_d _ x a HX.o HP.o).mono ?_;rintro e w' ⟨rfl,rfl⟩;go_wp2_with (fail);refine (kk_d _ x 1 HX.o HK.o).mono ?_;rintro e w' ⟨rfl,rfl⟩;go_wp2_with (fail);rw [<- EW.o];refine (take_d w0 _ b s g t H.o a 1 ha (by omega) (by omega) (by omega) r HR.o).mono ?_;rintro e w' ⟨rfl,hT,hC⟩;have HC:=gh hC;have HT:=gh hT;clear hC hT H;go_wp2;go_ret;exact ⟨rfl,HT.o,HC.o⟩
  by_cases k2:k=2
  ·have ha:=hap (by omega);have e3:r=if lo<=z/\z<=hi then takeO (s.xs.length+1) t a 2 else none:=by rw [E2.o,if_neg k1,if_pos k2]
   obtain ⟨u,hu⟩:∃ u,takeO (s.xs.length+1) t a 2=u:=⟨_,rfl⟩;have HU:=gh hu;rw [hu] at e3;have E3:=gh e3;subst k2;clear C hx hlo hhi hf ih hS hk hp kr hap haN hz e1 e2 E2 hkr ew k1 hu e3;cases u with
   | none=>
    have HR:Hid (r=none):=gh (by rw [E3.o];split <;> rfl);go_enter Tryz.func175,Tryz.ntmps175;go_wp2_with (fail);refine (ak_d _ x a HX.o HP.o).mono ?_;rintro e w' ⟨rfl,rfl⟩;go_wp2_with (fail);refine (kk_d _ x 2 HX.o HK.o).mono ?_;rintro e w' ⟨rfl,rfl⟩;go_wp2_with (fail);rw [<- EW.o];refine (take_d w0 _ b s g t H.o a 2 ha (by omega) (by omega) (by omega) none HU.o).mono ?_;rintro e w' ⟨rfl,hT,t',hC,_⟩;have HC:=gh hC;have HT:=gh hT;clear hC hT H;go_wp2;go_ret;exact ⟨by rw [HR.o];rfl,HT.o,t',HC.o,fun u h=>by rw [HR.o] at h;cases h⟩
   | some u=>
    by_cases hl1:lo<=z
    ·by_cases hl2:z<=hi
     ·have HR:Hid (r=some u):=gh (by rw [E3.o,if_pos ⟨hl1,hl2⟩]);go_enter Tryz.func175,Tryz.ntmps175;go_wp2_with (fail);refine (ak_d _ x a HX.o HP.o).mono ?_;rintro e w' ⟨rfl,rfl⟩;go_wp2_with (fail);refine (kk_d _ x 2 HX.o HK.o).mono ?_;rintro e w' ⟨rfl,rfl⟩;go_wp2_with (fail);rw [<- EW.o];refine (take_d w0 _ b s g t H.o a 2 ha (by omega) (by omega) (by omega) (some u) HU.o).mono ?_;rintro e w' ⟨rfl,hT,t',hC,ht'⟩
      have:=ht' u rfl
      subst this;have HC:=gh hC;have HT:=gh hT;clear hC hT H ht';rw [EW.o];go_wp2_with (fail);refine (lk_d _ b s a z HC.o.mem HZ.o).mono ?_;rintro e w' ⟨rfl,rfl⟩;go_wp2_with (fail);refine (lk_d _ b s a z HC.o.mem HZ.o).mono ?_;rintro e w' ⟨rfl,rfl⟩;go_wp2;go_ret;exact ⟨by rw [HR.o];rfl,HT.o,t',HC.o,fun u h=>by rw [HR.o] at h;cases h;rfl⟩
     ·have HR:Hid (r=none):=gh (by rw [E3.o,if_neg (fun h=>hl2 h.2)]);have g1:decide (z<=hi)=false:=by simp;omega
      have hl2':hi < z:=by omega
      clear hl2;go_enter Tryz.func175,Tryz.ntmps175;go_wp2_with (fail);refine (ak_d _ x a HX.o HP.o).mono ?_;rintro e w' ⟨rfl,rfl⟩;go_wp2_with (fail);refine (kk_d _ x 2 HX.o HK.o).mono ?_;rintro e w' ⟨rfl,rfl⟩;go_wp2_with (fail);rw [<- EW.o];refine (take_d w0 _ b s g t H.o a 2 ha (by omega) (by omega) (by omega) (some u) HU.o).mono ?_;rintro e w' ⟨rfl,hT,t',hC,ht'⟩
      have:=ht' u rfl
      subst this;have HC:=gh hC;have HT:=gh hT;clear hC hT H ht';rw [EW.o];go_wp2_with (fail);refine (lk_d _ b s a z HC.o.mem HZ.o).mono ?_;rintro e w' ⟨rfl,rfl⟩;go_wp2_with (fail);refine (lk_d _ b s a z HC.o.mem HZ.o).mono ?_;rintro e w' ⟨rfl,rfl⟩;go_wp2;go_ret;exact ⟨by rw [HR.o];rfl,HT.o,t',HC.o,fun u h=>by rw [HR.o] at h;cases h⟩
    ·have HR:Hid (r=none):=gh (by rw [E3.o,if_neg (fun h=>hl1 h.1)]);have g1:decide (lo<=z)=false:=by simp;omega
     have hl1':z < lo:=by omega
     clear hl1;go_enter Tryz.func175,Tryz.ntmps175;go_wp2_with (fail);refine (ak_d _ x a HX.o HP.o).mono ?_;rintro e w' ⟨rfl,rfl⟩;go_wp2_with (fail);refine (kk_d _ x 2 HX.o HK.o).mono ?_;rintro e w' ⟨rfl,rfl⟩;go_wp2_with (fail);rw [<- EW.o];refine (take_d w0 _ b s g t H.o a 2 ha (by omega) (by omega) (by omega) (some u) HU.o).mono ?_;rintro e w' ⟨rfl,hT,t',hC,ht'⟩
     have:=ht' u rfl
     subst this;have HC:=gh hC;have HT:=gh hT;clear hC hT H ht';rw [EW.o];go_wp2_with (fail);refine (lk_d _ b s a z HC.o.mem HZ.o).mono ?_;rintro e w' ⟨rfl,rfl⟩;go_wp2;go_ret;exact ⟨by rw [HR.o];rfl,HT.o,t',HC.o,fun u h=>by rw [HR.o] at h;cases h⟩
  by_cases k3:k=3
  ·have HR:Hid (sndInner s (sndW s f) a lo hi t=r):=gh (by rw [E2.o,if_neg k1,if_neg k2,if_pos k3]);have ha:=hap (by omega);subst k3;clear C hx hlo hhi hf ih hS hk hp kr hap haN hz e1 e2 E2 hkr ew k1 k2;go_enter Tryz.func175,Tryz.ntmps175;go_wp2_with (fail);refine (ak_d _ x a HX.o HP.o).mono ?_;rintro e w' ⟨rfl,rfl⟩;go_wp2_with (fail);refine (kk_d _ x 3 HX.o HK.o).mono ?_;rintro e w' ⟨rfl,rfl⟩;go_wp2_with (fail);rw [<- EW.o];refine (inner_of_slot_d f HS.o w0 _ b s g t H.o a lo hi ha (by omega) HLO.o HHI.o HF.o r HR.o).mono ?_;rintro e w' ⟨rfl,hT,hC⟩;have HC:=gh hC;have HT:=gh hT;clear hC hT H;go_wp2;go_ret;exact ⟨rfl,HT.o,HC.o⟩
  by_cases k4:k=4
  ·have ha:=hap (by omega);have e3:r=if kd z=3 then (takeO (s.xs.length+1) t a 5).bind (fun t1=>sndW s f z lo hi t1) else none:=by rw [E2.o,if_neg k1,if_neg k2,if_neg k3,if_pos k4]
   obtain ⟨u,hu⟩:∃ u,takeO (s.xs.length+1) t a 5=u:=⟨_,rfl⟩;have HU:=gh hu;obtain ⟨j,hj⟩:∃ j,kd z=j:=⟨_,rfl⟩;have HJ:=gh hj;rw [hu,hj] at e3;have E3:=gh e3;subst k4;clear C hx hlo hhi hf ih hS hk hp kr hap haN hz e1 e2 E2 hkr ew k1 k2 k3 e3 hj;cases u with
   | none=>
    have HR:Hid (r=none):=gh (by rw [E3.o];split <;> rfl);clear hu;go_enter Tryz.func175,Tryz.ntmps175;go_wp2_with (fail);refine (ak_d _ x a HX.o HP.o).mono ?_;rintro e w' ⟨rfl,rfl⟩;go_wp2_with (fail);refine (kk_d _ x 4 HX.o HK.o).mono ?_;rintro e w' ⟨rfl,rfl⟩;go_wp2_with (fail);refine (lk_d _ b s a z H.o.mem HZ.o).mono ?_;rintro e w' ⟨rfl,rfl⟩;go_wp2_with (fail);rw [<- EW.o];refine (take_d w0 _ b s g t H.o a 5 ha (by omega) (by omega) (by omega) none HU.o).mono ?_;rintro e w' ⟨rfl,hT,t',hC,_⟩;have HC:=gh hC;have HT:=gh hT;clear hC hT H;go_wp2;go_ret;exact ⟨by rw [HR.o];rfl,HT.o,t',HC.o,fun u h=>by rw [HR.o] at h;cases h⟩
   | some u=>
    have HFU:Hid (freeN (s.xs.length+1) u < f):=gh (by have:=takeO_free hu;have:=HF.o;omega);clear hu
    by_cases j3:j=3
    ·have HR:Hid (sndW s f z lo hi u=r):=gh (by rw [E3.o,if_pos j3];rfl);subst j3;go_enter Tryz.func175,Tryz.ntmps175;go_wp2_with (fail);refine (ak_d _ x a HX.o HP.o).mono ?_;rintro e w' ⟨rfl,rfl⟩;go_wp2_with (fail);refine (kk_d _ x 4 HX.o HK.o).mono ?_;rintro e w' ⟨rfl,rfl⟩;go_wp2_with (fail);refine (lk_d _ b s a z H.o.mem HZ.o).mono ?_;rintro e w' ⟨rfl,rfl⟩;go_wp2_with (fail);rw [<- EW.o];refine (take_d w0 _ b s g t H.o a 5 ha (by omega) (by omega) (by omega) (some u) HU.o).mono ?_;rintro e w' ⟨rfl,hT,t',hC,ht'⟩
     have:=ht' u rfl
     subst this;have HC:=gh hC;have HT:=gh hT;clear hC hT H ht';rw [EW.o];go_wp2_with (fail);refine (kk_d _ z 3 HZB.o HJ.o).mono ?_;rintro e w'' ⟨rfl,rfl⟩;go_wp2_with (fail);rw [<- EW.o];refine (IH.o w0 _ b s g _ HC.o z lo hi HZB.o HLO.o HHI.o HFU.o r HR.o).mono ?_;rintro e w'' ⟨rfl,hT,hC⟩;have HC2:=gh hC;have HT2:=gh (HT.o.trans hT (fun _ e=>e) (fun _ _ e=>e));clear hC hT HC HT;go_wp2;go_ret;exact ⟨rfl,HT2.o,HC2.o⟩
    ·have HR:Hid (r=none):=gh (by rw [E3.o,if_neg j3]);have g1:(j == 3)=false:=by simp [j3]
     have g2:(j != 3)=true:=by simp [j3]
     clear j3;go_enter Tryz.func175,Tryz.ntmps175;go_wp2_with (fail);refine (ak_d _ x a HX.o HP.o).mono ?_;rintro e w' ⟨rfl,rfl⟩;go_wp2_with (fail);refine (kk_d _ x 4 HX.o HK.o).mono ?_;rintro e w' ⟨rfl,rfl⟩;go_wp2_with (fail);refine (lk_d _ b s a z H.o.mem HZ.o).mono ?_;rintro e w' ⟨rfl,rfl⟩;go_wp2_with (fail);rw [<- EW.o];refine (take_d w0 _ b s g t H.o a 5 ha (by omega) (by omega) (by omega) (some u) HU.o).mono ?_;rintro e w' ⟨rfl,hT,t',hC,ht'⟩
     have:=ht' u rfl
     subst this;have HC:=gh hC;have HT:=gh hT;clear hC hT H ht';rw [EW.o];go_wp2_with (fail);refine (kk_d _ z j HZB.o HJ.o).mono ?_;rintro e w'' ⟨rfl,rfl⟩;go_wp2;go_ret;exact ⟨by rw [HR.o];rfl,HT.o,t',HC.o,fun u h=>by rw [HR.o] at h;cases h⟩
  ·have HR:Hid (r=none):=gh (by rw [E2.o,if_neg k1,if_neg k2,if_neg k3,if_neg k4]);have g1:(k == 1)=false:=by simp [k1]
   have g2:(k == 2)=false:=by simp [k2]
   have g3:(k == 3)=false:=by simp [k3]
   have g4:(k == 4)=false:=by simp [k4]
   clear C hx hlo hhi hf ih hS hk hp kr hap haN hz e1 e2 E2 hkr ew k1 k2 k3 k4;go_enter Tryz.func175,Tryz.ntmps175;go_wp2_with (fail);refine (ak_d _ x a HX.o HP.o).mono ?_;rintro e w' ⟨rfl,rfl⟩;go_wp2_with (fail);refine (kk_d _ x k HX.o HK.o).mono ?_;rintro e w' ⟨rfl,rfl⟩;go_wp2;go_ret;exact ⟨by rw [HR.o];rfl,Td.refl _ _,t,H.o,fun u h=>by rw [HR.o] at h;cases h⟩
set_option maxRecDepth 20000 in
theorem sound_d (w:World) (b:Nat) (s:Mst) (h:DM w b s) (ho:s.ok) (r:Bool) (e1:soundB s=r) :
  Calls Tryz.prog 139 #[.pointer (some ⟨b,0,none⟩)] w fun e w'=>e=.returned (.bool r)/\Kept w w':=by
 have H:=gh h;have HO:=gh ho;obtain ⟨la,lc,c1,hrd⟩:=DCk.cells h;obtain ⟨z1,hz1⟩:∃ z,s.look 1=z:=⟨_,rfl⟩;obtain ⟨z3,hz3⟩:∃ z,s.look 3=z:=⟨_,rfl⟩;obtain ⟨N,hN⟩:∃ N,s.xs.length=N:=⟨_,rfl⟩;have e2:r=(decide (6<=N) && (z1 == 1) && (z3 == 0) && (sndSlot s (sndW s (fuel s)) 6 (-9223372036854775808) 9223372036854775807 base0).isSome):=by
  rw [<- e1,soundB,hz1,hz3,hN]
 have E2:=gh e2;have HN:=gh hN;have n1:N<=65536:=by rw [<- hN];exact HO.o.2
 rw [hN] at c1
 by_cases h6:6<=N
 ·have x1:s.xs[0]? = some z1:=by
   have h0:0 < s.xs.length:=by omega
   rw [List.getElem?_eq_getElem h0,<- hz1,<- Mst.look_succ (s:=s) (j:=0) (List.getElem?_eq_getElem h0)];rfl
  have x3:s.xs[2]? = some z3:=by
   have h0:2 < s.xs.length:=by omega
   rw [List.getElem?_eq_getElem h0,<- hz3,<- Mst.look_succ (s:=s) (j:=2) (List.getElem?_eq_getElem h0)];rfl
  obtain ⟨bl,off,rfl,_,q1⟩:=hrd.at x1;obtain ⟨bl',off',he,_,q3⟩:=hrd.at x3;cases he;rw [Nat.add_zero] at q1;have n6:¬ ((N:Int) < 6):=by omega
  have n7:(0:Int) < (N:Int):=by omega
  have n8:(2:Int) < (N:Int):=by omega
  clear h ho hrd hz1 hz3 e1 e2 hN x1 x3
  by_cases y1:z1=1
  ·by_cases y3:z3=0
   ·subst y1 y3;have hmk:=run_make58 (N+1) (by omega);rw [show ((N+1:Nat):Int)=(N:Int)+1 from rfl] at hmk;have C0:Hid (DCk w (w.alloc (.cells (madeCells #[.bool false] (N+1)) 4)) b s w.heap.size (takeT (fun _=>false) 1 0)):=gh (by
     refine ⟨H.o,HO.o,(Kept.refl w).alloc _,Nat.le_refl _,?_⟩;rw [HN.o,takeT_zero];exact World.rowIs_made w (.bool false) (N+1) 4)
    obtain ⟨g,hg⟩:∃ g,w.heap.size=g:=⟨_,rfl⟩;have HG:=gh hg;go_enter Tryz.func139,Tryz.ntmps139;go_wp2;rw [hg] at C0;clear hg hmk q1 q3 c1
    go_loopw [4] (fun v wr=>∃ k:Nat,k<=6/\v=.int .i64 (1+(k:Int))/\Hid (DCk w wr b s g (takeT (fun _=>false) 1 k))) (fun v _=>7 - (intOf v).toNat)
    case atStart=>exact ⟨0,by omega,by simp,C0⟩
    case round=>
     obtain ⟨k,hk,rfl,HC⟩:=hrel
     by_cases hk6:k < 6
     ·have i1:1+(k:Int)<=6:=by omega
      have i2:1+(k:Int) < (N:Int)+1:=by omega
      have i4:(1+(k:Int)).toNat=1+k:=by omega
      have b2:=HC.o.row.cell (show 1+k < s.xs.length+1 by rw [HN.o];omega);have b3:=HC.o.row.frozen (1+k);have G2:=gh (HC.o.put (1+k) (takeT_succ (fun _=>false) 1 k));go_wp2;exact ⟨⟨k+1,by omega,by simp;omega,G2⟩,by simp [intOf];omega⟩
     ·have hk6':k=6:=by omega
      subst hk6';have HFU:Hid (freeN (s.xs.length+1) (takeT (fun _=>false) 1 6) < fuel s):=gh (by
       have:=freeN_le (s.xs.length+1) (takeT (fun _=>false) 1 6)
       unfold fuel;omega)
      obtain ⟨u,hu⟩:∃ u,sndSlot s (sndW s (fuel s)) 6 (-9223372036854775808) 9223372036854775807 base0=u:=⟨_,rfl⟩;have HU:=gh hu;have HR:Hid (r=u.isSome):=gh (by rw [E2.o,hu];simp [h6]);have ew:metS s g=.slice (some ⟨g,0,none⟩) (N+1) (N+1):=by unfold metS;rw [HN.o]
      have EW:=gh ew;clear hu ew;go_wp2_with (fail);rw [<- EW.o];refine (slot_of_word_d _ (word_d (fuel s)) w _ b s _ _ HC.o 6 (-9223372036854775808) 9223372036854775807 ⟨by decide,by decide⟩ ⟨by decide,by decide⟩ HFU.o u HU.o).mono ?_;rintro e W3 ⟨rfl,hT,t',hC,ht'⟩;have HC3:=gh hC;clear hT hC ht' HC;go_wp2;go_ret;exact ⟨by rw [HR.o];rfl,HC3.o.kept⟩
   ·have HR:Hid (r=false):=gh (by rw [E2.o];simp [y3]);have g1:(z3 == 0)=false:=by simp [y3]
    have g2:(z3 != 0)=true:=by simp [y3]
    subst y1;clear y3;go_enter Tryz.func139,Tryz.ntmps139;go_wp2;go_ret;exact ⟨by rw [HR.o];rfl,Kept.refl _⟩
  ·have HR:Hid (r=false):=gh (by rw [E2.o];simp [y1]);have g1:(z1 == 1)=false:=by simp [y1]
   have g2:(z1 != 1)=true:=by simp [y1]
   clear y1;go_enter Tryz.func139,Tryz.ntmps139;go_wp2;go_ret;exact ⟨by rw [HR.o];rfl,Kept.refl _⟩
 ·have HR:Hid (r=false):=gh (by rw [e2];simp [h6]);have n6:(N:Int) < 6:=by omega
  clear h ho hrd hz1 hz3 e1 e2 hN;go_enter Tryz.func139,Tryz.ntmps139;go_wp2;go_ret;exact ⟨by rw [HR.o];rfl,Kept.refl _⟩
end
section
theorem flat_take {α β:Type} (F:α->List β) {L:List α} {k:Nat} {p:α} (h:L[k]? = some p):(L.take (k+1)).flatMap F=(L.take k).flatMap F++F p:=by
 rw [<- (at_split h).2,List.flatMap_append];simp
theorem flat_take_le {α β:Type} (F:α->List β) (L:List α) (k:Nat):((L.take k).flatMap F).length<=(L.flatMap F).length:=by
 conv=>rhs;rw [<- List.take_append_drop k L,List.flatMap_append,List.length_append]
 omega
end
end Go.Proofs.YtoaicedkepcalaaGreat
