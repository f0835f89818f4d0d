/-
  Iterators and the loops over them. 'Iter': what an iterator promises of its rounds, by the blocks that the loop's body holds as its own (O: the body turns those and new ones alone; the iterator turns none of them); 'wp_range': a loop 'for .. := range g' by its iterator's promise, its own invariant and one walk of its body. Conditions: each theorem's own.
-/
import Derived.Test.YtfckphcbleodbaaMem
import Derived.RangeFuncLeaves
namespace Go.Proofs.Ytfckphcbleodbaa
open Go.RowKit

/-- Blocks of O', but for new ones (from n on), are of O. -/
def Sub (O' O : Nat → Prop) (n : Nat) : Prop := ∀ k, O' k → O k ∨ n ≤ k

theorem Sub.refl (O : Nat → Prop) (n : Nat) : Sub O O n := fun _ h => .inl h
theorem Sub.trans {O'' O' O : Nat → Prop} {n m : Nat} (h : Sub O'' O' m) (h' : Sub O' O n) (hnm : n ≤ m) : Sub O'' O n := fun k hk => (h k hk).elim (h' k) (fun e => .inr (Nat.le_trans hnm e))
theorem Turned.sub {O O' : Nat → Prop} {a b c : World} (h : Turned O a b) (h' : Turned O' b c) (hs : Sub O' O a.heap.size) : Turned O a c :=
  h.trans h' (fun _ e => e) (fun i hi e => (hs i e).elim id (fun e' => by omega))

/-- An invariant of a loop: by the blocks that are the body's own, what has come, the world. -/
abbrev Inv (α : Type) := (Nat → Prop) → List α → World → Prop

/-- It speaks of its own blocks alone, and they lie. -/
structure Good {α : Type} (J : Inv α) : Prop where
  abides : ∀ O pre A B, J O pre A → Turned (fun k => ¬ O k) A B → J O pre B
  within : ∀ O pre A, J O pre A → ∀ k, O k → k < A.heap.size

/-- How a round ends: it goes on, or says 'no more'. -/
def RoundEnds {α : Type} (J Jx : Inv α) (O : Nat → Prop) (pre : List α) (A : World) (e : Ending) (B : World) : Prop :=
  ∃ O', Sub O' O A.heap.size ∧ Turned O A B ∧ ((e = .returned (.bool true) ∧ J O' pre B) ∨ (e = .returned (.bool false) ∧ Jx O' pre B))

/-- What an iterator (function g with lb captured) promises at world W, where it goes through xs and reads blocks of R: for whatever loop body keeps off R. -/
def Iter {α : Type} (P : Program) (g : Nat) (lb : Array Value) (encs : α → Array Value) (xs : List α) (R : Nat → Prop) (W : World) : Prop :=
  ∀ (l : Nat) (O₀ : Nat → Prop) (J Jx : Inv α), (∀ k, R k → ¬ O₀ k) → Good J → Good Jx →
    (∀ O pre x rest A, xs = pre ++ x :: rest → Turned O₀ W A → Sub O O₀ W.heap.size → J O pre A → YieldAt Fence.wide 9 P l (encs x) A (RoundEnds J Jx O (pre ++ [x]) A)) →
    J O₀ [] W →
    Calls P g (#[.func (.yield l) #[] #[]] ++ lb) W fun e W' => (∃ v, e = .returned v) ∧ ∃ O', Sub O' O₀ W.heap.size ∧ Turned O₀ W W' ∧ (J O' xs W' ∨ ∃ pre rest, xs = pre ++ rest ∧ Jx O' pre W')

/-- How a loop's body may be left. -/
def BodyEnds {α : Type} (I : Inv α) (Ix : Code → Inv α) (O : Nat → Prop) (pre : List α) (A : World) : Exit → Act → World → Prop
  | .normal, _, B => ∃ O', Sub O' O A.heap.size ∧ Turned O A B ∧ I O' pre B
  | .ret, _, B => ∃ O', Sub O' O A.heap.size ∧ Turned O A B ∧ Ix .ret O' pre B
  | .exit id, _, B => ∃ O', Sub O' O A.heap.size ∧ Turned O A B ∧ Ix (.exit id) O' pre B
  | .goto t, _, B => ∃ O', Sub O' O A.heap.size ∧ Turned O A B ∧ Ix (.goto t) O' pre B
  | .panic _, _, _ => False
  | .outgrown, _, _ => False

/-- The blocks of a loop's body, with the loop's own two (D: deferred calls; D + 1: its record). -/
def With (O : Nat → Prop) (D : Nat) : Nat → Prop := fun k => O k ∨ k = D ∨ k = D + 1

/-- The loop's invariant, as its iterator meets it: the body's, and the loop's own two blocks. -/
def Inner {α : Type} (I : Inv α) (D : Nat) (o : Obj) : Inv α := fun OO pre W =>
  ∃ O, (∀ k, OO k ↔ With O D k) ∧ ¬ O D ∧ ¬ O (D + 1) ∧ I O pre W ∧ W.heap[D + 1]? = some o ∧ W.heap[D]? = some (.deferred (some []))

theorem Inner.good {α : Type} {I : Inv α} (h : Good I) (D : Nat) (o : Obj) : Good (Inner I D o) := by
  constructor
  · rintro OO pre A B ⟨O, e, h1, h2, hi, hl, hd⟩ ht
    have ho : ∀ k, With O D k → k < A.heap.size → B.heap[k]? = A.heap[k]? := fun k hk hlt => ht.block k hlt (fun hn => hn ((e k).2 hk))
    refine ⟨O, e, h1, h2, h.abides O pre A B hi (ht.mono fun k _ hk hn => hk ((e k).2 (.inl hn))), ?_, ?_⟩
    · exact (ho _ (.inr (.inr rfl)) (Array.getElem?_eq_some_iff.1 hl).1).trans hl
    · exact (ho _ (.inr (.inl rfl)) (Array.getElem?_eq_some_iff.1 hd).1).trans hd
  · rintro OO pre A ⟨O, e, _, _, hi, hl, hd⟩ k hk
    rcases (e k).1 hk with hk | rfl | rfl
    · exact h.within O pre A hi k hk
    · exact (Array.getElem?_eq_some_iff.1 hd).1
    · exact (Array.getElem?_eq_some_iff.1 hl).1

theorem Good.ex {α : Type} {β : Type} {I : β → Inv α} (h : ∀ c, Good (I c)) : Good (fun O pre W => ∃ c, I c O pre W) :=
  ⟨fun O pre A B ⟨c, hi⟩ ht => ⟨c, (h c).abides O pre A B hi ht⟩, fun O pre A ⟨c, hi⟩ => (h c).within O pre A hi⟩


/-- **A LOOP OVER AN ITERATOR** (not within another such loop's body): by the iterator's promise, the loop's invariant I (Ix c: where a round has left by the jump c) and one walk of its body. -/
theorem wp_range {P : Program} {α : Type} {n : Nat} {g : Operand} {ps : Array Tmp} {assign body : Code} {Q : Exit → Act → World → Prop} {a : Act} {w : World}
    {gf : Nat} {lb : Array Value} (hg : a.eval g = .func (.func gf) #[] lb) (eg : ∀ args w, (callFunc gf args).run P w = .ok (.enter gf args) w)
    {encs : α → Array Value} {xs : List α} {R : Nat → Prop} (hit : ∀ W, Turned (fun _ => False) w W → Iter P gf lb encs xs R W) (hps : ∀ x, (encs x).size = ps.size)
    (O₀ : Nat → Prop) (I : Inv α) (Ix : Code → Inv α) (hR : ∀ k, R k → k < w.heap.size ∧ ¬ O₀ k) (hI : Good I) (hIx : ∀ c, Good (Ix c)) (h0 : I O₀ [] w) (a₁ : α → Act)
    (hassign : ∀ (l : Nat) (x : α) (W : World) (K : Act → World → Prop), K (a₁ x) W →
      assign.wpIn (Fence.wide.inRound l) 9 P (Exit.then K (fun _ _ _ => False)) { tmps := (ps.zip (encs x)).foldl (fun t (p, v) => t.setIfInBounds p v) a.tmps, defers := [] } W)
    (hbody : ∀ (l : Nat) (O : Nat → Prop) (pre : List α) (x : α) (rest : List α) (W : World), xs = pre ++ x :: rest → Turned O₀ w W → Sub O O₀ w.heap.size → I O pre W →
      body.wpIn (Fence.wide.inRound l) 9 P (BodyEnds I Ix O (pre ++ [x]) W) (a₁ x) W)
    (hdone : ∀ (D : Nat) (O : Nat → Prop) (W : World), w.heap.size ≤ D → ¬ O D → Turned O₀ w W → Sub O O₀ w.heap.size → I O xs W → W.heap[D]? = some (.deferred (some [])) →
      Q .normal { a with defers := { target := .collected D, args := #[] } :: a.defers } W)
    (hstop : ∀ (D : Nat) (O : Nat → Prop) (c : Code) (pre rest : List α) (W : World), w.heap.size ≤ D → ¬ O D → Turned O₀ w W → Sub O O₀ w.heap.size → xs = pre ++ rest → Ix c O pre W → W.heap[D]? = some (.deferred (some [])) →
      c.wpIn Fence.wide n P Q { a with defers := { target := .collected D, args := #[] } :: a.defers } W) :
    (Code.rangeFunc g ps assign body).wpIn Fence.wide n P Q a w := by
  refine wpIn_rangeFunc ?_
  intro fn hfn
  obtain ⟨rec, hrec⟩ : ∃ rec : LoopState → Option Code → Loop, rec = fun st pe => { state := st, pending := pe, fn, tmps := a.tmps, params := ps, assign, body, defers := w.heap.size } := ⟨_, rfl⟩
  obtain ⟨D, hD⟩ : ∃ D, w.heap.size = D := ⟨_, rfl⟩
  obtain ⟨W1, hW1⟩ : ∃ W1, (w.alloc (.deferred (some []))).alloc (.loop (rec .ready none)) = W1 := ⟨_, rfl⟩
  have t1 : Turned (fun _ => False) w W1 := by
    rw [← hW1]
    exact (Turned.alloc _ w _).trans (Turned.alloc _ _ _) (fun _ h => h) (fun _ _ h => h)
  have z1 : W1.heap.size = D + 2 := by rw [← hW1, World.size_alloc, World.size_alloc, hD]
  have hl1 : W1.heap[D + 1]? = some (.loop (rec .ready none)) := by
    rw [← hW1, ← hD]
    have := World.alloc_heap_new (w.alloc (.deferred (some []))) (.loop (rec .ready none))
    rwa [World.size_alloc] at this
  have hd1 : W1.heap[D]? = some (.deferred (some [])) := by
    rw [← hW1, ← hD]
    exact (Below.heap_alloc _ _ _ (by simp)).trans (World.alloc_heap_new w _)
  have w0 : ∀ k, O₀ k → k < D := fun k hk => by rw [← hD]; exact hI.within O₀ [] w h0 k hk
  have hi1 : I O₀ [] W1 := hI.abides O₀ [] w W1 h0 (t1.mono fun _ _ h => h.elim)
  -- what is said of the body's blocks is said from the loop's beginning on
  have back : ∀ {OO : Nat → Prop} {A : World}, Turned OO W1 A → (∀ k, OO k ↔ With O₀ D k) → Turned O₀ w A := fun {OO A} h e =>
    t1.trans h (fun _ h => h.elim) (fun i hi hk => by
      rcases (e i).1 hk with hk | rfl | rfl
      · exact hk
      · omega
      · omega)
  have e0 : ∀ k, With O₀ D k ↔ With O₀ D k := fun _ => Iff.rfl
  refine ⟨D + 1, [{ target := .collected D, args := #[] }], W1, { target := .fn (.func gf) lb, args := #[.func (.yield (D + 1)) #[] #[]] }, W1, gf,
    #[.func (.yield (D + 1)) #[] #[]] ++ lb, W1, ?_, ?_, fun _ _ => trivial, ?_, fun h => by simp [Fence.wide] at h, ?_⟩
  · rw [← hW1, ← hD, hrec]
    exact run_enterLoop_outer _ _ _ _ _
  · simp only [resolve, hg]
    simp [go_sem]
  · simp [invoke, go_sem, eg]
  · have hc := hit W1 t1 (D + 1) (With O₀ D) (Inner I D (.loop (rec .ready none))) (fun OO pre W => ∃ c, Inner (Ix c) D (.loop (rec .done (some c))) OO pre W)
      (fun k hk hO => by
        obtain ⟨hk1, hk2⟩ := hR k hk
        rcases hO with hO | rfl | rfl
        · exact hk2 hO
        · omega
        · omega)
      (Inner.good hI D _) (Good.ex fun c => Inner.good (hIx c) D _) ?_ ⟨O₀, e0, fun h => by have := w0 _ h; omega, fun h => by have := w0 _ h; omega, hi1, hl1, hd1⟩
    · refine callsIn_wide.2 (hc.mono ?_)
      rintro e W2 ⟨⟨v, rfl⟩, OO, hsub, ht, hJ⟩
      have tb := back ht e0
      rcases hJ with ⟨O, e, n1, n2, hi, hl, hd⟩ | ⟨pre, rest, hx, c, O, e, n1, n2, hi, hl, hd⟩
      · obtain ⟨o, hr⟩ : ∃ o, (Instr.endLoop (D + 1)).run P W2 = .ok none (W2.putObj (D + 1) o) := ⟨_, by have := run_endLoop (P := P) hl (by rw [hrec]; simp); rw [hrec] at this; exact this⟩
        have hput : Turned (fun k => k = D + 1) W2 (W2.putObj (D + 1) o) := Turned.putObj _ _ _ rfl
        refine ⟨none, _, hr, ?_⟩
        refine hdone D O _ (by omega) n1 (tb.trans hput (fun _ h => h) (fun i hi h => by omega)) ?_ (hI.abides O xs W2 _ hi (hput.mono fun k _ hk hO => n2 (by rw [← hk]; exact hO))) ((World.putObj_heap_other (by omega)).trans hd)
        intro k hk
        rcases hsub k ((e k).2 (.inl hk)) with (h | rfl | rfl) | h
        · exact .inl h
        · exact (n1 hk).elim
        · exact (n2 hk).elim
        · exact .inr (by omega)
      · obtain ⟨o, hr⟩ : ∃ o, (Instr.endLoop (D + 1)).run P W2 = .ok (some c) (W2.putObj (D + 1) o) := ⟨_, by have := run_endLoop (P := P) hl (by rw [hrec]; simp); rw [hrec] at this; exact this⟩
        have hput : Turned (fun k => k = D + 1) W2 (W2.putObj (D + 1) o) := Turned.putObj _ _ _ rfl
        refine ⟨some c, _, hr, ?_⟩
        refine hstop D O c pre rest _ (by omega) n1 (tb.trans hput (fun _ h => h) (fun i hi h => by omega)) ?_ hx ((hIx c).abides O pre W2 _ hi (hput.mono fun k _ hk hO => n2 (by rw [← hk]; exact hO))) ((World.putObj_heap_other (by omega)).trans hd)
        intro k hk
        rcases hsub k ((e k).2 (.inl hk)) with (h | rfl | rfl) | h
        · exact .inl h
        · exact (n1 hk).elim
        · exact (n2 hk).elim
        · exact .inr (by omega)
    · -- one round
      rintro OO pre x rest A hx tA hsA ⟨O, e, n1, n2, hi, hl, hd⟩
      have hlt : D + 1 < A.heap.size := (Array.getElem?_eq_some_iff.1 hl).1
      have tb := back tA e0
      have sO : Sub O O₀ w.heap.size := fun k hk => by
        rcases hsA k ((e k).2 (.inl hk)) with (h | rfl | rfl) | h
        · exact .inl h
        · exact (n1 hk).elim
        · exact (n2 hk).elim
        · exact .inr (by omega)
      have hy := run_yield (P := P) (args := encs x) hl (by rw [hrec]; exact hps x)
      rw [hrec] at hy
      refine ⟨fn, _, assign, body, hy, roundIn_of_wpIn hfn (hassign _ x A _ ⟨_, run_beginRound hl (by rw [hrec]), ?_⟩)⟩
      clear hy
      obtain ⟨A1, hA1⟩ : ∃ A1, A.putObj (D + 1) (.loop { rec .ready none with state := .busy }) = A1 := ⟨_, rfl⟩
      rw [hA1]
      have hput : Turned (fun k => k = D + 1) A A1 := by rw [← hA1]; exact Turned.putObj _ _ _ rfl
      have hl2 : A1.heap[D + 1]? = some (.loop { rec .ready none with state := .busy }) := by rw [← hA1]; exact World.putObj_heap_same hlt
      have hd2 : A1.heap[D]? = some (.deferred (some [])) := by rw [← hA1]; exact (World.putObj_heap_other (by omega)).trans hd
      have zA : A1.heap.size = A.heap.size := by rw [← hA1]; simp
      have hi2 : I O pre A1 := hI.abides O pre A A1 hi (hput.mono fun k _ hk hO => n2 (by rw [← hk]; exact hO))
      have fin : ∀ (jump : Option Code) (B : World), Turned O A1 B →
          (Instr.endRound (D + 1) jump).run P B = .ok (.bool jump.isNone) (B.putObj (D + 1) (.loop (rec (if jump.isNone then .ready else .done) jump))) ∧
          (B.putObj (D + 1) (.loop (rec (if jump.isNone then .ready else .done) jump))).heap[D + 1]? = some (.loop (rec (if jump.isNone then .ready else .done) jump)) ∧
          (B.putObj (D + 1) (.loop (rec (if jump.isNone then .ready else .done) jump))).heap[D]? = some (.deferred (some [])) ∧
          Turned OO A (B.putObj (D + 1) (.loop (rec (if jump.isNone then .ready else .done) jump))) := fun jump B tB => by
        have hl3 := tB.heap hl2 n2
        have hd3 := tB.heap hd2 n1
        have hr := run_endRound (P := P) jump hl3
        rw [hrec] at hr ⊢
        refine ⟨hr, World.putObj_heap_same (Array.getElem?_eq_some_iff.1 hl3).1, (World.putObj_heap_other (by omega)).trans hd3, ?_⟩
        refine (hput.trans (tB.trans (Turned.putObj (R := fun k => k = D + 1) B (D + 1) _ rfl) (R'' := OO) (fun k hk => (e k).2 (.inl hk)) (fun k _ hk => (e k).2 (.inr (.inr hk)))) (fun k hk => (e k).2 (.inr (.inr hk))) (fun _ _ h => h))
      have fol : ∀ {O' : Nat → Prop} {J' : Inv α} {o : Obj} {B : World} {ys : List α}, Good J' → Sub O' O A1.heap.size → Turned O A1 B → J' O' ys B → (∀ k, O' k → k < B.heap.size) →
          (B.putObj (D + 1) o).heap[D + 1]? = some o → (B.putObj (D + 1) o).heap[D]? = some (.deferred (some [])) → Sub (With O' D) OO A.heap.size ∧ Inner J' D o (With O' D) ys (B.putObj (D + 1) o) := fun {O' J' o B ys} gJ s' tB hj wi q1 q2 => by
        have m1 : ¬ O' D := fun h => (s' D h).elim n1 (fun h' => by omega)
        have m2 : ¬ O' (D + 1) := fun h => (s' (D + 1) h).elim n2 (fun h' => by omega)
        refine ⟨fun k hk => ?_, O', fun _ => Iff.rfl, m1, m2, gJ.abides O' ys B _ hj ((Turned.putObj (R := fun k => k = D + 1) B (D + 1) o rfl).mono fun k _ hk hO => m2 (by rw [← hk]; exact hO)), q1, q2⟩
        rcases hk with hk | rfl | rfl
        · exact (s' k hk).imp (fun h => (e k).2 (.inl h)) (fun h => by omega)
        · exact .inl ((e _).2 (.inr (.inl rfl)))
        · exact .inl ((e _).2 (.inr (.inr rfl)))
      refine wpIn_mono (hbody _ O pre x rest A1 hx (tb.trans hput (fun _ h => h) (fun i hi h => by omega)) sO hi2) ?_
      rintro ex a3 B hp
      cases ex with
      | normal =>
        obtain ⟨O', s', tB, hj⟩ := hp
        obtain ⟨hr, q1, q2, q3⟩ := fin none B tB
        obtain ⟨f1, f2⟩ := fol hI s' tB hj (hI.within _ _ _ hj) q1 q2
        exact ⟨_, _, hr, With O' D, f1, q3, .inl ⟨rfl, f2⟩⟩
      | ret =>
        obtain ⟨O', s', tB, hj⟩ := hp
        obtain ⟨hr, q1, q2, q3⟩ := fin (some .ret) B tB
        obtain ⟨f1, f2⟩ := fol (hIx _) s' tB hj ((hIx _).within _ _ _ hj) q1 q2
        exact ⟨_, _, hr, With O' D, f1, q3, .inr ⟨rfl, _, f2⟩⟩
      | exit id =>
        obtain ⟨O', s', tB, hj⟩ := hp
        obtain ⟨hr, q1, q2, q3⟩ := fin (some (.exit id)) B tB
        obtain ⟨f1, f2⟩ := fol (hIx _) s' tB hj ((hIx _).within _ _ _ hj) q1 q2
        exact ⟨_, _, hr, With O' D, f1, q3, .inr ⟨rfl, _, f2⟩⟩
      | goto t =>
        obtain ⟨O', s', tB, hj⟩ := hp
        obtain ⟨hr, q1, q2, q3⟩ := fin (some (.goto t)) B tB
        obtain ⟨f1, f2⟩ := fol (hIx _) s' tB hj ((hIx _).within _ _ _ hj) q1 q2
        exact ⟨_, _, hr, With O' D, f1, q3, .inr ⟨rfl, _, f2⟩⟩
      | panic ch => exact hp.elim
      | outgrown => exact hp.elim

/-- The same, outside the fence. -/
theorem wp_range' {P : Program} {α : Type} {g : Operand} {ps : Array Tmp} {assign body : Code} {Q : Exit → Act → World → Prop} {a : Act} {w : World}
    {gf : Nat} {lb : Array Value} (hg : a.eval g = .func (.func gf) #[] lb) (eg : ∀ args w, (callFunc gf args).run P w = .ok (.enter gf args) w)
    {encs : α → Array Value} {xs : List α} {R : Nat → Prop} (hit : ∀ W, Turned (fun _ => False) w W → Iter P gf lb encs xs R W) (hps : ∀ x, (encs x).size = ps.size)
    (O₀ : Nat → Prop) (I : Inv α) (Ix : Code → Inv α) (hR : ∀ k, R k → k < w.heap.size ∧ ¬ O₀ k) (hI : Good I) (hIx : ∀ c, Good (Ix c)) (h0 : I O₀ [] w) (a₁ : α → Act)
    (hassign : ∀ (l : Nat) (x : α) (W : World) (K : Act → World → Prop), K (a₁ x) W →
      assign.wpIn (Fence.wide.inRound l) 9 P (Exit.then K (fun _ _ _ => False)) { tmps := (ps.zip (encs x)).foldl (fun t (p, v) => t.setIfInBounds p v) a.tmps, defers := [] } W)
    (hbody : ∀ (l : Nat) (O : Nat → Prop) (pre : List α) (x : α) (rest : List α) (W : World), xs = pre ++ x :: rest → Turned O₀ w W → Sub O O₀ w.heap.size → I O pre W →
      body.wpIn (Fence.wide.inRound l) 9 P (BodyEnds I Ix O (pre ++ [x]) W) (a₁ x) W)
    (hdone : ∀ (D : Nat) (O : Nat → Prop) (W : World), w.heap.size ≤ D → ¬ O D → Turned O₀ w W → Sub O O₀ w.heap.size → I O xs W → W.heap[D]? = some (.deferred (some [])) →
      Q .normal { a with defers := { target := .collected D, args := #[] } :: a.defers } W)
    (hstop : ∀ (D : Nat) (O : Nat → Prop) (c : Code) (pre rest : List α) (W : World), w.heap.size ≤ D → ¬ O D → Turned O₀ w W → Sub O O₀ w.heap.size → xs = pre ++ rest → Ix c O pre W → W.heap[D]? = some (.deferred (some [])) →
      c.wp P Q { a with defers := { target := .collected D, args := #[] } :: a.defers } W) :
    (Code.rangeFunc g ps assign body).wp P Q a w :=
  (wpIn_wide (n := 9)).1 (wp_range hg eg hit hps O₀ I Ix hR hI hIx h0 a₁ hassign hbody hdone (fun D O c pre rest W h1 h2 h3 h4 h5 h6 h7 => wpIn_wide.2 (hstop D O c pre rest W h1 h2 h3 h4 h5 h6 h7)))

/-- A function whose body holds a loop over an iterator, from its body. -/
theorem calls_marks {P : Program} {f : FuncId} {fn : Func} {c : Code} {args : Array Value} {w : World} {Q : Ending → World → Prop}
    (hf : P.funcs[f]? = some fn) (hb : fn.body = some c)
    (h : c.wp P (bodyPostM Fence.wide 9 P fn Q) { tmps := args ++ Array.replicate (fn.ntmps - args.size) undef, defers := [] } w) : Calls P f args w Q :=
  (callsIn_wide (n := 9)).1 (callsIn_of_wp_marks hf hb trivial (wpIn_wide.2 h) rfl)

/-- What lies in a block that is the body's own abides. -/
theorem Boxed.own {O : Nat → Prop} {A A' : World} {B : Nat} {t : TypeId} {u : Value} (h : Boxed A B t u) (hO : O B) (ht : Turned (fun k => ¬ O k) A A') : Boxed A' B t u := ht.boxed h (fun hn => hn hO)

end Go.Proofs.Ytfckphcbleodbaa
