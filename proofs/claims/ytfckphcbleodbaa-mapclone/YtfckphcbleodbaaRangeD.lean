/-
  Loops over iterators whose own steps turn nothing but the loop's record (and draw): an invariant may then speak of whatever lies in cells ('IterD', 'wp_rangeD'). Conditions: each theorem's own.
-/
import Derived.Test.YtfckphcbleodbaaIter
import Derived.Test.YtfckphcbleodbaaTree
namespace Go.Proofs.Ytfckphcbleodbaa
open Go.RowKit

/-- What lies in cells, and what lies ahead of n, lies as it lay. -/
structure Calm (n : Nat) (A B : World) : Prop where
  os : B.os = A.os
  tape : B.tape = A.tape
  output : B.output = A.output
  size : A.heap.size ≤ B.heap.size
  block : ∀ k, k < A.heap.size → (k < n ∨ ∃ cs t f, A.heap[k]? = some (.cells cs t f)) → B.heap[k]? = A.heap[k]?
theorem Calm.of_kept (n : Nat) {A B : World} (h : Kept A B) : Calm n A B := ⟨h.os, h.tape, h.output, h.size, fun k hk _ => h.block k hk id⟩
theorem Calm.drew (n : Nat) (A : World) : Calm n A A.drew := Calm.of_kept n (Kept.drew A)
theorem Calm.put {n : Nat} {A : World} {l : Nat} {r : Loop} {o : Obj} (hl : A.heap[l]? = some (.loop r)) (hn : n ≤ l) : Calm n A (A.putObj l o) := by
  refine ⟨rfl, rfl, rfl, by simp, fun k _ h => World.putObj_heap_other ?_⟩
  rintro rfl
  rcases h with h | ⟨cs, t, f, h⟩
  · omega
  · rw [hl] at h
    cases h
theorem Calm.heap {n : Nat} {A B : World} (h : Calm n A B) {k : Nat} {cs : Array Value} {t : TypeId} {f : Nat × Nat} (hk : A.heap[k]? = some (.cells cs t f)) : B.heap[k]? = some (.cells cs t f) :=
  (h.block k (Array.getElem?_eq_some_iff.1 hk).1 (.inr ⟨cs, t, f, hk⟩)).trans hk

/-- What such an iterator promises. -/
def IterD {α : Type} (P : Program) (g : Nat) (lb : Array Value) (encs : α → Array Value) (xs : List α) (R : Nat → Prop) (W : World) : Prop :=
  ∀ (l : Nat) (O₀ : Nat → Prop) (J Jx : Inv α), (∀ k, R k → ¬ O₀ k) → (∀ O pre A, J O pre A → J O pre A.drew) →
    (∀ O pre x rest A, xs = pre ++ x :: rest → Turned O₀ W A → Sub O O₀ W.heap.size → J O pre A → YieldAt Fence.wide 9 P l (encs x) A (RoundEnds J Jx O (pre ++ [x]) A)) →
    J O₀ [] W →
    Calls P g (#[.func (.yield l) #[] #[]] ++ lb) W fun e W' => (∃ v, e = .returned v) ∧ ∃ O', Sub O' O₀ W.heap.size ∧ Turned O₀ W W' ∧ (J O' xs W' ∨ ∃ pre rest, xs = pre ++ rest ∧ Jx O' pre W')

/-- **A LOOP OVER AN ITERATOR** (not within another such loop's body): by the iterator's promise, the loop's invariant I (Ix c: where a round has left by the jump c) and one walk of its body. -/
theorem wp_rangeD {P : Program} {α : Type} {n : Nat} {g : Operand} {ps : Array Tmp} {assign body : Code} {Q : Exit → Act → World → Prop} {a : Act} {w : World}
    {gf : Nat} {lb : Array Value} (hg : a.eval g = .func (.func gf) #[] lb) (eg : ∀ args w, (callFunc gf args).run P w = .ok (.enter gf args) w)
    {encs : α → Array Value} {xs : List α} {R : Nat → Prop} (hit : ∀ W, Turned (fun _ => False) w W → IterD P gf lb encs xs R W) (hps : ∀ x, (encs x).size = ps.size)
    (O₀ : Nat → Prop) (I : Inv α) (Ix : Code → Inv α) (hR : ∀ k, R k → k < w.heap.size ∧ ¬ O₀ k) (hO0 : ∀ k, O₀ k → k < w.heap.size) (hI : ∀ O pre A B, I O pre A → Calm w.heap.size A B → I O pre B) (hIx : ∀ c O pre A B, Ix c O pre A → Calm w.heap.size A B → Ix c O pre B) (h0 : I O₀ [] w) (a₁ : α → Act)
    (hassign : ∀ (l : Nat) (x : α) (W : World) (K : Act → World → Prop), K (a₁ x) W →
      assign.wpIn (Fence.wide.inRound l) 9 P (Exit.then K (fun _ _ _ => False)) { tmps := (ps.zip (encs x)).foldl (fun t (p, v) => t.setIfInBounds p v) a.tmps, defers := [] } W)
    (hbody : ∀ (l : Nat) (O : Nat → Prop) (pre : List α) (x : α) (rest : List α) (W : World), xs = pre ++ x :: rest → Turned O₀ w W → Sub O O₀ w.heap.size → I O pre W →
      body.wpIn (Fence.wide.inRound l) 9 P (BodyEnds I Ix O (pre ++ [x]) W) (a₁ x) W)
    (hdone : ∀ (D : Nat) (O : Nat → Prop) (W : World), w.heap.size ≤ D → ¬ O D → Turned O₀ w W → Sub O O₀ w.heap.size → I O xs W → W.heap[D]? = some (.deferred (some [])) →
      Q .normal { a with defers := { target := .collected D, args := #[] } :: a.defers } W)
    (hstop : ∀ (D : Nat) (O : Nat → Prop) (c : Code) (pre rest : List α) (W : World), w.heap.size ≤ D → ¬ O D → Turned O₀ w W → Sub O O₀ w.heap.size → xs = pre ++ rest → Ix c O pre W → W.heap[D]? = some (.deferred (some [])) →
      c.wpIn Fence.wide n P Q { a with defers := { target := .collected D, args := #[] } :: a.defers } W) :
    (Code.rangeFunc g ps assign body).wpIn Fence.wide n P Q a w := by
  refine wpIn_rangeFunc ?_
  intro fn hfn
  obtain ⟨rec, hrec⟩ : ∃ rec : LoopState → Option Code → Loop, rec = fun st pe => { state := st, pending := pe, fn, tmps := a.tmps, params := ps, assign, body, defers := w.heap.size } := ⟨_, rfl⟩
  obtain ⟨D, hD⟩ : ∃ D, w.heap.size = D := ⟨_, rfl⟩
  obtain ⟨W1, hW1⟩ : ∃ W1, (w.alloc (.deferred (some []))).alloc (.loop (rec .ready none)) = W1 := ⟨_, rfl⟩
  have t1 : Turned (fun _ => False) w W1 := by
    rw [← hW1]
    exact (Turned.alloc _ w _).trans (Turned.alloc _ _ _) (fun _ h => h) (fun _ _ h => h)
  have z1 : W1.heap.size = D + 2 := by rw [← hW1, World.size_alloc, World.size_alloc, hD]
  have hl1 : W1.heap[D + 1]? = some (.loop (rec .ready none)) := by
    rw [← hW1, ← hD]
    have := World.alloc_heap_new (w.alloc (.deferred (some []))) (.loop (rec .ready none))
    rwa [World.size_alloc] at this
  have hd1 : W1.heap[D]? = some (.deferred (some [])) := by
    rw [← hW1, ← hD]
    exact (Below.heap_alloc _ _ _ (by simp)).trans (World.alloc_heap_new w _)
  have w0 : ∀ k, O₀ k → k < D := fun k hk => by rw [← hD]; exact hO0 k hk
  have hi1 : I O₀ [] W1 := hI O₀ [] w W1 h0 (Calm.of_kept _ t1)
  -- what is said of the body's blocks is said from the loop's beginning on
  have back : ∀ {OO : Nat → Prop} {A : World}, Turned OO W1 A → (∀ k, OO k ↔ With O₀ D k) → Turned O₀ w A := fun {OO A} h e =>
    t1.trans h (fun _ h => h.elim) (fun i hi hk => by
      rcases (e i).1 hk with hk | rfl | rfl
      · exact hk
      · omega
      · omega)
  have e0 : ∀ k, With O₀ D k ↔ With O₀ D k := fun _ => Iff.rfl
  refine ⟨D + 1, [{ target := .collected D, args := #[] }], W1, { target := .fn (.func gf) lb, args := #[.func (.yield (D + 1)) #[] #[]] }, W1, gf,
    #[.func (.yield (D + 1)) #[] #[]] ++ lb, W1, ?_, ?_, fun _ _ => trivial, ?_, fun h => by simp [Fence.wide] at h, ?_⟩
  · rw [← hW1, ← hD, hrec]
    exact run_enterLoop_outer _ _ _ _ _
  · simp only [resolve, hg]
    simp [go_sem]
  · simp [invoke, go_sem, eg]
  · have hc := hit W1 t1 (D + 1) (With O₀ D) (Inner I D (.loop (rec .ready none))) (fun OO pre W => ∃ c, Inner (Ix c) D (.loop (rec .done (some c))) OO pre W)
      (fun k hk hO => by
        obtain ⟨hk1, hk2⟩ := hR k hk
        rcases hO with hO | rfl | rfl
        · exact hk2 hO
        · omega
        · omega)
      (fun OO pre A ⟨O, e, n1, n2, hi, hl, hd⟩ => ⟨O, e, n1, n2, hI O pre A _ hi (Calm.drew _ A), hl, hd⟩) ?_ ⟨O₀, e0, fun h => by have := w0 _ h; omega, fun h => by have := w0 _ h; omega, hi1, hl1, hd1⟩
    · refine callsIn_wide.2 (hc.mono ?_)
      rintro e W2 ⟨⟨v, rfl⟩, OO, hsub, ht, hJ⟩
      have tb := back ht e0
      rcases hJ with ⟨O, e, n1, n2, hi, hl, hd⟩ | ⟨pre, rest, hx, c, O, e, n1, n2, hi, hl, hd⟩
      · obtain ⟨o, hr⟩ : ∃ o, (Instr.endLoop (D + 1)).run P W2 = .ok none (W2.putObj (D + 1) o) := ⟨_, by have := run_endLoop (P := P) hl (by rw [hrec]; simp); rw [hrec] at this; exact this⟩
        have hput : Turned (fun k => k = D + 1) W2 (W2.putObj (D + 1) o) := Turned.putObj _ _ _ rfl
        refine ⟨none, _, hr, ?_⟩
        refine hdone D O _ (by omega) n1 (tb.trans hput (fun _ h => h) (fun i hi h => by omega)) ?_ (hI O xs W2 _ hi (Calm.put hl (by omega))) ((World.putObj_heap_other (by omega)).trans hd)
        intro k hk
        rcases hsub k ((e k).2 (.inl hk)) with (h | rfl | rfl) | h
        · exact .inl h
        · exact (n1 hk).elim
        · exact (n2 hk).elim
        · exact .inr (by omega)
      · obtain ⟨o, hr⟩ : ∃ o, (Instr.endLoop (D + 1)).run P W2 = .ok (some c) (W2.putObj (D + 1) o) := ⟨_, by have := run_endLoop (P := P) hl (by rw [hrec]; simp); rw [hrec] at this; exact this⟩
        have hput : Turned (fun k => k = D + 1) W2 (W2.putObj (D + 1) o) := Turned.putObj _ _ _ rfl
        refine ⟨some c, _, hr, ?_⟩
        refine hstop D O c pre rest _ (by omega) n1 (tb.trans hput (fun _ h => h) (fun i hi h => by omega)) ?_ hx (hIx c O pre W2 _ hi (Calm.put hl (by omega))) ((World.putObj_heap_other (by omega)).trans hd)
        intro k hk
        rcases hsub k ((e k).2 (.inl hk)) with (h | rfl | rfl) | h
        · exact .inl h
        · exact (n1 hk).elim
        · exact (n2 hk).elim
        · exact .inr (by omega)
    · -- one round
      rintro OO pre x rest A hx tA hsA ⟨O, e, n1, n2, hi, hl, hd⟩
      have hlt : D + 1 < A.heap.size := (Array.getElem?_eq_some_iff.1 hl).1
      have tb := back tA e0
      have sO : Sub O O₀ w.heap.size := fun k hk => by
        rcases hsA k ((e k).2 (.inl hk)) with (h | rfl | rfl) | h
        · exact .inl h
        · exact (n1 hk).elim
        · exact (n2 hk).elim
        · exact .inr (by omega)
      have hy := run_yield (P := P) (args := encs x) hl (by rw [hrec]; exact hps x)
      rw [hrec] at hy
      refine ⟨fn, _, assign, body, hy, roundIn_of_wpIn hfn (hassign _ x A _ ⟨_, run_beginRound hl (by rw [hrec]), ?_⟩)⟩
      clear hy
      obtain ⟨A1, hA1⟩ : ∃ A1, A.putObj (D + 1) (.loop { rec .ready none with state := .busy }) = A1 := ⟨_, rfl⟩
      rw [hA1]
      have hput : Turned (fun k => k = D + 1) A A1 := by rw [← hA1]; exact Turned.putObj _ _ _ rfl
      have hl2 : A1.heap[D + 1]? = some (.loop { rec .ready none with state := .busy }) := by rw [← hA1]; exact World.putObj_heap_same hlt
      have hd2 : A1.heap[D]? = some (.deferred (some [])) := by rw [← hA1]; exact (World.putObj_heap_other (by omega)).trans hd
      have zA : A1.heap.size = A.heap.size := by rw [← hA1]; simp
      have hi2 : I O pre A1 := by rw [← hA1]; exact hI O pre A _ hi (Calm.put hl (by omega))
      have fin : ∀ (jump : Option Code) (B : World), Turned O A1 B →
          (Instr.endRound (D + 1) jump).run P B = .ok (.bool jump.isNone) (B.putObj (D + 1) (.loop (rec (if jump.isNone then .ready else .done) jump))) ∧
          (B.putObj (D + 1) (.loop (rec (if jump.isNone then .ready else .done) jump))).heap[D + 1]? = some (.loop (rec (if jump.isNone then .ready else .done) jump)) ∧
          (B.putObj (D + 1) (.loop (rec (if jump.isNone then .ready else .done) jump))).heap[D]? = some (.deferred (some [])) ∧
          Turned OO A (B.putObj (D + 1) (.loop (rec (if jump.isNone then .ready else .done) jump))) := fun jump B tB => by
        have hl3 := tB.heap hl2 n2
        have hd3 := tB.heap hd2 n1
        have hr := run_endRound (P := P) jump hl3
        rw [hrec] at hr ⊢
        refine ⟨hr, World.putObj_heap_same (Array.getElem?_eq_some_iff.1 hl3).1, (World.putObj_heap_other (by omega)).trans hd3, ?_⟩
        refine (hput.trans (tB.trans (Turned.putObj (R := fun k => k = D + 1) B (D + 1) _ rfl) (R'' := OO) (fun k hk => (e k).2 (.inl hk)) (fun k _ hk => (e k).2 (.inr (.inr hk)))) (fun k hk => (e k).2 (.inr (.inr hk))) (fun _ _ h => h))
      have fol : ∀ {O' : Nat → Prop} {J' : Inv α} {o : Obj} {B : World} {ys : List α}, (∀ O pre A B, J' O pre A → Calm w.heap.size A B → J' O pre B) → Sub O' O A1.heap.size → Turned O A1 B → J' O' ys B → (∃ r, B.heap[D + 1]? = some (.loop r)) →
          (B.putObj (D + 1) o).heap[D + 1]? = some o → (B.putObj (D + 1) o).heap[D]? = some (.deferred (some [])) → Sub (With O' D) OO A.heap.size ∧ Inner J' D o (With O' D) ys (B.putObj (D + 1) o) := fun {O' J' o B ys} gJ s' tB hj wi q1 q2 => by
        have m1 : ¬ O' D := fun h => (s' D h).elim n1 (fun h' => by omega)
        have m2 : ¬ O' (D + 1) := fun h => (s' (D + 1) h).elim n2 (fun h' => by omega)
        refine ⟨fun k hk => ?_, O', fun _ => Iff.rfl, m1, m2, gJ O' ys B _ hj (Calm.put wi.choose_spec (by omega)), q1, q2⟩
        rcases hk with hk | rfl | rfl
        · exact (s' k hk).imp (fun h => (e k).2 (.inl h)) (fun h => by omega)
        · exact .inl ((e _).2 (.inr (.inl rfl)))
        · exact .inl ((e _).2 (.inr (.inr rfl)))
      refine wpIn_mono (hbody _ O pre x rest A1 hx (tb.trans hput (fun _ h => h) (fun i hi h => by omega)) sO hi2) ?_
      rintro ex a3 B hp
      cases ex with
      | normal =>
        obtain ⟨O', s', tB, hj⟩ := hp
        obtain ⟨hr, q1, q2, q3⟩ := fin none B tB
        obtain ⟨f1, f2⟩ := fol hI s' tB hj ⟨_, tB.heap hl2 n2⟩ q1 q2
        exact ⟨_, _, hr, With O' D, f1, q3, .inl ⟨rfl, f2⟩⟩
      | ret =>
        obtain ⟨O', s', tB, hj⟩ := hp
        obtain ⟨hr, q1, q2, q3⟩ := fin (some .ret) B tB
        obtain ⟨f1, f2⟩ := fol (hIx _) s' tB hj ⟨_, tB.heap hl2 n2⟩ q1 q2
        exact ⟨_, _, hr, With O' D, f1, q3, .inr ⟨rfl, _, f2⟩⟩
      | exit id =>
        obtain ⟨O', s', tB, hj⟩ := hp
        obtain ⟨hr, q1, q2, q3⟩ := fin (some (.exit id)) B tB
        obtain ⟨f1, f2⟩ := fol (hIx _) s' tB hj ⟨_, tB.heap hl2 n2⟩ q1 q2
        exact ⟨_, _, hr, With O' D, f1, q3, .inr ⟨rfl, _, f2⟩⟩
      | goto t =>
        obtain ⟨O', s', tB, hj⟩ := hp
        obtain ⟨hr, q1, q2, q3⟩ := fin (some (.goto t)) B tB
        obtain ⟨f1, f2⟩ := fol (hIx _) s' tB hj ⟨_, tB.heap hl2 n2⟩ q1 q2
        exact ⟨_, _, hr, With O' D, f1, q3, .inr ⟨rfl, _, f2⟩⟩
      | panic ch => exact hp.elim
      | outgrown => exact hp.elim

/-- The same, outside the fence. -/
theorem wp_rangeD' {P : Program} {α : Type} {g : Operand} {ps : Array Tmp} {assign body : Code} {Q : Exit → Act → World → Prop} {a : Act} {w : World}
    {gf : Nat} {lb : Array Value} (hg : a.eval g = .func (.func gf) #[] lb) (eg : ∀ args w, (callFunc gf args).run P w = .ok (.enter gf args) w)
    {encs : α → Array Value} {xs : List α} {R : Nat → Prop} (hit : ∀ W, Turned (fun _ => False) w W → IterD P gf lb encs xs R W) (hps : ∀ x, (encs x).size = ps.size)
    (O₀ : Nat → Prop) (I : Inv α) (Ix : Code → Inv α) (hR : ∀ k, R k → k < w.heap.size ∧ ¬ O₀ k) (hO0 : ∀ k, O₀ k → k < w.heap.size) (hI : ∀ O pre A B, I O pre A → Calm w.heap.size A B → I O pre B) (hIx : ∀ c O pre A B, Ix c O pre A → Calm w.heap.size A B → Ix c O pre B) (h0 : I O₀ [] w)
    (hab : ∃ a₁ : α → Act, (∀ (l : Nat) (x : α) (W : World) (K : Act → World → Prop), K (a₁ x) W →
      assign.wpIn (Fence.wide.inRound l) 9 P (Exit.then K (fun _ _ _ => False)) { tmps := (ps.zip (encs x)).foldl (fun t (p, v) => t.setIfInBounds p v) a.tmps, defers := [] } W) ∧
    (∀ (l : Nat) (O : Nat → Prop) (pre : List α) (x : α) (rest : List α) (W : World), xs = pre ++ x :: rest → Turned O₀ w W → Sub O O₀ w.heap.size → I O pre W →
      body.wpIn (Fence.wide.inRound l) 9 P (BodyEnds I Ix O (pre ++ [x]) W) (a₁ x) W))
    (hdone : ∀ (D : Nat) (O : Nat → Prop) (W : World), w.heap.size ≤ D → ¬ O D → Turned O₀ w W → Sub O O₀ w.heap.size → I O xs W → W.heap[D]? = some (.deferred (some [])) →
      Q .normal { a with defers := { target := .collected D, args := #[] } :: a.defers } W)
    (hstop : ∀ (D : Nat) (O : Nat → Prop) (c : Code) (pre rest : List α) (W : World), w.heap.size ≤ D → ¬ O D → Turned O₀ w W → Sub O O₀ w.heap.size → xs = pre ++ rest → Ix c O pre W → W.heap[D]? = some (.deferred (some [])) →
      c.wp P Q { a with defers := { target := .collected D, args := #[] } :: a.defers } W) :
    (Code.rangeFunc g ps assign body).wp P Q a w := by
  obtain ⟨a₁, hassign, hbody⟩ := hab
  exact (wpIn_wide (n := 9)).1 (wp_rangeD hg eg hit hps O₀ I Ix hR hO0 hI hIx h0 a₁ hassign hbody hdone (fun D O c pre rest W h1 h2 h3 h4 h5 h6 h7 => wpIn_wide.2 (hstop D O c pre rest W h1 h2 h3 h4 h5 h6 h7)))

end Go.Proofs.Ytfckphcbleodbaa
