/-
  Maps in order as lists, over any order: what get tells behind a put and a del; two lists that tell the same are the same. No conditions beyond each theorem's own.
-/
import Derived.Test.YtfckphcbleodbaaPlain
namespace Go.Proofs.Ytfckphcbleodbaa
variable {α β : Type} {lt : α → α → Bool}

theorem get_below {xs : List (α × β)} {j : α} (h : ∀ y ∈ xs, lt j y.1 = true) : get lt xs j = none := by
  cases xs with
  | nil => rfl
  | cons x xs => simp [get, h x (List.mem_cons_self ..)]

theorem get_put_same (L : Lin lt) {xs : List (α × β)} {k : α} {v : β} : get lt (put lt xs k v) k = some v := by
  induction xs with
  | nil => simp [put, get, L.irr]
  | cons x xs ih =>
    unfold put
    split
    · simp [get, L.irr]
    · rename_i h1
      split
      · rename_i h2
        simp [get, h1, h2, ih]
      · simp [get, L.irr]

theorem get_put_other (L : Lin lt) {xs : List (α × β)} {k j : α} {v : β} (hne : j ≠ k) (ha : Asc lt xs) : get lt (put lt xs k v) j = get lt xs j := by
  have hjk : lt j k = true ∨ lt k j = true := by
    cases h1 : lt j k with
    | true => exact .inl rfl
    | false =>
      cases h2 : lt k j with
      | true => exact .inr rfl
      | false => exact (hne (L.tri h1 h2)).elim
  induction xs with
  | nil =>
    rcases hjk with h | h
    · simp [put, get, h]
    · simp [put, get, h]
  | cons x xs ih =>
    obtain ⟨a1, a2⟩ := List.pairwise_cons.1 ha
    unfold put
    split
    · rename_i h1
      rcases hjk with h | h
      · have h3 := L.tr h h1
        simp [get, h, h3]
      · simp [get, h, L.asym h]
    · rename_i h1
      split
      · rename_i h2
        simp only [get]
        split
        · rfl
        · split
          · exact ih a2
          · rfl
      · rename_i h2
        have e : k = x.1 := L.tri (by simpa using h1) (by simpa using h2)
        subst e
        rcases hjk with h | h
        · simp [get, h]
        · simp [get, h, L.asym h]

theorem isSome_put (L : Lin lt) {xs : List (α × β)} {k j : α} {v : β} (ha : Asc lt xs) (h : (get lt xs j).isSome = true) : (get lt (put lt xs k v) j).isSome = true := by
  by_cases e : j = k
  · subst e
    rw [get_put_same L]
    rfl
  · rw [get_put_other L e ha]
    exact h

theorem put_ne {xs : List (α × β)} {k : α} {v : β} : put lt xs k v ≠ [] := by
  cases xs with
  | nil => simp [put]
  | cons x xs =>
    unfold put
    split
    · simp
    · split <;> simp

/-- Two lists that rise and tell the same of every key are the same. -/
theorem asc_ext (L : Lin lt) : {xs ys : List (α × β)} → Asc lt xs → Asc lt ys → (∀ j, get lt xs j = get lt ys j) → xs = ys
  | [], [], _, _, _ => rfl
  | [], y :: ys, _, _, h => by
    have := h y.1
    simp [get, L.irr] at this
  | x :: xs, [], _, _, h => by
    have := h x.1
    simp [get, L.irr] at this
  | x :: xs, y :: ys, hx, hy, h => by
    obtain ⟨x1, x2⟩ := List.pairwise_cons.1 hx
    obtain ⟨y1, y2⟩ := List.pairwise_cons.1 hy
    have e : x.1 = y.1 := by
      refine L.tri ?_ ?_
      · cases hc : lt x.1 y.1 with
        | false => rfl
        | true =>
          have := h x.1
          simp [get, L.irr, hc] at this
      · cases hc : lt y.1 x.1 with
        | false => rfl
        | true =>
          have := h y.1
          simp [get, L.irr, hc] at this
    have e2 : x = y := by
      have := h x.1
      rw [e] at this
      simp only [get, L.irr, e, Bool.false_eq_true, if_false, Option.some.injEq] at this
      exact Prod.ext e this
    subst e2
    have hx' : ∀ j, lt x.1 j = true → get lt xs j = get lt ys j := fun j hj => by
      have := h j
      simpa [get, L.asym hj, hj] using this
    have : xs = ys := by
      refine asc_ext L x2 y2 fun j => ?_
      cases hj : lt x.1 j with
      | true => exact hx' j hj
      | false =>
        have low : ∀ zs : List (α × β), (∀ z ∈ zs, lt x.1 z.1 = true) → get lt zs j = none := fun zs hz => by
          refine get_below fun z hzz => ?_
          have h1 := hz z hzz
          cases hjz : lt j z.1 with
          | true => rfl
          | false =>
            cases hzj : lt z.1 j with
            | true =>
              have := L.tr h1 hzj
              rw [hj] at this
              cases this
            | false =>
              rw [L.tri hjz hzj, h1] at hj
              cases hj
        rw [low xs x1, low ys y1]
    rw [this]
end Go.Proofs.Ytfckphcbleodbaa
