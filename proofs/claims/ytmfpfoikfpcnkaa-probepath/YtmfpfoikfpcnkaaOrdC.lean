/-
  Maps in order as lists, at whole numbers, by the place of a key: how many keys are below it. No conditions beyond each theorem's own.
-/
import Derived.Test.YtmfpfoikfpcnkaaOrdB
namespace Go.Proofs.Ytmfpfoikfpcnkaa

/-- How many keys, from the first on, are below k. -/
def place (xs : List (Int × Int)) (k : Int) : Nat := (xs.takeWhile fun p => decide (p.1 < k)).length
theorem place_nil (k : Int) : place [] k = 0 := rfl
theorem place_cons (x : Int × Int) (xs : List (Int × Int)) (k : Int) : place (x :: xs) k = if x.1 < k then place xs k + 1 else 0 := by
  unfold place
  by_cases h : x.1 < k <;> simp [h]
theorem place_le : (xs : List (Int × Int)) → (k : Int) → place xs k ≤ xs.length
  | [], _ => Nat.le_refl _
  | x :: xs, k => by
    have := place_le xs k
    rw [place_cons]
    simp only [List.length_cons]
    split <;> omega
theorem place_below : {xs : List (Int × Int)} → {k : Int} → {j : Nat} → {p : Int × Int} → j < place xs k → xs[j]? = some p → p.1 < k
  | [], _, _, _, h, _ => by simp [place_nil] at h
  | x :: xs, k, j, p, h, hp => by
    rw [place_cons] at h
    split at h
    · rename_i hx
      cases j with
      | zero =>
        obtain rfl : x = p := by simpa using hp
        exact hx
      | succ j => exact place_below (xs := xs) (j := j) (by omega) (by simpa using hp)
    · omega
theorem place_stop : {xs : List (Int × Int)} → {k : Int} → {p : Int × Int} → xs[place xs k]? = some p → k ≤ p.1
  | [], _, _, h => by simp at h
  | x :: xs, k, p, h => by
    rw [place_cons] at h
    split at h
    · exact place_stop (xs := xs) (by simpa using h)
    · obtain rfl : x = p := by simpa using h
      omega

/-- Whether the key at its place is k. -/
def hit (xs : List (Int × Int)) (k : Int) : Bool := match xs[place xs k]? with | some p => p.1 == k | none => false

theorem get_place : (xs : List (Int × Int)) → (k : Int) → get ltI xs k = if hit xs k then (xs[place xs k]?).map Prod.snd else none
  | [], k => by simp [get, hit]
  | x :: xs, k => by
    have ih := get_place xs k
    unfold get
    by_cases h1 : k < x.1
    · have e : hit (x :: xs) k = false := by
        have : place (x :: xs) k = 0 := by rw [place_cons, if_neg (by omega)]
        simp only [hit, this, List.getElem?_cons_zero, beq_eq_false_iff_ne, ne_eq]
        omega
      rw [if_pos (ltI_true.2 h1), e]
      rfl
    · rw [if_neg (by rw [ltI_true]; exact h1)]
      by_cases h2 : x.1 < k
      · have : place (x :: xs) k = place xs k + 1 := by rw [place_cons, if_pos h2]
        have e : hit (x :: xs) k = hit xs k := by simp only [hit, this, List.getElem?_cons_succ]
        rw [if_pos (ltI_true.2 h2), ih, e, this, List.getElem?_cons_succ]
      · have : place (x :: xs) k = 0 := by rw [place_cons, if_neg h2]
        have e : x.1 = k := by omega
        rw [if_neg (by rw [ltI_true]; exact h2)]
        simp [hit, this, e]
theorem put_place : (xs : List (Int × Int)) → (k v : Int) → put ltI xs k v = xs.take (place xs k) ++ (k, v) :: xs.drop (if hit xs k then place xs k + 1 else place xs k)
  | [], k, v => by simp [put, place_nil]
  | x :: xs, k, v => by
    have ih := put_place xs k v
    unfold put
    by_cases h1 : k < x.1
    · have hp : place (x :: xs) k = 0 := by rw [place_cons, if_neg (by omega)]
      have e : hit (x :: xs) k = false := by
        simp only [hit, hp, List.getElem?_cons_zero, beq_eq_false_iff_ne, ne_eq]
        omega
      rw [if_pos (ltI_true.2 h1), e, hp]
      rfl
    · rw [if_neg (by rw [ltI_true]; exact h1)]
      by_cases h2 : x.1 < k
      · have hp : place (x :: xs) k = place xs k + 1 := by rw [place_cons, if_pos h2]
        have e : hit (x :: xs) k = hit xs k := by simp only [hit, hp, List.getElem?_cons_succ]
        rw [if_pos (ltI_true.2 h2), ih, e, hp]
        cases hit xs k <;> simp
      · have hp : place (x :: xs) k = 0 := by rw [place_cons, if_neg h2]
        have e : hit (x :: xs) k = true := by
          simp only [hit, hp, List.getElem?_cons_zero, beq_iff_eq]
          omega
        rw [if_neg (by rw [ltI_true]; exact h2), e, hp]
        simp
theorem del_place : (xs : List (Int × Int)) → (k : Int) → del ltI xs k = xs.take (place xs k) ++ xs.drop (if hit xs k then place xs k + 1 else place xs k)
  | [], k => by simp [del]
  | x :: xs, k => by
    have ih := del_place xs k
    unfold del
    by_cases h1 : k < x.1
    · have hp : place (x :: xs) k = 0 := by rw [place_cons, if_neg (by omega)]
      have e : hit (x :: xs) k = false := by
        simp only [hit, hp, List.getElem?_cons_zero, beq_eq_false_iff_ne, ne_eq]
        omega
      rw [if_pos (ltI_true.2 h1), e, hp]
      rfl
    · rw [if_neg (by rw [ltI_true]; exact h1)]
      by_cases h2 : x.1 < k
      · have hp : place (x :: xs) k = place xs k + 1 := by rw [place_cons, if_pos h2]
        have e : hit (x :: xs) k = hit xs k := by simp only [hit, hp, List.getElem?_cons_succ]
        rw [if_pos (ltI_true.2 h2), ih, e, hp]
        cases hit xs k <;> simp
      · have hp : place (x :: xs) k = 0 := by rw [place_cons, if_neg h2]
        have e : hit (x :: xs) k = true := by
          simp only [hit, hp, List.getElem?_cons_zero, beq_iff_eq]
          omega
        rw [if_neg (by rw [ltI_true]; exact h2), e, hp]
        simp
theorem ceil_place : (xs : List (Int × Int)) → (k : Int) → ceil ltI xs k = xs[place xs k]?
  | [], k => rfl
  | x :: xs, k => by
    have ih := ceil_place xs k
    unfold ceil
    by_cases h : x.1 < k
    · rw [if_pos (ltI_true.2 h), ih, place_cons, if_pos h]
      simp
    · rw [if_neg (by rw [ltI_true]; exact h), place_cons, if_neg h]
      simp
theorem floor_place {xs : List (Int × Int)} (k : Int) (ha : Asc ltI xs) : floor ltI xs k = if hit xs k then xs[place xs k]? else if place xs k = 0 then none else xs[place xs k - 1]? := by
  induction xs with
  | nil => simp [floor, hit, place_nil]
  | cons x xs ih =>
    obtain ⟨a1, a2⟩ := List.pairwise_cons.1 ha
    have ih := ih a2
    unfold floor
    by_cases h1 : k < x.1
    · have hp : place (x :: xs) k = 0 := by rw [place_cons, if_neg (by omega)]
      have e : hit (x :: xs) k = false := by
        simp only [hit, hp, List.getElem?_cons_zero, beq_eq_false_iff_ne, ne_eq]
        omega
      rw [if_pos (ltI_true.2 h1), e, hp]
      rfl
    · rw [if_neg (by rw [ltI_true]; exact h1)]
      by_cases h2 : x.1 < k
      · have hp : place (x :: xs) k = place xs k + 1 := by rw [place_cons, if_pos h2]
        have e : hit (x :: xs) k = hit xs k := by simp only [hit, hp, List.getElem?_cons_succ]
        rw [ih, e, hp]
        cases hh : hit xs k with
        | true =>
          simp only [if_true, List.getElem?_cons_succ]
          cases hg : xs[place xs k]? with
          | none => simp [hit, hg] at hh
          | some p => rfl
        | false =>
          simp only [Bool.false_eq_true, if_false, Nat.add_one_ne_zero, Nat.add_sub_cancel]
          by_cases h0 : place xs k = 0
          · rw [if_pos h0, h0]
            rfl
          · rw [if_neg h0]
            obtain ⟨q, hq⟩ : ∃ q, place xs k = q + 1 := ⟨place xs k - 1, by omega⟩
            have hl := place_le xs k
            rw [hq]
            simp only [Nat.add_sub_cancel, List.getElem?_cons_succ]
            rw [List.getElem?_eq_getElem (by omega)]
      · have hp : place (x :: xs) k = 0 := by rw [place_cons, if_neg h2]
        have e : hit (x :: xs) k = true := by
          simp only [hit, hp, List.getElem?_cons_zero, beq_iff_eq]
          omega
        have hf : floor ltI xs k = none := by
          cases xs with
          | nil => rfl
          | cons y ys =>
            unfold floor
            rw [if_pos (ltI_true.2 (by have := ltI_true.1 (a1 y (List.mem_cons_self ..)); omega))]
        rw [hf, e, hp]
        rfl
end Go.Proofs.Ytmfpfoikfpcnkaa
