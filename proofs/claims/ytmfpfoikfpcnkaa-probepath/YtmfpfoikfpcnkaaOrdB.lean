/-
  Maps in order as lists, at whole numbers: what floor, ceil and get tell, by what is in the list. No conditions beyond each theorem's own.
-/
import Derived.Test.YtmfpfoikfpcnkaaOrdA
namespace Go.Proofs.Ytmfpfoikfpcnkaa
variable {β : Type}

theorem ltI_true {a b : Int} : ltI a b = true ↔ a < b := by simp [ltI]
theorem ltI_false {a b : Int} : ltI a b = false ↔ b ≤ a := by simp [ltI]

theorem floor_spec {xs : List (Int × β)} {k : Int} (h : Asc ltI xs) : match floor ltI xs k with
    | none => ∀ y ∈ xs, k < y.1
    | some p => p ∈ xs ∧ p.1 ≤ k ∧ ∀ y ∈ xs, y.1 ≤ k → y.1 ≤ p.1 := by
  induction xs with
  | nil => simp [floor]
  | cons x xs ih =>
    obtain ⟨h1, h2⟩ := List.pairwise_cons.1 h
    have ih := ih h2
    unfold floor
    by_cases hx : k < x.1
    · rw [if_pos (ltI_true.2 hx)]
      intro y hy
      rcases List.mem_cons.1 hy with rfl | hy
      · exact hx
      · have := ltI_true.1 (h1 y hy)
        omega
    · rw [if_neg (by rw [ltI_true]; exact hx)]
      cases hf : floor ltI xs k with
      | none =>
        rw [hf] at ih
        refine ⟨List.mem_cons_self .., by omega, fun y hy hk => ?_⟩
        rcases List.mem_cons.1 hy with rfl | hy
        · omega
        · have := ih y hy
          omega
      | some p =>
        rw [hf] at ih
        refine ⟨List.mem_cons_of_mem _ ih.1, ih.2.1, fun y hy hk => ?_⟩
        rcases List.mem_cons.1 hy with rfl | hy
        · have := ltI_true.1 (h1 p ih.1)
          omega
        · exact ih.2.2 y hy hk

theorem ceil_spec {xs : List (Int × β)} {k : Int} (h : Asc ltI xs) : match ceil ltI xs k with
    | none => ∀ y ∈ xs, y.1 < k
    | some p => p ∈ xs ∧ k ≤ p.1 ∧ ∀ y ∈ xs, k ≤ y.1 → p.1 ≤ y.1 := by
  induction xs with
  | nil => simp [ceil]
  | cons x xs ih =>
    obtain ⟨h1, h2⟩ := List.pairwise_cons.1 h
    have ih := ih h2
    unfold ceil
    by_cases hx : x.1 < k
    · rw [if_pos (ltI_true.2 hx)]
      cases hf : ceil ltI xs k with
      | none =>
        rw [hf] at ih
        intro y hy
        rcases List.mem_cons.1 hy with rfl | hy
        · exact hx
        · exact ih y hy
      | some p =>
        rw [hf] at ih
        refine ⟨List.mem_cons_of_mem _ ih.1, ih.2.1, fun y hy hk => ?_⟩
        rcases List.mem_cons.1 hy with rfl | hy
        · omega
        · exact ih.2.2 y hy hk
    · rw [if_neg (by rw [ltI_true]; exact hx)]
      refine ⟨List.mem_cons_self .., by omega, fun y hy hk => ?_⟩
      rcases List.mem_cons.1 hy with rfl | hy
      · omega
      · have := ltI_true.1 (h1 y hy)
        omega

theorem get_none {xs : List (Int × β)} {k : Int} (h : Asc ltI xs) (hg : get ltI xs k = none) : ∀ y ∈ xs, y.1 ≠ k := by
  induction xs with
  | nil => simp
  | cons x xs ih =>
    obtain ⟨h1, h2⟩ := List.pairwise_cons.1 h
    unfold get at hg
    by_cases hx : k < x.1
    · intro y hy
      rcases List.mem_cons.1 hy with rfl | hy
      · omega
      · have := ltI_true.1 (h1 y hy)
        omega
    · rw [if_neg (by rw [ltI_true]; exact hx)] at hg
      by_cases hx' : x.1 < k
      · rw [if_pos (ltI_true.2 hx')] at hg
        intro y hy
        rcases List.mem_cons.1 hy with rfl | hy
        · omega
        · exact ih h2 hg y hy
      · rw [if_neg (by rw [ltI_true]; exact hx')] at hg
        cases hg
theorem get_some {xs : List (Int × β)} {k : Int} {v : β} (hg : get ltI xs k = some v) : (k, v) ∈ xs := by
  induction xs with
  | nil => simp [get] at hg
  | cons x xs ih =>
    unfold get at hg
    by_cases hx : k < x.1
    · rw [if_pos (ltI_true.2 hx)] at hg
      cases hg
    · rw [if_neg (by rw [ltI_true]; exact hx)] at hg
      by_cases hx' : x.1 < k
      · rw [if_pos (ltI_true.2 hx')] at hg
        exact List.mem_cons_of_mem _ (ih hg)
      · rw [if_neg (by rw [ltI_true]; exact hx')] at hg
        cases hg
        have e : k = x.1 := by omega
        rw [e]
        exact List.mem_cons_self ..

/-- What lies near a key: the key itself; or what is below it, and what is above. -/
theorem near_cases {xs : List (Int × Int)} (k : Int) (h : Asc ltI xs) :
    (∃ v u t, get ltI xs k = some v ∧ floor ltI xs k = some (k, u) ∧ ceil ltI xs k = some (k, t)) ∨
    (get ltI xs k = none ∧ (∀ y ∈ xs, y.1 ≠ k) ∧ ((floor ltI xs k = none ∧ ∀ y ∈ xs, k < y.1) ∨ ∃ a u, floor ltI xs k = some (a, u) ∧ a < k ∧ ∀ y ∈ xs, y.1 ≤ k → y.1 ≤ a) ∧
      ((ceil ltI xs k = none ∧ ∀ y ∈ xs, y.1 < k) ∨ ∃ b t, ceil ltI xs k = some (b, t) ∧ k < b ∧ ∀ y ∈ xs, k ≤ y.1 → b ≤ y.1)) := by
  have hf := floor_spec (k := k) h
  have hc := ceil_spec (k := k) h
  cases hg : get ltI xs k with
  | some v =>
    have hm := get_some hg
    refine .inl ⟨v, ?_⟩
    cases hF : floor ltI xs k with
    | none =>
      rw [hF] at hf
      have := hf _ hm
      simp at this
    | some p =>
      rw [hF] at hf
      have e1 := hf.2.2 _ hm (Int.le_refl _)
      have e2 := hf.2.1
      cases hC : ceil ltI xs k with
      | none =>
        rw [hC] at hc
        have := hc _ hm
        simp at this
      | some q =>
        rw [hC] at hc
        have e3 := hc.2.2 _ hm (Int.le_refl _)
        have e4 := hc.2.1
        simp only at e1 e3
        exact ⟨p.2, q.2, rfl, by rw [show p = (k, p.2) from Prod.ext (by simp; omega) rfl], by rw [show q = (k, q.2) from Prod.ext (by simp; omega) rfl]⟩
  | none =>
    have hn := get_none h hg
    refine .inr ⟨rfl, hn, ?_, ?_⟩
    · cases hF : floor ltI xs k with
      | none =>
        rw [hF] at hf
        exact .inl ⟨rfl, hf⟩
      | some p =>
        rw [hF] at hf
        have := hn p hf.1
        exact .inr ⟨p.1, p.2, rfl, by have := hf.2.1; omega, hf.2.2⟩
    · cases hC : ceil ltI xs k with
      | none =>
        rw [hC] at hc
        exact .inl ⟨rfl, hc⟩
      | some q =>
        rw [hC] at hc
        have := hn q hc.1
        exact .inr ⟨q.1, q.2, rfl, by have := hc.2.1; omega, hc.2.2⟩
end Go.Proofs.Ytmfpfoikfpcnkaa
