/-
  Maps in order as lists: what lies between two keys, cut at a key. No conditions beyond each theorem's own.
-/
import Derived.Test.YtfckphcbleodbaaPlain
namespace Go.Proofs.Ytfckphcbleodbaa
variable {α β : Type} {lt : α → α → Bool}
theorem between_cut {xs ys : List (α × β)} {n : α × β} {lo hi : α} : between lt (xs ++ n :: ys) lo hi = between lt xs lo hi ++ ((if !lt n.1 lo && !lt hi n.1 then [n] else []) ++ between lt ys lo hi) := by
  unfold between
  rw [List.filter_append, List.filter_cons]
  split <;> simp
theorem between_low_nil (L : Lin lt) {xs : List (α × β)} {n : α × β} {lo hi : α} (hx : ∀ y ∈ xs, lt y.1 n.1 = true) (h : lt lo n.1 = false) : between lt xs lo hi = [] := by
  unfold between
  rw [List.filter_eq_nil_iff]
  intro y hy
  have h1 := hx y hy
  have h2 : lt y.1 lo = true := by
    cases h' : lt y.1 lo with
    | true => rfl
    | false =>
      cases h2 : lt lo y.1 with
      | true =>
        have := L.tr h2 h1
        rw [h] at this
        cases this
      | false =>
        rw [L.tri h' h2, h] at h1
        cases h1
  simp [h2]
theorem between_high_nil (L : Lin lt) {ys : List (α × β)} {n : α × β} {lo hi : α} (hy : ∀ y ∈ ys, lt n.1 y.1 = true) (h : lt n.1 hi = false) : between lt ys lo hi = [] := by
  unfold between
  rw [List.filter_eq_nil_iff]
  intro y hy'
  have h1 := hy y hy'
  have h2 : lt hi y.1 = true := by
    cases h' : lt hi y.1 with
    | true => rfl
    | false =>
      cases h2 : lt y.1 hi with
      | true =>
        have := L.tr h1 h2
        rw [h] at this
        cases this
      | false =>
        rw [L.tri h2 h', h] at h1
        cases h1
  simp [h2]
end Go.Proofs.Ytfckphcbleodbaa
