/-
  The plain arithmetic of chapter 1's words: no Go in sight.
-/
import Derived.Test.YtokhlbjkbofikaaCon
namespace Go.Proofs.Ytokhlbjkbofikaa
open Go.RowKit

theorem wf_of {a : Int} (h : -9223372036854775808 ≤ a) (h' : a ≤ 9223372036854775807) : (Lit.int .i64 a).wf = true := by
  have h1 : IntKind.min .i64 = -9223372036854775808 := by decide
  have h2 : IntKind.max .i64 = 9223372036854775807 := by decide
  simp only [Lit.wf, h1, h2, Bool.and_eq_true, decide_eq_true_eq]
  exact ⟨h, h'⟩

theorem of_may {k t : Int} (h : 1 ≤ k ∧ k ≤ 5 ∧ 1 ≤ t ∧ t ≤ 65536) : ofZ k t = 8 * t + k := by
  simp [ofZ, may, h]
theorem of_not {k t : Int} (h : ¬ (1 ≤ k ∧ k ≤ 5 ∧ 1 ≤ t ∧ t ≤ 65536)) : ofZ k t = 0 := by
  simp only [ofZ, may, decide_eq_true_eq, if_neg h]
theorem rt_made {k t : Int} (h : 1 ≤ k ∧ k ≤ 5 ∧ 1 ≤ t ∧ t ≤ 65536) : rt (8 * t + k) = true := by
  simp only [rt, decide_eq_true_eq]; omega
theorem kind_made {k t : Int} (h : 1 ≤ k ∧ k ≤ 5 ∧ 1 ≤ t ∧ t ≤ 65536) : kindZ (8 * t + k) = k := by
  simp only [kindZ, rt_made h, if_true]; omega
theorem at_made {k t : Int} (h : 1 ≤ k ∧ k ≤ 5 ∧ 1 ≤ t ∧ t ≤ 65536) : atZ (8 * t + k) = t := by
  simp only [atZ, rt_made h, if_true]; omega
theorem kind_not {a : Int} (h : rt a = false) : kindZ a = 0 := by simp [kindZ, h]
theorem at_not {a : Int} (h : rt a = false) : atZ a = 0 := by simp [atZ, h]
/-- a word that is Right is made of a kind and an address that may be -/
theorem rt_split {a : Int} (h : rt a = true) : ∃ k t, (1 ≤ k ∧ k ≤ 5 ∧ 1 ≤ t ∧ t ≤ 65536) ∧ a = 8 * t + k := by
  simp only [rt, decide_eq_true_eq] at h
  exact ⟨a % 8, a / 8, by omega, by omega⟩
theorem rt_other {k t : Int} (hk : 0 ≤ k ∧ k < 8) (h : ¬ (1 ≤ k ∧ k ≤ 5)) : rt (8 * t + k) = false := by
  simp only [rt, decide_eq_false_iff_not]; omega
end Go.Proofs.Ytokhlbjkbofikaa
