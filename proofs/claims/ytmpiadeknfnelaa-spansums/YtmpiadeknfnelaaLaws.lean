/-
  What holds of chapter 2's numbers, for the laws: plain arithmetic alone.
-/
import Derived.Test.YtmpiadeknfnelaaKnown
namespace Go.Proofs.Ytmpiadeknfnelaa
open Go.RowKit

theorem wf_of {a : Int} (h : -9223372036854775808 ≤ a) (h' : a ≤ 9223372036854775807) : (Lit.int .i64 a).wf = true := by
  have h1 : IntKind.min .i64 = -9223372036854775808 := by decide
  have h2 : IntKind.max .i64 = 9223372036854775807 := by decide
  simp only [Lit.wf, h1, h2, Bool.and_eq_true, decide_eq_true_eq]
  exact ⟨h, h'⟩
theorem wf_u64 {a : Int} (h : 0 ≤ a) (h' : a ≤ 18446744073709551615) : (Lit.int .u64 a).wf = true := by
  have h1 : IntKind.min .u64 = 0 := by decide
  have h2 : IntKind.max .u64 = 18446744073709551615 := by decide
  simp only [Lit.wf, h1, h2, Bool.and_eq_true, decide_eq_true_eq]
  exact ⟨h, h'⟩
theorem wf_tmod {a : Int} (h : (Lit.int .i64 a).wf = true) : (Lit.int .i64 (a.tmod 100000)).wf = true := by
  have hb := bounds_i64 h
  have e := Int.tmod_eq_emod (a := a) (b := 100000)
  apply wf_of <;> split at e <;> omega

theorem share_laws {P v n q : Int} (hv : 0 < v) (h0 : 0 ≤ P) (h1 : P ≤ v) (hn : 1 ≤ n ∧ n ≤ 65536) (hq : P * n / v = q) :
    0 ≤ q ∧ q ≤ n ∧ v * q ≤ P * n ∧ P * n < v * (q + 1) := by
  have m0 : 0 ≤ P * n := Int.mul_nonneg h0 (by omega)
  have m1 : P * n ≤ v * n := Int.mul_le_mul_of_nonneg_right h1 (by omega)
  have e := Int.mul_ediv_add_emod (P * n) v
  have e1 := Int.emod_nonneg (P * n) (show v ≠ 0 by omega)
  have e2 := Int.emod_lt_of_pos (P * n) hv
  rw [hq] at e
  refine ⟨by rw [← hq]; exact Int.ediv_nonneg m0 (by omega), ?_, by omega, by rw [Int.mul_add]; omega⟩
  have : P * n / v < n + 1 := (Int.ediv_lt_iff_lt_mul hv).mpr (by rw [Int.add_mul, Int.mul_comm n v]; omega)
  omega
theorem share_eq {p v n : Int} (hv : 0 < v) (hn : 1 ≤ n ∧ n ≤ 65536) : shareZ p v n = min p v * n / v := by
  simp only [shareZ, if_pos (show 1 ≤ v ∧ 1 ≤ n ∧ n ≤ 65536 by omega)]
theorem share_part {p q v n : Int} (hv : 0 < v) (hn : 1 ≤ n ∧ n ≤ 65536) (h : p ≤ q) : shareZ p v n ≤ shareZ q v n := by
  rw [share_eq hv hn, share_eq hv hn]
  exact Int.ediv_le_ediv hv (Int.mul_le_mul_of_nonneg_right (by omega) (by omega))
theorem share_more {p v n m : Int} (hv : 0 < v) (hp : 0 ≤ p) (hn : 1 ≤ n) (hm : m ≤ 65536) (h : n ≤ m) : shareZ p v n ≤ shareZ p v m := by
  rw [share_eq hv (by omega), share_eq hv (by omega)]
  exact Int.ediv_le_ediv hv (Int.mul_le_mul_of_nonneg_left h (by omega))
theorem share_all {v n : Int} (hv : 0 < v) (hn : 1 ≤ n ∧ n ≤ 65536) : shareZ v v n = n := by
  rw [share_eq hv hn, Int.min_self, Int.mul_ediv_cancel_left _ (by omega)]
theorem share_nought {v n : Int} (hv : 0 < v) : shareZ 0 v n = 0 := by
  unfold shareZ
  split
  · rw [show min 0 v = 0 by omega, Int.zero_mul, Int.zero_ediv]
  · rfl
/-- two numbers of 128 bits, each in two halves -/
theorem halves_le {a b : Int} (h : a ≤ b) :
    (decide (a / 18446744073709551616 < b / 18446744073709551616) || (a / 18446744073709551616 == b / 18446744073709551616 && decide (a % 18446744073709551616 ≤ b % 18446744073709551616))) = true := by
  simp only [Bool.or_eq_true, Bool.and_eq_true, decide_eq_true_eq, beq_iff_eq]
  omega
theorem halves_lt {a b : Int} (h : a < b) :
    (decide (a / 18446744073709551616 < b / 18446744073709551616) || (a / 18446744073709551616 == b / 18446744073709551616 && decide (a % 18446744073709551616 < b % 18446744073709551616))) = true := by
  simp only [Bool.or_eq_true, Bool.and_eq_true, decide_eq_true_eq, beq_iff_eq]
  omega

/-! ### sums and products -/
theorem plus_comm (a b : Int) : plusZ b a = plusZ a b := by
  unfold plusZ; split <;> split <;> omega
theorem times_comm (a b : Int) : timesZ b a = timesZ a b := by
  unfold timesZ; rw [Int.mul_comm b a]; split <;> split <;> omega
theorem plus_neg {a b : Int} (h : a < 0 ∨ b < 0) : plusZ a b = 0 := by
  unfold plusZ; split <;> omega
theorem times_neg {a b : Int} (h : a < 0 ∨ b < 0) : timesZ a b = 0 := times_none (by omega)
theorem plus_eq {a b : Int} (ha : 0 ≤ a) (hb : 0 ≤ b) : plusZ a b = min (a + b) 9223372036854775807 := by
  simp only [plusZ, if_pos (And.intro ha hb)]
theorem times_eq {a b : Int} (ha : 0 ≤ a) (hb : 0 ≤ b) : timesZ a b = min (a * b) 9223372036854775807 := by
  simp only [timesZ, if_pos (And.intro ha hb)]
theorem plus_bound (a b : Int) : 0 ≤ plusZ a b ∧ plusZ a b ≤ 9223372036854775807 := by
  unfold plusZ; split <;> omega
theorem times_bound (a b : Int) : 0 ≤ timesZ a b ∧ timesZ a b ≤ 9223372036854775807 := by
  unfold timesZ; split
  · rename_i h
    have := Int.mul_nonneg h.1 h.2
    omega
  · omega
theorem plus_assoc {a b c : Int} (ha : 0 ≤ a) (hb : 0 ≤ b) (hc : 0 ≤ c) : plusZ (plusZ a b) c = plusZ a (plusZ b c) := by
  have h1 := plus_bound a b
  have h2 := plus_bound b c
  rw [plus_eq h1.1 hc, plus_eq ha h2.1, plus_eq ha hb, plus_eq hb hc]
  omega
theorem min_mul {m c : Int} (hc : 0 ≤ c) (hm : 0 ≤ m) : min (min m 9223372036854775807 * c) 9223372036854775807 = min (m * c) 9223372036854775807 := by
  rcases Int.lt_or_le 9223372036854775807 m with h | h
  · rw [show min m 9223372036854775807 = 9223372036854775807 by omega]
    rcases Int.lt_or_le c 1 with g | g
    · obtain rfl : c = 0 := by omega
      simp
    · have h1 : 9223372036854775807 * c ≤ m * c := Int.mul_le_mul_of_nonneg_right (by omega) hc
      omega
  · rw [show min m 9223372036854775807 = m by omega]
theorem times_assoc {a b c : Int} (ha : 0 ≤ a) (hb : 0 ≤ b) (hc : 0 ≤ c) : timesZ (timesZ a b) c = timesZ a (timesZ b c) := by
  have h1 := times_bound a b
  have h2 := times_bound b c
  rw [times_eq h1.1 hc, times_eq ha h2.1, times_eq ha hb, times_eq hb hc, min_mul hc (Int.mul_nonneg ha hb), Int.mul_comm a (min _ _), min_mul ha (Int.mul_nonneg hb hc), Int.mul_assoc, Int.mul_comm a]
theorem times_one {a : Int} (ha : 0 ≤ a) (h : a ≤ 9223372036854775807) : timesZ a 1 = a := by
  rw [times_eq ha (by omega)]; omega
theorem plus_nought {a : Int} (ha : 0 ≤ a) (h : a ≤ 9223372036854775807) : plusZ a 0 = a := by
  rw [plus_eq ha (by omega)]; omega
theorem times_ge {a b : Int} (ha : 0 ≤ a) (hb : 0 < b) (h : a ≤ 9223372036854775807) : a ≤ timesZ a b := by
  rw [times_eq ha (by omega)]
  have := Int.mul_le_mul_of_nonneg_left (show 1 ≤ b by omega) ha
  omega
end Go.Proofs.Ytmpiadeknfnelaa
