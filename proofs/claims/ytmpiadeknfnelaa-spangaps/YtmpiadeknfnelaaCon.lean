/-
  What the plain functions of package span, of the document's reckoning of chapter 2 and ordinatehand.Cut answer, each in one sentence (a contract), for every number that may be handed to them; no world is turned.
-/
import Derived.Test.YtmpiadeknfnelaaRows
import Derived.Test.YtmpiadeknfnelaaShelf
import Derived.Test.YtmpiadeknfnelaaPlain
import Derived.WalkKit
import Derived.WalkLawsBesides
import Derived.ProofKit
import Derived.OpenShut
import Derived.ShutString
namespace Go.Proofs.Ytmpiadeknfnelaa
open Go.ChangeShapes Go.WideShapes Go.ChangeAt Go.RowKit

theorem wrap_same {a : Int} (h : -9223372036854775808 ≤ a) (h' : a ≤ 9223372036854775807) : wrap64 a = a := by
  unfold wrap64
  omega

theorem mul_c (x y : Int) (hx : 0 ≤ x) (hx' : x < 18446744073709551616) (hy : 0 ≤ y) (hy' : y < 18446744073709551616) (w : World) :
    Calls Try.prog 24 #[.int .u64 x, .int .u64 y] w fun e w' => e = .returned (.tuple #[.int .u64 (x * y / 18446744073709551616), .int .u64 (x * y % 18446744073709551616)]) ∧ w = w' := by
  obtain ⟨a, rfl⟩ := Int.eq_ofNat_of_zero_le hx
  obtain ⟨b, rfl⟩ := Int.eq_ofNat_of_zero_le hy
  refine (bits_Mul64 a b (by omega) (by omega) w).mono ?_
  rintro e w' ⟨rfl, rfl⟩
  refine ⟨?_, rfl⟩
  rw [← Int.natCast_mul]
  generalize a * b = c
  have h1 : (c : Int) / 18446744073709551616 = ((c / 18446744073709551616 : Nat) : Int) := by omega
  have h2 : (c : Int) % 18446744073709551616 = ((c % 18446744073709551616 : Nat) : Int) := by omega
  rw [h1, h2]

theorem len_c (x : Int) (w : World) (h0 : 0 ≤ x) (h1 : x ≤ 18446744073709551615) :
    Calls Try.prog 27 #[.int .u64 x] w fun e w' => e = .returned (.int .i64 (bitsZ x)) ∧ w = w' :=
  (bits_Len64 x w h0 h1).mono fun _ _ ⟨a, b⟩ => ⟨a, b.symm⟩

theorem gap_plain {a b : Int} (ha : -9223372036854775808 ≤ a ∧ a ≤ 9223372036854775807) (hb : -9223372036854775808 ≤ b ∧ b ≤ 9223372036854775807) (c : ¬ b < a) :
    gapZ a b = IntKind.u64.wrap (IntKind.u64.wrap b - IntKind.u64.wrap a) := by
  simp only [gapZ, if_neg c, IntKind.wrap_u64]
  omega
theorem gap_c (a b : Int) (ha : (Lit.int .i64 a).wf = true) (hb : (Lit.int .i64 b).wf = true) (w : World) :
    Calls Try.prog 11 #[.int .i64 a, .int .i64 b] w fun e w' => e = .returned (.int .u64 (gapZ a b)) ∧ w = w' := by
  have ha' := bounds_i64 ha
  have hb' := bounds_i64 hb
  clear ha hb
  by_cases c : b < a
  · have e : gapZ a b = 0 := by simp [gapZ, c]
    rw [e]
    clear e
    go_enter Try.func11, Try.ntmps11
    go_wp2
    go_ret
    exact ⟨rfl, rfl⟩
  · rw [gap_plain ha' hb' c]
    clear ha' hb'
    go_enter Try.func11, Try.ntmps11
    go_wp2
    go_ret
    exact ⟨rfl, rfl⟩
theorem gap_r (a b : Int) (ha : (Lit.int .i64 a).wf = true) (hb : (Lit.int .i64 b).wf = true) (w : World) :
    Calls Try.prog 17 #[.int .i64 a, .int .i64 b] w fun e w' => e = .returned (.int .u64 (gapZ a b)) ∧ w = w' := by
  have ha' := bounds_i64 ha
  have hb' := bounds_i64 hb
  clear ha hb
  by_cases c : b < a
  · have e : gapZ a b = 0 := by simp [gapZ, c]
    rw [e]
    clear e
    go_enter Try.func17, Try.ntmps17
    go_wp2
    go_ret
    exact ⟨rfl, rfl⟩
  · rw [gap_plain ha' hb' c]
    clear ha' hb'
    go_enter Try.func17, Try.ntmps17
    go_wp2
    go_ret
    exact ⟨rfl, rfl⟩

theorem bits_c (n : Int) (hn : (Lit.int .i64 n).wf = true) (w : World) :
    Calls Try.prog 14 #[.int .i64 n] w fun e w' => e = .returned (.int .i64 (bitsZ n)) ∧ w = w' := by
  have hn' := bounds_i64 hn
  clear hn
  by_cases c : n < 1
  · rw [bits_none c]
    go_enter Try.func14, Try.ntmps14
    go_wp2
    go_ret
    exact ⟨rfl, rfl⟩
  · go_enter Try.func14, Try.ntmps14
    go_wp2_with (go_at_call 27; refine (len_c _ _ (by omega) (by omega)).mono ?_; rintro e w' ⟨rfl, rfl⟩)
    go_ret
    exact ⟨rfl, rfl⟩

theorem plus_c (a b : Int) (ha : (Lit.int .i64 a).wf = true) (hb : (Lit.int .i64 b).wf = true) (w : World) :
    Calls Try.prog 15 #[.int .i64 a, .int .i64 b] w fun e w' => e = .returned (.int .i64 (plusZ a b)) ∧ w = w' := by
  have ha' := bounds_i64 ha
  have hb' := bounds_i64 hb
  clear ha hb
  by_cases c : 0 ≤ a
  · by_cases d : 0 ≤ b
    · by_cases f : 9223372036854775807 - b < a
      · have e : plusZ a b = 9223372036854775807 := by simp only [plusZ, if_pos (And.intro c d)]; omega
        rw [e]
        clear e
        go_enter Try.func15, Try.ntmps15
        go_wp2
        go_ret
        exact ⟨rfl, rfl⟩
      · have e : plusZ a b = a + b := by simp only [plusZ, if_pos (And.intro c d)]; omega
        rw [e]
        clear e
        go_enter Try.func15, Try.ntmps15
        go_wp2
        go_ret
        exact ⟨rfl, rfl⟩
    · have e : plusZ a b = 0 := by simp only [plusZ, c, d, and_false, if_false]
      rw [e]
      clear e
      go_enter Try.func15, Try.ntmps15
      go_wp2
      go_ret
      exact ⟨rfl, rfl⟩
  · have e : plusZ a b = 0 := by simp only [plusZ, c, false_and, if_false]
    rw [e]
    clear e
    go_enter Try.func15, Try.ntmps15
    go_wp2
    go_ret
    exact ⟨rfl, rfl⟩
theorem plus_r (a b : Int) (ha : (Lit.int .i64 a).wf = true) (hb : (Lit.int .i64 b).wf = true) (w : World) :
    Calls Try.prog 22 #[.int .i64 a, .int .i64 b] w fun e w' => e = .returned (.int .i64 (plusZ a b)) ∧ w = w' := by
  have ha' := bounds_i64 ha
  have hb' := bounds_i64 hb
  clear ha hb
  by_cases c : 0 ≤ a
  · by_cases d : 0 ≤ b
    · by_cases f : 9223372036854775807 - b < a
      · have e : plusZ a b = 9223372036854775807 := by simp only [plusZ, if_pos (And.intro c d)]; omega
        rw [e]
        clear e
        go_enter Try.func22, Try.ntmps22
        go_wp2
        go_ret
        exact ⟨rfl, rfl⟩
      · have e : plusZ a b = a + b := by simp only [plusZ, if_pos (And.intro c d)]; omega
        rw [e]
        clear e
        go_enter Try.func22, Try.ntmps22
        go_wp2
        go_ret
        exact ⟨rfl, rfl⟩
    · have e : plusZ a b = 0 := by simp only [plusZ, c, d, and_false, if_false]
      rw [e]
      clear e
      go_enter Try.func22, Try.ntmps22
      go_wp2
      go_ret
      exact ⟨rfl, rfl⟩
  · have e : plusZ a b = 0 := by simp only [plusZ, c, false_and, if_false]
    rw [e]
    clear e
    go_enter Try.func22, Try.ntmps22
    go_wp2
    go_ret
    exact ⟨rfl, rfl⟩

theorem times_c (a b : Int) (ha : (Lit.int .i64 a).wf = true) (hb : (Lit.int .i64 b).wf = true) (w : World) :
    Calls Try.prog 16 #[.int .i64 a, .int .i64 b] w fun e w' => e = .returned (.int .i64 (timesZ a b)) ∧ w = w' := by
  have ha' := bounds_i64 ha
  have hb' := bounds_i64 hb
  clear ha hb
  by_cases c : 0 ≤ a
  · by_cases d : 0 ≤ b
    · have hc := mul_c a b c (by omega) d (by omega)
      have m0 : 0 ≤ a * b := Int.mul_nonneg c d
      obtain ⟨m, hm⟩ : ∃ m, a * b = m := ⟨_, rfl⟩
      have et : timesZ a b = min m 9223372036854775807 := by simp only [timesZ, if_pos (And.intro c d), hm]
      rw [et]
      rw [hm] at hc m0
      clear hm et
      by_cases f : 0 < m / 18446744073709551616
      · have e : min m 9223372036854775807 = 9223372036854775807 := by omega
        rw [e]
        clear e
        go_enter Try.func16, Try.ntmps16
        go_wp2_with (go_at_call 24; refine (hc _).mono ?_; rintro e w' ⟨rfl, rfl⟩)
        go_ret
        exact ⟨rfl, rfl⟩
      · by_cases g : 9223372036854775807 < m % 18446744073709551616
        · have e : min m 9223372036854775807 = 9223372036854775807 := by omega
          rw [e]
          clear e
          go_enter Try.func16, Try.ntmps16
          go_wp2_with (go_at_call 24; refine (hc _).mono ?_; rintro e w' ⟨rfl, rfl⟩)
          go_ret
          exact ⟨rfl, rfl⟩
        · have e : min m 9223372036854775807 = m % 18446744073709551616 := by omega
          rw [e]
          clear e
          go_enter Try.func16, Try.ntmps16
          go_wp2_with (go_at_call 24; refine (hc _).mono ?_; rintro e w' ⟨rfl, rfl⟩)
          go_ret
          exact ⟨rfl, rfl⟩
    · have e : timesZ a b = 0 := by simp only [timesZ, c, d, and_false, if_false]
      rw [e]
      clear e
      go_enter Try.func16, Try.ntmps16
      go_wp2
      go_ret
      exact ⟨rfl, rfl⟩
  · have e : timesZ a b = 0 := by simp only [timesZ, c, false_and, if_false]
    rw [e]
    clear e
    go_enter Try.func16, Try.ntmps16
    go_wp2
    go_ret
    exact ⟨rfl, rfl⟩

theorem times_none {a b : Int} (h : a ≤ 0 ∨ b ≤ 0) : timesZ a b = 0 := by
  unfold timesZ
  split
  · rename_i g
    have e : a * b = 0 := by
      rcases h with h | h
      · have : a = 0 := by omega
        rw [this, Int.zero_mul]
      · have : b = 0 := by omega
        rw [this, Int.mul_zero]
    rw [e]; decide
  · rfl
theorem times_r (a b : Int) (ha : (Lit.int .i64 a).wf = true) (hb : (Lit.int .i64 b).wf = true) (w : World) :
    Calls Try.prog 23 #[.int .i64 a, .int .i64 b] w fun e w' => e = .returned (.int .i64 (timesZ a b)) ∧ w = w' := by
  have ha' := bounds_i64 ha
  have hb' := bounds_i64 hb
  clear ha hb
  by_cases c : 0 < a
  · by_cases d : 0 < b
    · have q := Int.ediv_lt_iff_lt_mul (a := 9223372036854775807) (b := a) d
      by_cases f : 9223372036854775807 / b < a
      · have e : timesZ a b = 9223372036854775807 := by
          have := q.mp f
          simp only [timesZ, if_pos (And.intro (Int.le_of_lt c) (Int.le_of_lt d))]; omega
        rw [e]
        clear e q
        go_enter Try.func23, Try.ntmps23
        go_wp2
        go_ret
        exact ⟨rfl, rfl⟩
      · have g : ¬ 9223372036854775807 < a * b := fun h => f (q.mpr h)
        have g0 : 0 ≤ a * b := Int.mul_nonneg (Int.le_of_lt c) (Int.le_of_lt d)
        have e : timesZ a b = wrap64 (a * b) := by
          rw [wrap_same (by omega) (by omega)]
          simp only [timesZ, if_pos (And.intro (Int.le_of_lt c) (Int.le_of_lt d))]; omega
        rw [e]
        clear e q g g0
        go_enter Try.func23, Try.ntmps23
        go_wp2
        go_ret
        exact ⟨rfl, rfl⟩
    · rw [times_none (by omega)]
      go_enter Try.func23, Try.ntmps23
      go_wp2
      go_ret
      exact ⟨rfl, rfl⟩
  · rw [times_none (by omega)]
    go_enter Try.func23, Try.ntmps23
    go_wp2
    go_ret
    exact ⟨rfl, rfl⟩

theorem cut_plain (x n : Int) (hn : 0 < n) : x % n = if x.tmod n < 0 then x.tmod n + n else x.tmod n := by
  have e1 := Int.tmod_eq_emod (a := x) (b := n)
  have e2 := Int.emod_nonneg x (show n ≠ 0 by omega)
  have e3 := Int.emod_lt_of_pos x hn
  split <;> split at e1 <;> omega
theorem cut_c (x n : Int) (hn : 0 < n) (hn' : n ≤ 65536) (w : World) :
    Calls Try.prog 19 #[.int .i64 x, .int .i64 n] w fun e w' => e = .returned (.int .i64 (x % n)) ∧ w = w' := by
  have e1 := cut_plain x n hn
  have e2 := Int.emod_nonneg x (show n ≠ 0 by omega)
  have e3 := Int.emod_lt_of_pos x hn
  by_cases c1 : x.tmod n < 0
  · have ee : x % n = wrap64 (x.tmod n + n) := by
      rw [if_pos c1] at e1
      rw [wrap_same] <;> omega
    rw [ee]
    clear ee e1 e2 e3
    go_enter Try.func19, Try.ntmps19
    go_wp2
    go_ret
    exact ⟨rfl, rfl⟩
  · have ee : x % n = x.tmod n := by
      rw [if_neg c1] at e1
      omega
    rw [ee]
    clear ee e1 e2 e3
    go_enter Try.func19, Try.ntmps19
    go_wp2
    go_ret
    exact ⟨rfl, rfl⟩
end Go.Proofs.Ytmpiadeknfnelaa
