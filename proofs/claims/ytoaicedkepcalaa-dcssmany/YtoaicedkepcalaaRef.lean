/-
  What the functions of package ref, of the document's reckoning of chapter 1 and ordinatehand.Cut answer, each in one sentence (a contract), for every int64 that may be handed to them; no world is turned.
-/
import Derived.Test.YtoaicedkepcalaaRows
import Derived.WalkKit
import Derived.ProofKit
import Derived.OpenShut
import Derived.ShutString
namespace Go.Proofs.Ytoaicedkepcalaa.Rf
open Go.ChangeShapes Go.WideShapes Go.ChangeAt Go.RowKit

/-! ### The plain side: what the words are -/
def rt (a : Int) : Bool := decide (9 ≤ a ∧ a ≤ 524293 ∧ 1 ≤ a % 8 ∧ a % 8 ≤ 5)
def may (k t : Int) : Bool := decide (1 ≤ k ∧ k ≤ 5 ∧ 1 ≤ t ∧ t ≤ 65536)
def ofZ (k t : Int) : Int := if may k t = true then 8 * t + k else 0
def kindZ (a : Int) : Int := if rt a = true then a % 8 else 0
def atZ (a : Int) : Int := if rt a = true then a / 8 else 0

theorem tdiv8 (a : Int) : a.tdiv 8 = if 0 ≤ a then a / 8 else -((-a) / 8) := by
  split
  · exact Int.tdiv_eq_ediv_of_nonneg (by assumption)
  · have h : a = -(-a) := by omega
    rw [h, Int.neg_tdiv, Int.tdiv_eq_ediv_of_nonneg (by omega)]
    omega
theorem tmod8 (a : Int) : a.tmod 8 = a - 8 * a.tdiv 8 := by
  have := Int.tmod_add_mul_tdiv a 8
  omega
theorem wrap_same {a : Int} (h : -9223372036854775808 ≤ a) (h' : a ≤ 9223372036854775807) : wrap64 a = a := by
  unfold wrap64
  omega
theorem wdiv8 {a : Int} (h : (Lit.int .i64 a).wf = true) : wrap64 (a.tdiv 8) = a.tdiv 8 := by
  have := bounds_i64 h
  have e := tdiv8 a
  apply wrap_same <;> split at e <;> omega

theorem right_c (a : Int) (ha : (Lit.int .i64 a).wf = true) (w : World) :
    Calls Try.prog 42 #[.int .i64 a] w fun e w' => e = .returned (.bool (rt a)) ∧ w' = w := by
  have hw := wdiv8 ha
  have e1 := tdiv8 a
  have e2 := tmod8 a
  have hb := bounds_i64 ha
  by_cases hr : 9 ≤ a ∧ a ≤ 524293 ∧ 1 ≤ a % 8 ∧ a % 8 ≤ 5
  · have er : rt a = true := by simp [rt]; omega
    have c1 : 1 ≤ wrap64 (a.tdiv 8) := by rw [hw]; split at e1 <;> omega
    have c2 : wrap64 (a.tdiv 8) ≤ 65536 := by rw [hw]; split at e1 <;> omega
    have c3 : 1 ≤ a.tmod 8 := by split at e1 <;> omega
    have c4 : a.tmod 8 ≤ 5 := by split at e1 <;> omega
    clear hw e1 e2 hb hr ha
    rw [er]
    clear er
    go_enter Try.func42, Try.ntmps42
    go_wp2
    go_ret
    exact ⟨rfl, rfl⟩
  · have er : rt a = false := by simp [rt]; omega
    rw [er]
    clear er ha
    by_cases c1 : 1 ≤ wrap64 (a.tdiv 8)
    · by_cases c2 : wrap64 (a.tdiv 8) ≤ 65536
      · by_cases c3 : 1 ≤ a.tmod 8
        · have c4 : ¬ a.tmod 8 ≤ 5 := by rw [hw] at c1 c2; split at e1 <;> omega
          clear hw e1 e2 hb hr
          go_enter Try.func42, Try.ntmps42
          go_wp2
          go_ret
          exact ⟨rfl, rfl⟩
        · clear hw e1 e2 hb hr
          go_enter Try.func42, Try.ntmps42
          go_wp2
          go_ret
          exact ⟨rfl, rfl⟩
      · clear hw e1 e2 hb hr
        go_enter Try.func42, Try.ntmps42
        go_wp2
        go_ret
        exact ⟨rfl, rfl⟩
    · clear hw e1 e2 hb hr
      go_enter Try.func42, Try.ntmps42
      go_wp2
      go_ret
      exact ⟨rfl, rfl⟩

theorem kind_c (a : Int) (ha : (Lit.int .i64 a).wf = true) (w : World) :
    Calls Try.prog 19 #[.int .i64 a] w fun e w' => e = .returned (.int .i64 (kindZ a)) ∧ w' = w := by
  by_cases hr : rt a = true
  · have ek : kindZ a = a.tmod 8 := by
      have e1 := tdiv8 a
      have e2 := tmod8 a
      have hr' := hr
      simp only [rt, decide_eq_true_eq] at hr'
      simp only [kindZ, hr, if_true]
      split at e1 <;> omega
    rw [ek]
    clear ek
    have hc := right_c a ha
    rw [hr] at hc
    clear hr ha
    go_enter Try.func19, Try.ntmps19
    go_wp2_with (go_at_call 42; refine (hc _).mono ?_; rintro e w' ⟨rfl, rfl⟩)
    go_ret
    exact ⟨rfl, rfl⟩
  · have ek : kindZ a = 0 := by simp [kindZ, hr]
    rw [ek]
    clear ek
    have hc := right_c a ha
    rw [Bool.eq_false_iff.mpr hr] at hc
    clear hr ha
    go_enter Try.func19, Try.ntmps19
    go_wp2_with (go_at_call 42; refine (hc _).mono ?_; rintro e w' ⟨rfl, rfl⟩)
    go_ret
    exact ⟨rfl, rfl⟩
theorem at_c (a : Int) (ha : (Lit.int .i64 a).wf = true) (w : World) :
    Calls Try.prog 21 #[.int .i64 a] w fun e w' => e = .returned (.int .i64 (atZ a)) ∧ w' = w := by
  by_cases hr : rt a = true
  · have ek : atZ a = wrap64 (a.tdiv 8) := by
      rw [wdiv8 ha]
      have e1 := tdiv8 a
      have e2 := tmod8 a
      have hr' := hr
      simp only [rt, decide_eq_true_eq] at hr'
      simp only [atZ, hr, if_true]
      split at e1 <;> omega
    rw [ek]
    clear ek
    have hc := right_c a ha
    rw [hr] at hc
    clear hr ha
    go_enter Try.func21, Try.ntmps21
    go_wp2_with (go_at_call 42; refine (hc _).mono ?_; rintro e w' ⟨rfl, rfl⟩)
    go_ret
    exact ⟨rfl, rfl⟩
  · have ek : atZ a = 0 := by simp [atZ, hr]
    rw [ek]
    clear ek
    have hc := right_c a ha
    rw [Bool.eq_false_iff.mpr hr] at hc
    clear hr ha
    go_enter Try.func21, Try.ntmps21
    go_wp2_with (go_at_call 42; refine (hc _).mono ?_; rintro e w' ⟨rfl, rfl⟩)
    go_ret
    exact ⟨rfl, rfl⟩
theorem of_c (k t : Int) (w : World) :
    Calls Try.prog 32 #[.int .i64 k, .int .i64 t] w fun e w' => e = .returned (.int .i64 (ofZ k t)) ∧ w' = w := by
  by_cases hm : 1 ≤ k ∧ k ≤ 5 ∧ 1 ≤ t ∧ t ≤ 65536
  · obtain ⟨c1, c2, c3, c4⟩ := hm
    have eo : ofZ k t = 8 * t + k := by simp [ofZ, may, c1, c2, c3, c4]
    rw [eo]
    clear eo
    go_enter Try.func32, Try.ntmps32
    go_wp2
    go_ret
    exact ⟨rfl, rfl⟩
  · have eo : ofZ k t = 0 := by simp [ofZ, may]; omega
    rw [eo]
    clear eo
    by_cases c1 : 1 ≤ k
    · by_cases c2 : k ≤ 5
      · by_cases c3 : 1 ≤ t
        · have c4 : ¬ t ≤ 65536 := by omega
          clear hm
          go_enter Try.func32, Try.ntmps32
          go_wp2
          go_ret
          exact ⟨rfl, rfl⟩
        · clear hm
          go_enter Try.func32, Try.ntmps32
          go_wp2
          go_ret
          exact ⟨rfl, rfl⟩
      · clear hm
        go_enter Try.func32, Try.ntmps32
        go_wp2
        go_ret
        exact ⟨rfl, rfl⟩
    · clear hm
      go_enter Try.func32, Try.ntmps32
      go_wp2
      go_ret
      exact ⟨rfl, rfl⟩

theorem cut_plain (x n : Int) (hn : 0 < n) : x % n = if x.tmod n < 0 then x.tmod n + n else x.tmod n := by
  have e1 := Int.tmod_eq_emod (a := x) (b := n)
  have e2 := Int.emod_nonneg x (show n ≠ 0 by omega)
  have e3 := Int.emod_lt_of_pos x hn
  split <;> split at e1 <;> omega

end Go.Proofs.Ytoaicedkepcalaa.Rf
