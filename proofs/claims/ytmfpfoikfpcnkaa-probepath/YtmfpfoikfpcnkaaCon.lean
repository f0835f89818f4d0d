/-
  What span.Gap, the document's Gap and ordinatehand.Cut answer, each in one sentence (a contract), for every number that may be handed to them; no world is turned.
-/
import Derived.Test.YtmfpfoikfpcnkaaRows
import Derived.Test.YtmfpfoikfpcnkaaShelf
import Derived.Test.YtmfpfoikfpcnkaaPlain
import Derived.WalkKit
import Derived.WalkLawsBesides
import Derived.ProofKit
import Derived.OpenShut
import Derived.ShutString
namespace Go.Proofs.Ytmfpfoikfpcnkaa
open Go.ChangeShapes Go.WideShapes Go.ChangeAt Go.RowKit

theorem wrap_same {a : Int} (h : -9223372036854775808 ≤ a) (h' : a ≤ 9223372036854775807) : wrap64 a = a := by
  unfold wrap64
  omega

theorem mul_c (x y : Int) (hx : 0 ≤ x) (hx' : x < 18446744073709551616) (hy : 0 ≤ y) (hy' : y < 18446744073709551616) (w : World) :
    Calls Try.prog 34 #[.int .u64 x, .int .u64 y] w fun e w' => e = .returned (.tuple #[.int .u64 (x * y / 18446744073709551616), .int .u64 (x * y % 18446744073709551616)]) ∧ w = w' := by
  obtain ⟨a, rfl⟩ := Int.eq_ofNat_of_zero_le hx
  obtain ⟨b, rfl⟩ := Int.eq_ofNat_of_zero_le hy
  refine (bits_Mul64 a b (by omega) (by omega) w).mono ?_
  rintro e w' ⟨rfl, rfl⟩
  refine ⟨?_, rfl⟩
  rw [← Int.natCast_mul]
  generalize a * b = c
  have h1 : (c : Int) / 18446744073709551616 = ((c / 18446744073709551616 : Nat) : Int) := by omega
  have h2 : (c : Int) % 18446744073709551616 = ((c % 18446744073709551616 : Nat) : Int) := by omega
  rw [h1, h2]

theorem len_c (x : Int) (w : World) (h0 : 0 ≤ x) (h1 : x ≤ 18446744073709551615) :
    Calls Try.prog 39 #[.int .u64 x] w fun e w' => e = .returned (.int .i64 (bitsZ x)) ∧ w = w' :=
  (bits_Len64 x w h0 h1).mono fun _ _ ⟨a, b⟩ => ⟨a, b.symm⟩

theorem gap_plain {a b : Int} (ha : -9223372036854775808 ≤ a ∧ a ≤ 9223372036854775807) (hb : -9223372036854775808 ≤ b ∧ b ≤ 9223372036854775807) (c : ¬ b < a) :
    gapZ a b = IntKind.u64.wrap (IntKind.u64.wrap b - IntKind.u64.wrap a) := by
  simp only [gapZ, if_neg c, IntKind.wrap_u64]
  omega
theorem gap_c (a b : Int) (ha : (Lit.int .i64 a).wf = true) (hb : (Lit.int .i64 b).wf = true) (w : World) :
    Calls Try.prog 26 #[.int .i64 a, .int .i64 b] w fun e w' => e = .returned (.int .u64 (gapZ a b)) ∧ w = w' := by
  have ha' := bounds_i64 ha
  have hb' := bounds_i64 hb
  clear ha hb
  by_cases c : b < a
  · have e : gapZ a b = 0 := by simp [gapZ, c]
    rw [e]
    clear e
    go_enter Try.func26, Try.ntmps26
    go_wp2
    go_ret
    exact ⟨rfl, rfl⟩
  · rw [gap_plain ha' hb' c]
    clear ha' hb'
    go_enter Try.func26, Try.ntmps26
    go_wp2
    go_ret
    exact ⟨rfl, rfl⟩
theorem gap_r (a b : Int) (ha : (Lit.int .i64 a).wf = true) (hb : (Lit.int .i64 b).wf = true) (w : World) :
    Calls Try.prog 29 #[.int .i64 a, .int .i64 b] w fun e w' => e = .returned (.int .u64 (gapZ a b)) ∧ w = w' := by
  have ha' := bounds_i64 ha
  have hb' := bounds_i64 hb
  clear ha hb
  by_cases c : b < a
  · have e : gapZ a b = 0 := by simp [gapZ, c]
    rw [e]
    clear e
    go_enter Try.func29, Try.ntmps29
    go_wp2
    go_ret
    exact ⟨rfl, rfl⟩
  · rw [gap_plain ha' hb' c]
    clear ha' hb'
    go_enter Try.func29, Try.ntmps29
    go_wp2
    go_ret
    exact ⟨rfl, rfl⟩

theorem cut_plain (x n : Int) (hn : 0 < n) : x % n = if x.tmod n < 0 then x.tmod n + n else x.tmod n := by
  have e1 := Int.tmod_eq_emod (a := x) (b := n)
  have e2 := Int.emod_nonneg x (show n ≠ 0 by omega)
  have e3 := Int.emod_lt_of_pos x hn
  split <;> split at e1 <;> omega
theorem cut_c (x n : Int) (hn : 0 < n) (hn' : n ≤ 1099511627776) (w : World) :
    Calls Try.prog 22 #[.int .i64 x, .int .i64 n] w fun e w' => e = .returned (.int .i64 (x % n)) ∧ w = w' := by
  have e1 := cut_plain x n hn
  have e2 := Int.emod_nonneg x (show n ≠ 0 by omega)
  have e3 := Int.emod_lt_of_pos x hn
  by_cases c1 : x.tmod n < 0
  · have ee : x % n = wrap64 (x.tmod n + n) := by
      rw [if_pos c1] at e1
      rw [wrap_same] <;> omega
    rw [ee]
    clear ee e1 e2 e3
    go_enter Try.func22, Try.ntmps22
    go_wp2
    go_ret
    exact ⟨rfl, rfl⟩
  · have ee : x % n = x.tmod n := by
      rw [if_neg c1] at e1
      omega
    rw [ee]
    clear ee e1 e2 e3
    go_enter Try.func22, Try.ntmps22
    go_wp2
    go_ret
    exact ⟨rfl, rfl⟩
end Go.Proofs.Ytmfpfoikfpcnkaa
