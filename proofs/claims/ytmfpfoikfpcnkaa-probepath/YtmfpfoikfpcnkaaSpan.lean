/-
  What math/bits.Div64 and span.Share answer (contracts); the worlds differ by draws alone.
-/
import Derived.Test.YtmfpfoikfpcnkaaDiv
namespace Go.Proofs.Ytmfpfoikfpcnkaa
open Go.ChangeShapes Go.WideShapes Go.ChangeAt Go.RowKit

theorem grown_drewN (w : World) (n : Nat) : Grown w (w.drewN n) := Grown.refl w

theorem div_c (m v : Int) (h0 : 0 ≤ m) (hv : 0 < v) (hv' : v ≤ 18446744073709551615) (hm : m / 18446744073709551616 < v) (w : World) :
    Calls Try.prog 35 #[.int .u64 (m / 18446744073709551616), .int .u64 (m % 18446744073709551616), .int .u64 v] w (Quo (m / v) w) := by
  by_cases c : m / 18446744073709551616 = 0
  · have e : m % 18446744073709551616 = m := by omega
    rw [c, e]
    exact div_small m v h0 (by omega) hv hv' w
  · have h := div_big (m / 18446744073709551616) (m % 18446744073709551616) v (by omega) hm (by omega) (by omega) hv' w
    have e : m / 18446744073709551616 * 18446744073709551616 + m % 18446744073709551616 = m := by omega
    rw [e] at h
    exact h

theorem share_c (p v n : Int) (hp : (Lit.int .u64 p).wf = true) (hv : (Lit.int .u64 v).wf = true) (w : World) :
    Calls Try.prog 25 #[.int .u64 p, .int .u64 v, .int .i64 n] w fun e w' => e = .returned (.int .i64 (shareZ p v n)) ∧ ∃ k, w' = w.drewN k := by
  have hp' := bounds_u64 hp
  have hv' := bounds_u64 hv
  clear hp hv
  by_cases c1 : v = 0
  · rw [share_none (by omega)]
    subst c1
    go_enter Try.func25, Try.ntmps25
    go_wp2
    go_ret
    exact ⟨rfl, 0, rfl⟩
  · by_cases c2 : n < 1
    · rw [share_none (by omega)]
      go_enter Try.func25, Try.ntmps25
      go_wp2
      go_ret
      exact ⟨rfl, 0, rfl⟩
    · by_cases c3 : 65536 < n
      · rw [share_none (by omega)]
        go_enter Try.func25, Try.ntmps25
        go_wp2
        go_ret
        exact ⟨rfl, 0, rfl⟩
      · obtain ⟨P, hP⟩ : ∃ P, min p v = P := ⟨_, rfl⟩
        have P1 : 0 ≤ P := by omega
        have P2 : P ≤ v := by omega
        have e : shareZ p v n = P * n / v := by simp only [shareZ, if_pos (show 1 ≤ v ∧ 1 ≤ n ∧ n ≤ 65536 by omega), hP]
        rw [e]
        clear e
        have hc := mul_c P n (by omega) (by omega) (by omega) (by omega)
        have m0 : 0 ≤ P * n := Int.mul_nonneg P1 (by omega)
        have m1 : P * n ≤ v * n := Int.mul_le_mul_of_nonneg_right P2 (by omega)
        have m2 : v * n ≤ v * 65536 := Int.mul_le_mul_of_nonneg_left (by omega) (by omega)
        have q0 : 0 ≤ P * n / v := Int.ediv_nonneg m0 (by omega)
        have q1 : P * n / v < 65537 := (Int.ediv_lt_iff_lt_mul (by omega)).mpr (by omega)
        obtain ⟨m, hm⟩ : ∃ m, P * n = m := ⟨_, rfl⟩
        rw [hm] at hc m0 m1 q0 q1 ⊢
        have hd := div_c m v m0 (by omega) (by omega) (by omega)
        obtain ⟨q, hq⟩ : ∃ q, m / v = q := ⟨_, rfl⟩
        rw [hq] at hd q0 q1 ⊢
        clear hm m1 m2 hq
        go_enter Try.func25, Try.ntmps25
        go_wp2_with (first | (go_at_call 34; refine (hc _).mono ?_; rintro e w' ⟨rfl, rfl⟩) | (go_at_call 35; refine (hd _).mono ?_; rintro e w' ⟨r, k, rfl, rfl⟩))
        go_ret
        exact ⟨rfl, _, rfl⟩
end Go.Proofs.Ytmfpfoikfpcnkaa
