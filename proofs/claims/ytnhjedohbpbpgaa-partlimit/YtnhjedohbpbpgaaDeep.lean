/-
  What part.Depth and part.Cells, which call themselves, answer, each in one sentence (a contract), for every number that may be handed to them; the world is turned by draws alone.
-/
import Derived.Test.YtnhjedohbpbpgaaSize
namespace Go.Proofs.Ytnhjedohbpbpgaa
open Go.ChangeShapes Go.WideShapes Go.ChangeAt Go.RowKit

theorem wf_int {a : Int} (h : -9223372036854775808 ≤ a) (h' : a ≤ 9223372036854775807) : (Lit.int .i64 a).wf = true := by
  have h1 : IntKind.min .i64 = -9223372036854775808 := by decide
  have h2 : IntKind.max .i64 = 9223372036854775807 := by decide
  simp only [Lit.wf, h1, h2, Bool.and_eq_true, decide_eq_true_eq]
  exact ⟨h, h'⟩

theorem depth_f (f : Nat) : ∀ (n : Int), n.toNat ≤ f → (Lit.int .i64 n).wf = true → ∀ (w : World),
    Calls Try.prog 16 #[.int .i64 n] w fun e w' => e = .returned (.int .i64 (depZ n)) ∧ ∃ k, w' = w.drewN k := by
  induction f with
  | zero =>
    intro n hf hn w
    have hd := deg_c n hn
    rw [deg_none (by omega)] at hd
    rw [dep_none (by omega)]
    clear hn
    go_enter Try.func16, Try.ntmps16
    go_wp2_with (go_at_call 11; refine (hd _).mono ?_; rintro e w' ⟨rfl, rfl⟩)
    go_ret
    exact ⟨rfl, 0, rfl⟩
  | succ f ih =>
    intro n hf hn w
    have hd := deg_c n hn
    have d := deg_nat n
    by_cases c : degZ n = 0
    · rw [dep_eq, if_pos c]
      rw [c] at hd
      clear hn ih
      go_enter Try.func16, Try.ntmps16
      go_wp2_with (go_at_call 11; refine (hd _).mono ?_; rintro e w' ⟨rfl, rfl⟩)
      go_ret
      exact ⟨rfl, 0, rfl⟩
    · have p := deg_pos (n := n) (by omega)
      have s0 := size_bound (n := n) (i := 0) (by omega) (by omega)
      have s1 := size_bound (n := n) (i := degZ n - 1) (by omega) (by omega)
      have h0 := size_c n 0 hn
      have h1 := size_c n (degZ n - 1) hn
      have i0 := ih (sizeZ n 0) (by omega) (wf_int (by omega) (by omega))
      have i1 := ih (sizeZ n (degZ n - 1)) (by omega) (wf_int (by omega) (by omega))
      have b0 := dep_nat (sizeZ n 0)
      have b1 := dep_nat (sizeZ n (degZ n - 1))
      rw [dep_eq, if_neg c]
      generalize depZ (sizeZ n 0) = u at *
      generalize depZ (sizeZ n (degZ n - 1)) = v at *
      generalize sizeZ n 0 = x at *
      generalize sizeZ n (degZ n - 1) = y at *
      generalize degZ n = z at *
      clear hn ih
      go_enter Try.func16, Try.ntmps16
      go_wp2_with fail
      refine (hd _).mono ?_
      rintro e w' ⟨rfl, rfl⟩
      go_wp2_with fail
      refine (h0 _).mono ?_
      rintro e w' ⟨rfl, k1, rfl⟩
      go_wp2_with fail
      refine (i0 _).mono ?_
      rintro e w' ⟨rfl, k2, rfl⟩
      go_wp2_with fail
      refine (h1 _).mono ?_
      rintro e w' ⟨rfl, k3, rfl⟩
      go_wp2_with fail
      refine (i1 _).mono ?_
      rintro e w' ⟨rfl, k4, rfl⟩
      go_wp2
      go_ret
      exact ⟨rfl, _, rfl⟩
theorem depth_c (n : Int) (hn : (Lit.int .i64 n).wf = true) (w : World) :
    Calls Try.prog 16 #[.int .i64 n] w fun e w' => e = .returned (.int .i64 (depZ n)) ∧ ∃ k, w' = w.drewN k := depth_f n.toNat n (Nat.le_refl _) hn w

theorem cells_f (f : Nat) : ∀ (n : Int), n.toNat ≤ f → (Lit.int .i64 n).wf = true → ∀ (w : World),
    Calls Try.prog 14 #[.int .i64 n] w fun e w' => e = .returned (.int .i64 (celZ n)) ∧ ∃ k, w' = w.drewN k := by
  induction f with
  | zero =>
    intro n hf hn w
    have hn' := bounds_i64 hn
    clear hn
    by_cases c : n < 0
    · have hm := may_no n (Or.inl c)
      rw [cel_none (by omega)]
      go_enter Try.func14, Try.ntmps14
      go_wp2_with (go_at_call 26; refine (hm _).mono ?_; rintro e w' ⟨rfl, rfl⟩)
      go_ret
      exact ⟨rfl, 0, rfl⟩
    · obtain rfl : n = 0 := by omega
      have hm := may_yes 0 (by omega) (by omega)
      rw [cel_is_0]
      go_enter Try.func14, Try.ntmps14
      go_wp2_with (go_at_call 26; refine (hm _).mono ?_; rintro e w' ⟨rfl, rfl⟩)
      go_ret
      exact ⟨rfl, 0, rfl⟩
  | succ f ih =>
    intro n hf hn w
    have hn' := bounds_i64 hn
    by_cases c : n < 0 ∨ 16384 < n
    · have hm := may_no n c
      rw [cel_none c]
      clear hn ih
      go_enter Try.func14, Try.ntmps14
      go_wp2_with (go_at_call 26; refine (hm _).mono ?_; rintro e w' ⟨rfl, rfl⟩)
      go_ret
      exact ⟨rfl, 0, rfl⟩
    · have hm := may_yes n (by omega) (by omega)
      by_cases c0 : n = 0
      · subst c0
        rw [cel_is_0]
        clear hn ih
        go_enter Try.func14, Try.ntmps14
        go_wp2_with (go_at_call 26; refine (hm _).mono ?_; rintro e w' ⟨rfl, rfl⟩)
        go_ret
        exact ⟨rfl, 0, rfl⟩
      · by_cases c1 : n = 1
        · subst c1
          rw [cel_is_1]
          clear hn ih
          go_enter Try.func14, Try.ntmps14
          go_wp2_with (go_at_call 26; refine (hm _).mono ?_; rintro e w' ⟨rfl, rfl⟩)
          go_ret
          exact ⟨rfl, 0, rfl⟩
        · have q0 : (n == 0) = false := by simp; omega
          have q1 : (n == 1) = false := by simp; omega
          have hd := deg_c n hn
          have d := deg_bound (n := n) (by omega) (by omega)
          obtain ⟨e1, e2, e3, e4⟩ := each_bound (n := n) (by omega)
          obtain ⟨s1, s2, s3⟩ := split_eq (n := n) (by omega)
          have hi := ih (eachZ n) (by omega) (wf_int (by omega) (by omega))
          have g1 : n / degZ n = eachZ n := rfl
          have g2 : n % degZ n = moreZ n := rfl
          have kA := cel_nat (eachZ n)
          have kB := cel_nat (eachZ n + 1)
          have pA0 : 0 ≤ (degZ n - moreZ n) * celZ (eachZ n) := Int.mul_nonneg (by omega) (by omega)
          have pA1 : (degZ n - moreZ n) * celZ (eachZ n) ≤ 128 * 163832 := Int.mul_le_mul (by omega) (by omega) (by omega) (by omega)
          have pB0 : 0 ≤ moreZ n * celZ (eachZ n + 1) := Int.mul_nonneg (by omega) (by omega)
          have pB1 : moreZ n * celZ (eachZ n + 1) ≤ 128 * 163832 := Int.mul_le_mul (by omega) (by omega) (by omega) (by omega)
          have wA : wrap64 ((degZ n - moreZ n) * celZ (eachZ n)) = (degZ n - moreZ n) * celZ (eachZ n) := wrap_same (by omega) (by omega)
          have wB : wrap64 (moreZ n * celZ (eachZ n + 1)) = moreZ n * celZ (eachZ n + 1) := wrap_same (by omega) (by omega)
          rw [cel_some (by omega)]
          by_cases cm : 0 < moreZ n
          · have := e4 cm
            have hj := ih (eachZ n + 1) (by omega) (wf_int (by omega) (by omega))
            generalize celZ (eachZ n) = A at *
            generalize celZ (eachZ n + 1) = B at *
            generalize eachZ n = q at *
            generalize moreZ n = m at *
            generalize degZ n = z at *
            obtain ⟨P, hP⟩ : ∃ P, (z - m) * A = P := ⟨_, rfl⟩
            obtain ⟨R, hR⟩ : ∃ R, m * B = R := ⟨_, rfl⟩
            have wA' : wrap64 ((z - m) * A) = P := by rw [wA, hP]
            have wB' : wrap64 (m * B) = R := by rw [wB, hR]
            rw [hP] at pA0 pA1 ⊢
            rw [hR] at pB0 pB1 ⊢
            clear hn ih hP hR wA wB s1 e4
            go_enter Try.func14, Try.ntmps14
            go_wp2_with fail
            refine (hm _).mono ?_
            rintro e w' ⟨rfl, rfl⟩
            go_wp2_with fail
            refine (hd _).mono ?_
            rintro e w' ⟨rfl, rfl⟩
            go_wp2_with fail
            go_quiet (fail)
            go_wp2_with fail
            refine (hi _).mono ?_
            rintro e w' ⟨rfl, k1, rfl⟩
            go_wp2_with fail
            refine (hj _).mono ?_
            rintro e w' ⟨rfl, k2, rfl⟩
            go_wp2
            go_ret
            exact ⟨rfl, _, rfl⟩
          · have cm' : moreZ n = 0 := by omega
            rw [cm', Int.zero_mul]
            rw [cm'] at wA pA0 pA1 g2
            clear pB0 pB1 wB kB e4 s2 s3 cm
            generalize celZ (eachZ n) = A at *
            generalize eachZ n = q at *
            generalize degZ n = z at *
            simp only [Int.sub_zero, Int.add_zero] at wA pA0 pA1 ⊢
            obtain ⟨P, hP⟩ : ∃ P, z * A = P := ⟨_, rfl⟩
            have wA' : wrap64 (z * A) = P := by rw [wA, hP]
            rw [hP] at pA0 pA1 ⊢
            clear hn ih hP wA s1
            go_enter Try.func14, Try.ntmps14
            go_wp2_with fail
            refine (hm _).mono ?_
            rintro e w' ⟨rfl, rfl⟩
            go_wp2_with fail
            refine (hd _).mono ?_
            rintro e w' ⟨rfl, rfl⟩
            go_wp2_with fail
            go_quiet (fail)
            go_wp2_with fail
            refine (hi _).mono ?_
            rintro e w' ⟨rfl, k1, rfl⟩
            go_wp2
            go_ret
            exact ⟨rfl, _, rfl⟩
theorem cells_c (n : Int) (hn : (Lit.int .i64 n).wf = true) (w : World) :
    Calls Try.prog 14 #[.int .i64 n] w fun e w' => e = .returned (.int .i64 (celZ n)) ∧ ∃ k, w' = w.drewN k := cells_f n.toNat n (Nat.le_refl _) hn w
end Go.Proofs.Ytnhjedohbpbpgaa
