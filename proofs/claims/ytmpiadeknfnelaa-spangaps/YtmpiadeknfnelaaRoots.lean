/-
  What span.Root, its first digit, the document's Root and the document's Bits answer, each in one sentence (a contract), for every int that may be handed to them; no world is turned.
-/
import Derived.Test.YtmpiadeknfnelaaCon
import Derived.LoopTactic
namespace Go.Proofs.Ytmpiadeknfnelaa
open Go.ChangeShapes Go.WideShapes Go.ChangeAt Go.RowKit

theorem hide {p : Prop} (h : p) : Hid p := h
theorem pow_cast (k : Nat) : (2 : Int) ^ k = ((2 ^ k : Nat) : Int) := by rw [Int.natCast_pow]; rfl
theorem pow_wrap {k : Nat} (h : k ≤ 62) : wrap64 ((2 : Int) ^ k) = ((2 ^ k : Nat) : Int) := by
  have h1 : 2 ^ k ≤ 2 ^ 62 := Nat.pow_le_pow_right (by omega) h
  have h0 : 1 ≤ 2 ^ k := Nat.one_le_two_pow
  rw [pow_cast, wrap_same (by omega) (by omega)]
theorem ret_int {k : IntKind} {a b : Int} (h : a = b) : Ending.returned (.int k a) = .returned (.int k b) := by rw [h]

theorem digit_none (n : Int) (c : n < 1) (w : World) :
    Calls Try.prog 26 #[.int .i64 n] w fun e w' => e = .returned (.int .i64 0) ∧ w = w' := by
  go_enter Try.func26, Try.ntmps26
  go_wp2
  go_ret
  exact ⟨rfl, rfl⟩

theorem digit_c (n : Int) (hn : (Lit.int .i64 n).wf = true) (c : 1 ≤ n) (w : World) :
    Calls Try.prog 26 #[.int .i64 n] w fun e w' => e = .returned (.int .i64 ((2 ^ ((bitsZ n - 1) / 2).toNat : Nat) : Int)) ∧ w = w' := by
  have hn' := bounds_i64 hn
  have hc := bits_c n hn
  obtain ⟨L, e, l1, l2, b1, b2⟩ := bits_spec c hn'.2
  rw [e] at hc ⊢
  clear e hn b1 b2
  go_enter Try.func26, Try.ntmps26
  go_wp2_with (go_at_call 14; refine (hc _).mono ?_; rintro e w' ⟨rfl, rfl⟩)
  go_ret
  refine ⟨ret_int ?_, rfl⟩
  rw [pow_wrap (by omega)]
  have e : (((L : Int) - 1) / 2).toNat = (L - 1) / 2 := by omega
  rw [e]

theorem bits_r (n : Int) (hn : (Lit.int .i64 n).wf = true) (w : World) :
    Calls Try.prog 21 #[.int .i64 n] w fun e w' => e = .returned (.int .i64 (bitsZ n)) ∧ w = w' := by
  have hn' := bounds_i64 hn
  have hz := bits_le n hn'.2
  obtain ⟨z, ez⟩ : ∃ z, bitsZ n = z := ⟨_, rfl⟩
  have HE := hide ez
  rw [ez] at hz ⊢
  clear ez hn
  go_enter Try.func21, Try.ntmps21
  go_wp2
  go_loop [0, 3] (fun m b => ∃ x y : Int, -9223372036854775808 ≤ x ∧ x ≤ 9223372036854775807 ∧ m = .int .i64 x ∧ b = .int .i64 y ∧ 0 ≤ y ∧ y ≤ z ∧ Hid (z = y + bitsZ x)) (fun m _ => (intOf m).toNat)
  case atStart => exact ⟨n, 0, by omega, by omega, rfl, rfl, by omega, by omega, hide (by rw [← HE.out]; omega)⟩
  case round =>
    obtain ⟨x, y, x1, x2, rfl, rfl, y0, y1, H⟩ := hrel
    by_cases c : 0 < x
    · have hh := bits_half c x2
      have hb := bits_le (x / 2) (by omega)
      have hlt : y + 1 ≤ z := by have := H.out; omega
      have H2 := hide (show z = y + 1 + bitsZ (x / 2) by have := H.out; omega)
      clear hh hb H HE
      go_wp2
      go_round
      case rel => exact ⟨x / 2, y + 1, by omega, by omega, rfl, rfl, by omega, by omega, H2⟩
      case measure => simp [intOf]; omega
    · have e : y = z := by have := H.out; rw [bits_none (by omega)] at this; omega
      subst e
      clear H HE
      go_wp2
      go_ret
      exact ⟨rfl, rfl⟩

theorem root_c (n : Int) (hn : (Lit.int .i64 n).wf = true) (w : World) :
    Calls Try.prog 13 #[.int .i64 n] w fun e w' => e = .returned (.int .i64 (rootZ n)) ∧ w = w' := by
  have hn' := bounds_i64 hn
  by_cases c : n < 1
  · have hc := digit_none n c
    rw [root_none c]
    go_enter Try.func13, Try.ntmps13
    go_wp2_with (go_at_call 26; refine (hc _).mono ?_; rintro e w' ⟨rfl, rfl⟩)
    refine wp_loop_rounds 1 ?_
    rw [rounds_succ]
    go_wp2
    go_ret
    exact ⟨rfl, rfl⟩
  · have hc := digit_c n hn (by omega)
    have HB := hide (root_begin (n := n) (by omega) hn'.2)
    obtain ⟨z, ez⟩ : ∃ z, rootZ n = z := ⟨_, rfl⟩
    have HE := hide ez
    rw [ez]
    generalize ((2 ^ ((bitsZ n - 1) / 2).toNat : Nat) : Int) = d at hc HB
    clear ez hn
    go_enter Try.func13, Try.ntmps13
    go_wp2_with (go_at_call 26; refine (hc _).mono ?_; rintro e w' ⟨rfl, rfl⟩)
    go_loop [3, 4, 5] (fun r d _ => ∃ x y : Int, Hid (RInv n x y) ∧ r = .int .i64 x ∧ d = .int .i64 y) (fun _ d _ => (intOf d).toNat)
    case atStart => exact ⟨0, d, HB, rfl, rfl⟩
    case round =>
      obtain ⟨x, y, H, rfl, rfl⟩ := hrel
      obtain ⟨x0, x1, y0, y1⟩ := rinv_bound hn'.2 H.out
      by_cases f : 0 < y
      · have q := le_quo (n := n) (t := x + y) (by omega)
        by_cases g : (x + y) * (x + y) ≤ n
        · have H2 := hide (rinv_up H.out f g)
          have g' := q.mpr g
          clear q g H HB HE hc
          go_wp2
          go_round
          case rel => exact ⟨x + y, y / 2, H2, rfl, rfl⟩
          case measure => simp [intOf]; omega
        · have H2 := hide (rinv_stay H.out f (by omega))
          have g' : ¬ x + y ≤ n / (x + y) := fun h => g (q.mp h)
          clear q g H HB HE hc
          go_wp2
          go_round
          case rel => exact ⟨x, y / 2, H2, rfl, rfl⟩
          case measure => simp [intOf]; omega
      · obtain rfl : y = 0 := by omega
        have e : x = z := by rw [← HE.out]; exact (rinv_end H.out).symm
        subst e
        clear H HB HE hc
        go_wp2
        go_ret
        exact ⟨rfl, rfl⟩

theorem root_r (n : Int) (hn : (Lit.int .i64 n).wf = true) (w : World) :
    Calls Try.prog 20 #[.int .i64 n] w fun e w' => e = .returned (.int .i64 (rootZ n)) ∧ w = w' := by
  have hn' := bounds_i64 hn
  by_cases c : n < 1
  · rw [root_none c]
    go_enter Try.func20, Try.ntmps20
    go_wp2
    go_ret
    exact ⟨rfl, rfl⟩
  · obtain ⟨z, ez⟩ : ∃ z, rootZ n = z := ⟨_, rfl⟩
    have HE := hide ez
    rw [ez]
    clear ez hn
    go_enter Try.func20, Try.ntmps20
    go_wp2
    go_loop [3, 4, 5] (fun r b _ => ∃ (x : Int) (k : Nat), k ≤ 32 ∧ 0 ≤ x ∧ x ≤ 3037000499 ∧ Hid (x * x ≤ n ∧ n < (x + ((2 ^ k : Nat) : Int)) * (x + ((2 ^ k : Nat) : Int))) ∧ r = .int .i64 x ∧ b = .int .i64 ((k : Int) - 1)) (fun _ b _ => (intOf b + 1).toNat)
    case atStart => exact ⟨0, 32, by omega, by omega, by omega, hide ⟨by omega, by omega⟩, rfl, rfl⟩
    case round =>
      obtain ⟨x, k, k1, x0, x1, H, rfl, rfl⟩ := hrel
      cases k with
      | zero =>
        have e : x = z := by rw [← HE.out]; exact (root_unique x0 H.out.1 H.out.2).symm
        subst e
        clear H HE
        go_wp2
        go_ret
        exact ⟨rfl, rfl⟩
      | succ k =>
        have ep := pow_wrap (k := k) (by omega)
        have e2 : ((2 ^ (k + 1) : Nat) : Int) = 2 * ((2 ^ k : Nat) : Int) := by rw [Nat.pow_succ]; omega
        have d1 : 1 ≤ 2 ^ k := Nat.one_le_two_pow
        have d2 : 2 ^ k ≤ 2 ^ 31 := Nat.pow_le_pow_right (by omega) (by omega)
        obtain ⟨h1, h2⟩ := H.out
        rw [e2] at h2
        have HK : ∀ x : Int, x * x ≤ n → n < (x + ((2 ^ k : Nat) : Int)) * (x + ((2 ^ k : Nat) : Int)) → Hid (x * x ≤ n ∧ n < (x + ((2 ^ k : Nat) : Int)) * (x + ((2 ^ k : Nat) : Int))) := fun _ a b => hide ⟨a, b⟩
        obtain ⟨d, hd⟩ : ∃ d : Int, ((2 ^ k : Nat) : Int) = d := ⟨_, rfl⟩
        have d1' : 1 ≤ d := by omega
        have d2' : d ≤ 2147483648 := by omega
        rw [hd] at h2 ep HK
        have HD := hide hd
        clear H HE hd d1 d2 e2
        have q := le_quo (n := n) (t := x + d) (by omega)
        by_cases g : (x + d) * (x + d) ≤ n
        · have g' := q.mpr g
          have x1' : x + d ≤ 3037000499 := by
            have := lt_of_self (a := x + d) (b := 3037000500) (by omega) (by omega)
            omega
          have H2 := HK (x + d) g (by have e : x + d + d = x + 2 * d := by omega
                                      rw [e]; exact h2)
          clear q g h1 h2 HK
          go_wp2
          go_round
          case rel => exact ⟨x + d, k, by omega, by omega, by omega, (by rw [← HD.out] at H2 ⊢; exact H2), rfl, rfl⟩
          case measure => simp [intOf]
        · have g' : ¬ x + d ≤ n / (x + d) := fun h => g (q.mp h)
          have H2 := HK x h1 (by omega)
          clear q g h1 h2 HK
          go_wp2
          go_round
          case rel => exact ⟨x, k, by omega, by omega, by omega, (by rw [← HD.out] at H2; exact H2), rfl, rfl⟩
          case measure => simp [intOf]
end Go.Proofs.Ytmpiadeknfnelaa
