/-
  What span.Bits, span.Root, the document's Root and ordinatehand.Cut answer, each in one sentence (a contract), for every number that may be handed to them; no world is turned. (Carried from the text of stage 2.)
-/
import Derived.Test.YtnhjedohbpbpgaaRows
import Derived.Test.YtnhjedohbpbpgaaShelf
import Derived.Test.YtnhjedohbpbpgaaPlain
import Derived.WalkKit
import Derived.WalkLawsBesides
import Derived.ProofKit
import Derived.OpenShut
import Derived.LoopTactic
namespace Go.Proofs.Ytnhjedohbpbpgaa
open Go.ChangeShapes Go.WideShapes Go.ChangeAt Go.RowKit

theorem wrap_same {a : Int} (h : -9223372036854775808 ≤ a) (h' : a ≤ 9223372036854775807) : wrap64 a = a := by
  unfold wrap64
  omega

theorem len_c (x : Int) (w : World) (h0 : 0 ≤ x) (h1 : x ≤ 18446744073709551615) :
    Calls Try.prog 30 #[.int .u64 x] w fun e w' => e = .returned (.int .i64 (bitsZ x)) ∧ w = w' :=
  (bits_Len64 x w h0 h1).mono fun _ _ ⟨a, b⟩ => ⟨a, b.symm⟩

theorem bits_c (n : Int) (hn : (Lit.int .i64 n).wf = true) (w : World) :
    Calls Try.prog 25 #[.int .i64 n] w fun e w' => e = .returned (.int .i64 (bitsZ n)) ∧ w = w' := by
  have hn' := bounds_i64 hn
  clear hn
  by_cases c : n < 1
  · rw [bits_none c]
    go_enter Try.func25, Try.ntmps25
    go_wp2
    go_ret
    exact ⟨rfl, rfl⟩
  · go_enter Try.func25, Try.ntmps25
    go_wp2_with (go_at_call 30; refine (len_c _ _ (by omega) (by omega)).mono ?_; rintro e w' ⟨rfl, rfl⟩)
    go_ret
    exact ⟨rfl, rfl⟩

theorem cut_plain (x n : Int) (hn : 0 < n) : x % n = if x.tmod n < 0 then x.tmod n + n else x.tmod n := by
  have e1 := Int.tmod_eq_emod (a := x) (b := n)
  have e2 := Int.emod_nonneg x (show n ≠ 0 by omega)
  have e3 := Int.emod_lt_of_pos x hn
  split <;> split at e1 <;> omega

theorem cut_c (x n : Int) (hn : 0 < n) (hn' : n ≤ 65536) (w : World) :
    Calls Try.prog 17 #[.int .i64 x, .int .i64 n] w fun e w' => e = .returned (.int .i64 (x % n)) ∧ w = w' := by
  have e1 := cut_plain x n hn
  have e2 := Int.emod_nonneg x (show n ≠ 0 by omega)
  have e3 := Int.emod_lt_of_pos x hn
  by_cases c1 : x.tmod n < 0
  · have ee : x % n = wrap64 (x.tmod n + n) := by
      rw [if_pos c1] at e1
      rw [wrap_same] <;> omega
    rw [ee]
    clear ee e1 e2 e3
    go_enter Try.func17, Try.ntmps17
    go_wp2
    go_ret
    exact ⟨rfl, rfl⟩
  · have ee : x % n = x.tmod n := by
      rw [if_neg c1] at e1
      omega
    rw [ee]
    clear ee e1 e2 e3
    go_enter Try.func17, Try.ntmps17
    go_wp2
    go_ret
    exact ⟨rfl, rfl⟩

theorem hide {p : Prop} (h : p) : Hid p := h

theorem pow_cast (k : Nat) : (2 : Int) ^ k = ((2 ^ k : Nat) : Int) := by rw [Int.natCast_pow]; rfl

theorem pow_wrap {k : Nat} (h : k ≤ 62) : wrap64 ((2 : Int) ^ k) = ((2 ^ k : Nat) : Int) := by
  have h1 : 2 ^ k ≤ 2 ^ 62 := Nat.pow_le_pow_right (by omega) h
  have h0 : 1 ≤ 2 ^ k := Nat.one_le_two_pow
  rw [pow_cast, wrap_same (by omega) (by omega)]

theorem ret_int {k : IntKind} {a b : Int} (h : a = b) : Ending.returned (.int k a) = .returned (.int k b) := by rw [h]

theorem digit_none (n : Int) (c : n < 1) (w : World) :
    Calls Try.prog 29 #[.int .i64 n] w fun e w' => e = .returned (.int .i64 0) ∧ w = w' := by
  go_enter Try.func29, Try.ntmps29
  go_wp2
  go_ret
  exact ⟨rfl, rfl⟩

theorem digit_c (n : Int) (hn : (Lit.int .i64 n).wf = true) (c : 1 ≤ n) (w : World) :
    Calls Try.prog 29 #[.int .i64 n] w fun e w' => e = .returned (.int .i64 ((2 ^ ((bitsZ n - 1) / 2).toNat : Nat) : Int)) ∧ w = w' := by
  have hn' := bounds_i64 hn
  have hc := bits_c n hn
  obtain ⟨L, e, l1, l2, b1, b2⟩ := bits_spec c hn'.2
  rw [e] at hc ⊢
  clear e hn b1 b2
  go_enter Try.func29, Try.ntmps29
  go_wp2_with (go_at_call 25; refine (hc _).mono ?_; rintro e w' ⟨rfl, rfl⟩)
  go_ret
  refine ⟨ret_int ?_, rfl⟩
  rw [pow_wrap (by omega)]
  have e : (((L : Int) - 1) / 2).toNat = (L - 1) / 2 := by omega
  rw [e]

theorem root_c (n : Int) (hn : (Lit.int .i64 n).wf = true) (w : World) :
    Calls Try.prog 24 #[.int .i64 n] w fun e w' => e = .returned (.int .i64 (rootZ n)) ∧ w = w' := by
  have hn' := bounds_i64 hn
  by_cases c : n < 1
  · have hc := digit_none n c
    rw [root_none c]
    go_enter Try.func24, Try.ntmps24
    go_wp2_with (go_at_call 29; refine (hc _).mono ?_; rintro e w' ⟨rfl, rfl⟩)
    refine wp_loop_rounds 1 ?_
    rw [rounds_succ]
    go_wp2
    go_ret
    exact ⟨rfl, rfl⟩
  · have hc := digit_c n hn (by omega)
    have HB := hide (root_begin (n := n) (by omega) hn'.2)
    obtain ⟨z, ez⟩ : ∃ z, rootZ n = z := ⟨_, rfl⟩
    have HE := hide ez
    rw [ez]
    generalize ((2 ^ ((bitsZ n - 1) / 2).toNat : Nat) : Int) = d at hc HB
    clear ez hn
    go_enter Try.func24, Try.ntmps24
    go_wp2_with (go_at_call 29; refine (hc _).mono ?_; rintro e w' ⟨rfl, rfl⟩)
    go_loop [3, 4, 5] (fun r d _ => ∃ x y : Int, Hid (RInv n x y) ∧ r = .int .i64 x ∧ d = .int .i64 y) (fun _ d _ => (intOf d).toNat)
    case atStart => exact ⟨0, d, HB, rfl, rfl⟩
    case round =>
      obtain ⟨x, y, H, rfl, rfl⟩ := hrel
      obtain ⟨x0, x1, y0, y1⟩ := rinv_bound hn'.2 H.out
      by_cases f : 0 < y
      · have q := le_quo (n := n) (t := x + y) (by omega)
        by_cases g : (x + y) * (x + y) ≤ n
        · have H2 := hide (rinv_up H.out f g)
          have g' := q.mpr g
          clear q g H HB HE hc
          go_wp2
          go_round
          case rel => exact ⟨x + y, y / 2, H2, rfl, rfl⟩
          case measure => simp [intOf]; omega
        · have H2 := hide (rinv_stay H.out f (by omega))
          have g' : ¬ x + y ≤ n / (x + y) := fun h => g (q.mp h)
          clear q g H HB HE hc
          go_wp2
          go_round
          case rel => exact ⟨x, y / 2, H2, rfl, rfl⟩
          case measure => simp [intOf]; omega
      · obtain rfl : y = 0 := by omega
        have e : x = z := by rw [← HE.out]; exact (rinv_end H.out).symm
        subst e
        clear H HB HE hc
        go_wp2
        go_ret
        exact ⟨rfl, rfl⟩

theorem root_r (n : Int) (hn : (Lit.int .i64 n).wf = true) (w : World) :
    Calls Try.prog 28 #[.int .i64 n] w fun e w' => e = .returned (.int .i64 (rootZ n)) ∧ w = w' := by
  have hn' := bounds_i64 hn
  by_cases c : n < 1
  · rw [root_none c]
    go_enter Try.func28, Try.ntmps28
    go_wp2
    go_ret
    exact ⟨rfl, rfl⟩
  · obtain ⟨z, ez⟩ : ∃ z, rootZ n = z := ⟨_, rfl⟩
    have HE := hide ez
    rw [ez]
    clear ez hn
    go_enter Try.func28, Try.ntmps28
    go_wp2
    go_loop [3, 4, 5] (fun r b _ => ∃ (x : Int) (k : Nat), k ≤ 32 ∧ 0 ≤ x ∧ x ≤ 3037000499 ∧ Hid (x * x ≤ n ∧ n < (x + ((2 ^ k : Nat) : Int)) * (x + ((2 ^ k : Nat) : Int))) ∧ r = .int .i64 x ∧ b = .int .i64 ((k : Int) - 1)) (fun _ b _ => (intOf b + 1).toNat)
    case atStart => exact ⟨0, 32, by omega, by omega, by omega, hide ⟨by omega, by omega⟩, rfl, rfl⟩
    case round =>
      obtain ⟨x, k, k1, x0, x1, H, rfl, rfl⟩ := hrel
      cases k with
      | zero =>
        have e : x = z := by rw [← HE.out]; exact (root_unique x0 H.out.1 H.out.2).symm
        subst e
        clear H HE
        go_wp2
        go_ret
        exact ⟨rfl, rfl⟩
      | succ k =>
        have ep := pow_wrap (k := k) (by omega)
        have e2 : ((2 ^ (k + 1) : Nat) : Int) = 2 * ((2 ^ k : Nat) : Int) := by rw [Nat.pow_succ]; omega
        have d1 : 1 ≤ 2 ^ k := Nat.one_le_two_pow
        have d2 : 2 ^ k ≤ 2 ^ 31 := Nat.pow_le_pow_right (by omega) (by omega)
        obtain ⟨h1, h2⟩ := H.out
        rw [e2] at h2
        have HK : ∀ x : Int, x * x ≤ n → n < (x + ((2 ^ k : Nat) : Int)) * (x + ((2 ^ k : Nat) : Int)) → Hid (x * x ≤ n ∧ n < (x + ((2 ^ k : Nat) : Int)) * (x + ((2 ^ k : Nat) : Int))) := fun _ a b => hide ⟨a, b⟩
        obtain ⟨d, hd⟩ : ∃ d : Int, ((2 ^ k : Nat) : Int) = d := ⟨_, rfl⟩
        have d1' : 1 ≤ d := by omega
        have d2' : d ≤ 2147483648 := by omega
        rw [hd] at h2 ep HK
        have HD := hide hd
        clear H HE hd d1 d2 e2
        have q := le_quo (n := n) (t := x + d) (by omega)
        by_cases g : (x + d) * (x + d) ≤ n
        · have g' := q.mpr g
          have x1' : x + d ≤ 3037000499 := by
            have := lt_of_self (a := x + d) (b := 3037000500) (by omega) (by omega)
            omega
          have H2 := HK (x + d) g (by have e : x + d + d = x + 2 * d := by omega
                                      rw [e]; exact h2)
          clear q g h1 h2 HK
          go_wp2
          go_round
          case rel => exact ⟨x + d, k, by omega, by omega, by omega, (by rw [← HD.out] at H2 ⊢; exact H2), rfl, rfl⟩
          case measure => simp [intOf]
        · have g' : ¬ x + d ≤ n / (x + d) := fun h => g (q.mp h)
          have H2 := HK x h1 (by omega)
          clear q g h1 h2 HK
          go_wp2
          go_round
          case rel => exact ⟨x, k, by omega, by omega, by omega, (by rw [← HD.out] at H2; exact H2), rfl, rfl⟩
          case measure => simp [intOf]
end Go.Proofs.Ytnhjedohbpbpgaa
