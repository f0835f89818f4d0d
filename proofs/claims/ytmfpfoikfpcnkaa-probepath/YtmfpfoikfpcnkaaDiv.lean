/-
  What math/bits.Div64 answers (a contract), where the upper half is below the divisor: the quotient of the 128-bit number; no world is turned.
-/
import Derived.Test.YtmfpfoikfpcnkaaShare
import Derived.Test.YtmfpfoikfpcnkaaKnuth
import Derived.Deep.QuietTactic
import Derived.BigQuiet
namespace Go.Proofs.Ytmfpfoikfpcnkaa
open Go.ChangeShapes Go.WideShapes Go.ChangeAt Go.RowKit

def Quo (q : Int) (w : World) (e : Ending) (w' : World) : Prop := ∃ (r : Int) (n : Nat), e = .returned (.tuple #[.int .u64 q, .int .u64 r]) ∧ w' = w.drewN n

theorem quo_mk {q' q : Int} {w w' : World} {a b : Value} (hq : q' = q) (ha : a = .int .u64 q) (hb : ∃ r, b = .int .u64 r) (hw : ∃ n, w' = w.drewN n) : Quo q' w (.returned (.tuple #[a, b])) w' := by
  subst hq
  obtain ⟨r, rfl⟩ := hb
  obtain ⟨n, rfl⟩ := hw
  subst ha
  exact ⟨r, n, rfl, rfl⟩

theorem lz_c (x : Int) (w : World) (h0 : 0 ≤ x) (h1 : x ≤ 18446744073709551615) :
    Calls Try.prog 38 #[.int .u64 x] w fun e w' => e = .returned (.int .i64 (64 - bitsZ x)) ∧ w = w' :=
  (bits_LeadingZeros64 x w h0 h1).mono fun _ _ ⟨a, b⟩ => ⟨a, b.symm⟩

theorem mask_c (a : Int) (h0 : 0 ≤ a) (h : a < 18446744073709551616) : bits .and .u64 a 4294967295 = a % 4294967296 := by
  obtain ⟨n, rfl⟩ := Int.eq_ofNat_of_zero_le h0
  rw [Mul64.maskN n (by omega)]
  omega

theorem lz_facts {y : Int} (h0 : 0 < y) (h1 : y ≤ 18446744073709551615) : ∃ s : Nat, s ≤ 63 ∧ 64 - bitsZ y = s ∧
    9223372036854775808 ≤ y * ((2 ^ s : Nat) : Int) ∧ y * ((2 ^ s : Nat) : Int) < 18446744073709551616 := by
  obtain ⟨n, rfl⟩ := Int.eq_ofNat_of_zero_le (Int.le_of_lt h0)
  obtain ⟨a, b, c⟩ := Lib.bitLenAux_bounds 64 n (by omega) (by omega)
  have d := Lib.bitLen_le n 64 (by omega) (by omega)
  have e : bitsZ (n : Int) = (Lib.bitLen n : Int) := rfl
  have a' : 1 ≤ Lib.bitLen n := a
  have b' : 2 ^ (Lib.bitLen n - 1) ≤ n := b
  have c' : n < 2 ^ Lib.bitLen n := c
  generalize Lib.bitLen n = L at *
  refine ⟨64 - L, by omega, by omega, ?_, ?_⟩
  · have g := Nat.mul_le_mul_right (2 ^ (64 - L)) b'
    rw [← Nat.pow_add, show L - 1 + (64 - L) = 63 by omega] at g
    rw [← Int.natCast_mul]; omega
  · have g := Nat.mul_lt_mul_of_pos_right c' (show 0 < 2 ^ (64 - L) from Nat.two_pow_pos _)
    rw [← Nat.pow_add, show L + (64 - L) = 64 by omega] at g
    rw [← Int.natCast_mul]; omega

theorem div_small (l y : Int) (h0 : 0 ≤ l) (h0' : l ≤ 18446744073709551615) (hy : 0 < y) (hy' : y ≤ 18446744073709551615) (w : World) :
    Calls Try.prog 35 #[.int .u64 0, .int .u64 l, .int .u64 y] w (Quo (l / y) w) := by
  have d1 : 0 ≤ l / y := Int.ediv_nonneg h0 (by omega)
  have d2 : l / y ≤ l := Int.ediv_le_self _ h0
  go_enter Try.func35, Try.ntmps35
  go_wp2
  go_quiet (fail)
  go_wp2
  go_ret2
  exact ⟨_, nq, rfl, rfl⟩

set_option maxRecDepth 100000 in
set_option maxHeartbeats 1000000 in
theorem div_big (h l y : Int) (hh : 0 < h) (hh' : h < y) (h0 : 0 ≤ l) (h0' : l ≤ 18446744073709551615) (hy' : y ≤ 18446744073709551615) (w : World) :
    Calls Try.prog 35 #[.int .u64 h, .int .u64 l, .int .u64 y] w (Quo ((h * 18446744073709551616 + l) / y) w) := by
  have hc := lz_c y
  obtain ⟨s, s1, es, f1, f2⟩ := lz_facts (y := y) (by omega) (by omega)
  rw [es] at hc
  obtain ⟨Y, U1, U0, Y1, Y2, V1, V2, V3, V4, eY, eU0, eU1, eq⟩ := shl_facts s s1 (Int.le_of_lt hh) h0 (by omega) hh' f1 f2
  rw [eq]
  have m1 := mask_c Y (by omega) (by omega)
  have m2 := mask_c U0 (by omega) (by omega)
  obtain ⟨K1, kq0, kq1, kr0, kr1, kp0, kp1⟩ := k_begin (u := U1) (d := U0 / 4294967296) (y1 := Y / 4294967296) (y0 := Y % 4294967296) (by omega) (by omega) (by omega) (by omega) (by omega) (by omega)
  obtain ⟨y1, ey1⟩ : ∃ a, Y / 4294967296 = a := ⟨_, rfl⟩
  obtain ⟨y0, ey0⟩ : ∃ a, Y % 4294967296 = a := ⟨_, rfl⟩
  obtain ⟨u1, eu1⟩ : ∃ a, U0 / 4294967296 = a := ⟨_, rfl⟩
  obtain ⟨u0, eu0⟩ : ∃ a, U0 % 4294967296 = a := ⟨_, rfl⟩
  have b1 : 2147483648 ≤ y1 ∧ y1 < 4294967296 := by omega
  have b2 : 0 ≤ y0 ∧ y0 < 4294967296 := by omega
  have b3 : 0 ≤ u1 ∧ u1 < 4294967296 := by omega
  have b4 : 0 ≤ u0 ∧ u0 < 4294967296 := by omega
  have YY : Y = y1 * 4294967296 + y0 := by omega
  have UU : U0 = u1 * 4294967296 + u0 := by omega
  rw [ey1, ey0, eu1] at K1
  rw [ey1] at kq0 kq1 kr0 kr1 kp0 kp1
  rw [ey0] at m1
  rw [eu0] at m2
  obtain ⟨q1, hq1⟩ : ∃ a, U1 / y1 = a := ⟨_, rfl⟩
  rw [hq1] at K1 kq0 kq1 kr0 kr1 kp0 kp1
  obtain ⟨p1, hp1⟩ : ∃ a, q1 * y1 = a := ⟨_, rfl⟩
  rw [hp1] at K1 kr0 kr1 kp0 kp1
  have wq1 : IntKind.u64.wrap p1 = p1 := by rw [IntKind.wrap_u64]; omega
  have HK1 := hide K1
  have HY := hide YY
  have HU := hide UU
  clear es eq f1 f2 K1 YY UU
  go_enter Try.func35, Try.ntmps35
  go_wp2_with (go_at_call 38; refine (hc _ (by omega) (by omega)).mono ?_; rintro e w' ⟨rfl, rfl⟩)
  go_loop [15, 16] (fun a b => ∃ q r : Int, 0 ≤ q ∧ q ≤ 4294967297 ∧ 0 ≤ r ∧ r < 4294967296 ∧ Hid (KInv U1 u1 y1 y0 q r) ∧ a = .int .u64 q ∧ b = .int .u64 r) (fun a _ => (intOf a).toNat)
  case atStart => exact ⟨q1, U1 - p1, by omega, by omega, by omega, by omega, HK1, by first | rw [hq1] | rfl, rfl⟩
  case round =>
    clear hq1 hp1 wq1
    obtain ⟨q, r, q0, ql, r0, r1, H, rfl, rfl⟩ := hrel
    by_cases c : 4294967296 ≤ q
    · obtain ⟨K2, qq⟩ := k_down H.out (by omega) (by omega) (by omega) (by omega) (Or.inl c)
      have H2 := hide K2
      clear K2 H HK1
      by_cases f : 4294967296 ≤ r + y1
      · have HQ := hide (k_out2 H2.out (by omega) (by omega) (by omega) (by omega) (by omega) f)
        rw [← HY.out] at HQ
        obtain ⟨Q1, rfl⟩ : ∃ a, q = a + 1 := ⟨q - 1, by omega⟩
        have HQ1 := hide (show (U1 * 4294967296 + u1) / Y = Q1 by have := HQ.out; omega)
        clear HQ H2
        obtain ⟨g0, g1, R0, R1⟩ := k_rest (u := U1) (d := u1) (Y := Y) (by omega) (by omega) (by omega) (by omega) HQ1.out
        have ew := k_wrap (by omega) R0 R1
        obtain ⟨R, hR⟩ : ∃ a, U1 * 4294967296 + u1 - Q1 * Y = a := ⟨_, rfl⟩
        rw [hR] at R0 R1 ew
        have HR := hide hR
        clear hR
        obtain ⟨K1, kq0, kq1, kr0, kr1, kp0, kp1⟩ := k_begin (u := R) (d := u0) (y1 := y1) (y0 := y0) (by omega) (by omega) (by omega) (by omega) (by omega) (by omega)
        obtain ⟨q2, hq2⟩ : ∃ a, R / y1 = a := ⟨_, rfl⟩
        rw [hq2] at K1 kq0 kq1 kr0 kr1 kp0 kp1
        obtain ⟨p2, hp2⟩ : ∃ a, q2 * y1 = a := ⟨_, rfl⟩
        have wq2 : IntKind.u64.wrap p2 = p2 := by rw [IntKind.wrap_u64]; omega
        rw [hp2] at K1 kr0 kr1 kp0 kp1
        have HK2 := hide K1
        clear K1
        go_wp2
        go_loop [18, 16] (fun a b => ∃ q r : Int, 0 ≤ q ∧ q ≤ 4294967297 ∧ 0 ≤ r ∧ r < 4294967296 ∧ Hid (KInv R u0 y1 y0 q r) ∧ a = .int .u64 q ∧ b = .int .u64 r) (fun a _ => (intOf a).toNat)
        case atStart => exact ⟨q2, R - p2, by omega, by omega, by omega, by omega, HK2, by first | rw [hq2] | rfl, rfl⟩
        case round =>
          clear hq2 hp2 wq2
          obtain ⟨q, r, q0, ql, r0, r1, H, rfl, rfl⟩ := hrel
          by_cases c : 4294967296 ≤ q
          · obtain ⟨K2, qq⟩ := k_down H.out (by omega) (by omega) (by omega) (by omega) (Or.inl c)
            have H2 := hide K2
            clear K2 H HK2
            by_cases f : 4294967296 ≤ r + y1
            · have HQ := hide (k_out2 H2.out (by omega) (by omega) (by omega) (by omega) (by omega) f)
              rw [← HY.out] at HQ
              obtain ⟨Q0, rfl⟩ : ∃ a, q = a + 1 := ⟨q - 1, by omega⟩
              have HQ0 := hide (show (R * 4294967296 + u0) / Y = Q0 by have := HQ.out; omega)
              clear HQ H2
              have HA := hide (k_all (U1 := U1) (U0 := U0) (Y := Y) (Q1 := Q1) (Q0 := Q0) (by omega) (by rw [eu1, eu0, HR.out]; exact HQ0.out))
              obtain ⟨z0, z1, _, _⟩ := k_rest (u := R) (d := u0) (Y := Y) R0 R1 (by omega) (by omega) HQ0.out
              go_wp2
              go_ret2
              exact quo_mk HA.out rfl ⟨_, rfl⟩ ⟨0, rfl⟩
            · go_wp2
              go_round
              case rel => exact ⟨q - 1, r + y1, by omega, by omega, by omega, by omega, H2, rfl, rfl⟩
              case measure => simp [intOf]; omega
          · have m0 : 0 ≤ q * y0 := Int.mul_nonneg q0 b2.1
            have mm := Int.mul_le_mul_of_nonneg_right (show q ≤ 4294967295 by omega) b2.1
            obtain ⟨M, hM⟩ : ∃ a, q * y0 = a := ⟨_, rfl⟩
            have wm : IntKind.u64.wrap (q * y0) = M := by rw [IntKind.wrap_u64]; omega
            have KD := fun (h : 4294967296 * r + u0 < M) => k_down H.out (by omega) (by omega) (by omega) (by omega) (Or.inr (by rw [hM]; exact h))
            have KO := fun (h : M ≤ 4294967296 * r + u0) => k_out1 H.out (by omega) (by rw [hM]; exact h)
            rw [hM] at m0 mm
            clear hM
            by_cases g : 4294967296 * r + u0 < M
            · obtain ⟨K2, qq⟩ := KD g
              have H2 := hide K2
              clear K2 H HK2 KD KO
              by_cases f : 4294967296 ≤ r + y1
              · have HQ := hide (k_out2 H2.out (by omega) (by omega) (by omega) (by omega) (by omega) f)
                rw [← HY.out] at HQ
                obtain ⟨Q0, rfl⟩ : ∃ a, q = a + 1 := ⟨q - 1, by omega⟩
                have HQ0 := hide (show (R * 4294967296 + u0) / Y = Q0 by have := HQ.out; omega)
                clear HQ H2
                have HA := hide (k_all (U1 := U1) (U0 := U0) (Y := Y) (Q1 := Q1) (Q0 := Q0) (by omega) (by rw [eu1, eu0, HR.out]; exact HQ0.out))
                obtain ⟨z0, z1, _, _⟩ := k_rest (u := R) (d := u0) (Y := Y) R0 R1 (by omega) (by omega) HQ0.out
                go_wp2
                go_ret2
                exact quo_mk HA.out rfl ⟨_, rfl⟩ ⟨0, rfl⟩
              · go_wp2
                go_round
                case rel => exact ⟨q - 1, r + y1, by omega, by omega, by omega, by omega, H2, rfl, rfl⟩
                case measure => simp [intOf]; omega
            · have HQ := KO (by omega)
              rw [← HY.out] at HQ
              obtain ⟨Q0, rfl⟩ : ∃ a, a = q := ⟨q, rfl⟩
              have HQ0 := hide HQ
              clear HQ H HK2 KD KO
              have HA := hide (k_all (U1 := U1) (U0 := U0) (Y := Y) (Q1 := Q1) (Q0 := Q0) (by omega) (by rw [eu1, eu0, HR.out]; exact HQ0.out))
              obtain ⟨z0, z1, _, _⟩ := k_rest (u := R) (d := u0) (Y := Y) R0 R1 (by omega) (by omega) HQ0.out
              go_wp2
              go_ret2
              exact quo_mk HA.out rfl ⟨_, rfl⟩ ⟨0, rfl⟩
      · go_wp2
        go_round
        case rel => exact ⟨q - 1, r + y1, by omega, by omega, by omega, by omega, H2, rfl, rfl⟩
        case measure => simp [intOf]; omega
    · have m0 : 0 ≤ q * y0 := Int.mul_nonneg q0 b2.1
      have mm := Int.mul_le_mul_of_nonneg_right (show q ≤ 4294967295 by omega) b2.1
      obtain ⟨M, hM⟩ : ∃ a, q * y0 = a := ⟨_, rfl⟩
      have wm : IntKind.u64.wrap (q * y0) = M := by rw [IntKind.wrap_u64]; omega
      have KD := fun (h : 4294967296 * r + u1 < M) => k_down H.out (by omega) (by omega) (by omega) (by omega) (Or.inr (by rw [hM]; exact h))
      have KO := fun (h : M ≤ 4294967296 * r + u1) => k_out1 H.out (by omega) (by rw [hM]; exact h)
      rw [hM] at m0 mm
      clear hM
      by_cases g : 4294967296 * r + u1 < M
      · obtain ⟨K2, qq⟩ := KD g
        have H2 := hide K2
        clear K2 H HK1 KD KO
        by_cases f : 4294967296 ≤ r + y1
        · have HQ := hide (k_out2 H2.out (by omega) (by omega) (by omega) (by omega) (by omega) f)
          rw [← HY.out] at HQ
          obtain ⟨Q1, rfl⟩ : ∃ a, q = a + 1 := ⟨q - 1, by omega⟩
          have HQ1 := hide (show (U1 * 4294967296 + u1) / Y = Q1 by have := HQ.out; omega)
          clear HQ H2
          obtain ⟨g0, g1, R0, R1⟩ := k_rest (u := U1) (d := u1) (Y := Y) (by omega) (by omega) (by omega) (by omega) HQ1.out
          have ew := k_wrap (by omega) R0 R1
          obtain ⟨R, hR⟩ : ∃ a, U1 * 4294967296 + u1 - Q1 * Y = a := ⟨_, rfl⟩
          rw [hR] at R0 R1 ew
          have HR := hide hR
          clear hR
          obtain ⟨K1, kq0, kq1, kr0, kr1, kp0, kp1⟩ := k_begin (u := R) (d := u0) (y1 := y1) (y0 := y0) (by omega) (by omega) (by omega) (by omega) (by omega) (by omega)
          obtain ⟨q2, hq2⟩ : ∃ a, R / y1 = a := ⟨_, rfl⟩
          rw [hq2] at K1 kq0 kq1 kr0 kr1 kp0 kp1
          obtain ⟨p2, hp2⟩ : ∃ a, q2 * y1 = a := ⟨_, rfl⟩
          have wq2 : IntKind.u64.wrap p2 = p2 := by rw [IntKind.wrap_u64]; omega
          rw [hp2] at K1 kr0 kr1 kp0 kp1
          have HK2 := hide K1
          clear K1
          go_wp2
          go_loop [18, 16] (fun a b => ∃ q r : Int, 0 ≤ q ∧ q ≤ 4294967297 ∧ 0 ≤ r ∧ r < 4294967296 ∧ Hid (KInv R u0 y1 y0 q r) ∧ a = .int .u64 q ∧ b = .int .u64 r) (fun a _ => (intOf a).toNat)
          case atStart => exact ⟨q2, R - p2, by omega, by omega, by omega, by omega, HK2, by first | rw [hq2] | rfl, rfl⟩
          case round =>
            clear hq2 hp2 wq2
            obtain ⟨q, r, q0, ql, r0, r1, H, rfl, rfl⟩ := hrel
            by_cases c : 4294967296 ≤ q
            · obtain ⟨K2, qq⟩ := k_down H.out (by omega) (by omega) (by omega) (by omega) (Or.inl c)
              have H2 := hide K2
              clear K2 H HK2
              by_cases f : 4294967296 ≤ r + y1
              · have HQ := hide (k_out2 H2.out (by omega) (by omega) (by omega) (by omega) (by omega) f)
                rw [← HY.out] at HQ
                obtain ⟨Q0, rfl⟩ : ∃ a, q = a + 1 := ⟨q - 1, by omega⟩
                have HQ0 := hide (show (R * 4294967296 + u0) / Y = Q0 by have := HQ.out; omega)
                clear HQ H2
                have HA := hide (k_all (U1 := U1) (U0 := U0) (Y := Y) (Q1 := Q1) (Q0 := Q0) (by omega) (by rw [eu1, eu0, HR.out]; exact HQ0.out))
                obtain ⟨z0, z1, _, _⟩ := k_rest (u := R) (d := u0) (Y := Y) R0 R1 (by omega) (by omega) HQ0.out
                go_wp2
                go_ret2
                exact quo_mk HA.out rfl ⟨_, rfl⟩ ⟨0, rfl⟩
              · go_wp2
                go_round
                case rel => exact ⟨q - 1, r + y1, by omega, by omega, by omega, by omega, H2, rfl, rfl⟩
                case measure => simp [intOf]; omega
            · have m0 : 0 ≤ q * y0 := Int.mul_nonneg q0 b2.1
              have mm := Int.mul_le_mul_of_nonneg_right (show q ≤ 4294967295 by omega) b2.1
              obtain ⟨M, hM⟩ : ∃ a, q * y0 = a := ⟨_, rfl⟩
              have wm : IntKind.u64.wrap (q * y0) = M := by rw [IntKind.wrap_u64]; omega
              have KD := fun (h : 4294967296 * r + u0 < M) => k_down H.out (by omega) (by omega) (by omega) (by omega) (Or.inr (by rw [hM]; exact h))
              have KO := fun (h : M ≤ 4294967296 * r + u0) => k_out1 H.out (by omega) (by rw [hM]; exact h)
              rw [hM] at m0 mm
              clear hM
              by_cases g : 4294967296 * r + u0 < M
              · obtain ⟨K2, qq⟩ := KD g
                have H2 := hide K2
                clear K2 H HK2 KD KO
                by_cases f : 4294967296 ≤ r + y1
                · have HQ := hide (k_out2 H2.out (by omega) (by omega) (by omega) (by omega) (by omega) f)
                  rw [← HY.out] at HQ
                  obtain ⟨Q0, rfl⟩ : ∃ a, q = a + 1 := ⟨q - 1, by omega⟩
                  have HQ0 := hide (show (R * 4294967296 + u0) / Y = Q0 by have := HQ.out; omega)
                  clear HQ H2
                  have HA := hide (k_all (U1 := U1) (U0 := U0) (Y := Y) (Q1 := Q1) (Q0 := Q0) (by omega) (by rw [eu1, eu0, HR.out]; exact HQ0.out))
                  obtain ⟨z0, z1, _, _⟩ := k_rest (u := R) (d := u0) (Y := Y) R0 R1 (by omega) (by omega) HQ0.out
                  go_wp2
                  go_ret2
                  exact quo_mk HA.out rfl ⟨_, rfl⟩ ⟨0, rfl⟩
                · go_wp2
                  go_round
                  case rel => exact ⟨q - 1, r + y1, by omega, by omega, by omega, by omega, H2, rfl, rfl⟩
                  case measure => simp [intOf]; omega
              · have HQ := KO (by omega)
                rw [← HY.out] at HQ
                obtain ⟨Q0, rfl⟩ : ∃ a, a = q := ⟨q, rfl⟩
                have HQ0 := hide HQ
                clear HQ H HK2 KD KO
                have HA := hide (k_all (U1 := U1) (U0 := U0) (Y := Y) (Q1 := Q1) (Q0 := Q0) (by omega) (by rw [eu1, eu0, HR.out]; exact HQ0.out))
                obtain ⟨z0, z1, _, _⟩ := k_rest (u := R) (d := u0) (Y := Y) R0 R1 (by omega) (by omega) HQ0.out
                go_wp2
                go_ret2
                exact quo_mk HA.out rfl ⟨_, rfl⟩ ⟨0, rfl⟩
        · go_wp2
          go_round
          case rel => exact ⟨q - 1, r + y1, by omega, by omega, by omega, by omega, H2, rfl, rfl⟩
          case measure => simp [intOf]; omega
      · have HQ := KO (by omega)
        rw [← HY.out] at HQ
        obtain ⟨Q1, rfl⟩ : ∃ a, a = q := ⟨q, rfl⟩
        have HQ1 := hide HQ
        clear HQ H HK1 KD KO
        obtain ⟨g0, g1, R0, R1⟩ := k_rest (u := U1) (d := u1) (Y := Y) (by omega) (by omega) (by omega) (by omega) HQ1.out
        have ew := k_wrap (by omega) R0 R1
        obtain ⟨R, hR⟩ : ∃ a, U1 * 4294967296 + u1 - Q1 * Y = a := ⟨_, rfl⟩
        rw [hR] at R0 R1 ew
        have HR := hide hR
        clear hR
        obtain ⟨K1, kq0, kq1, kr0, kr1, kp0, kp1⟩ := k_begin (u := R) (d := u0) (y1 := y1) (y0 := y0) (by omega) (by omega) (by omega) (by omega) (by omega) (by omega)
        obtain ⟨q2, hq2⟩ : ∃ a, R / y1 = a := ⟨_, rfl⟩
        rw [hq2] at K1 kq0 kq1 kr0 kr1 kp0 kp1
        obtain ⟨p2, hp2⟩ : ∃ a, q2 * y1 = a := ⟨_, rfl⟩
        have wq2 : IntKind.u64.wrap p2 = p2 := by rw [IntKind.wrap_u64]; omega
        rw [hp2] at K1 kr0 kr1 kp0 kp1
        have HK2 := hide K1
        clear K1
        go_wp2
        go_loop [18, 16] (fun a b => ∃ q r : Int, 0 ≤ q ∧ q ≤ 4294967297 ∧ 0 ≤ r ∧ r < 4294967296 ∧ Hid (KInv R u0 y1 y0 q r) ∧ a = .int .u64 q ∧ b = .int .u64 r) (fun a _ => (intOf a).toNat)
        case atStart => exact ⟨q2, R - p2, by omega, by omega, by omega, by omega, HK2, by first | rw [hq2] | rfl, rfl⟩
        case round =>
          clear hq2 hp2 wq2
          obtain ⟨q, r, q0, ql, r0, r1, H, rfl, rfl⟩ := hrel
          by_cases c : 4294967296 ≤ q
          · obtain ⟨K2, qq⟩ := k_down H.out (by omega) (by omega) (by omega) (by omega) (Or.inl c)
            have H2 := hide K2
            clear K2 H HK2
            by_cases f : 4294967296 ≤ r + y1
            · have HQ := hide (k_out2 H2.out (by omega) (by omega) (by omega) (by omega) (by omega) f)
              rw [← HY.out] at HQ
              obtain ⟨Q0, rfl⟩ : ∃ a, q = a + 1 := ⟨q - 1, by omega⟩
              have HQ0 := hide (show (R * 4294967296 + u0) / Y = Q0 by have := HQ.out; omega)
              clear HQ H2
              have HA := hide (k_all (U1 := U1) (U0 := U0) (Y := Y) (Q1 := Q1) (Q0 := Q0) (by omega) (by rw [eu1, eu0, HR.out]; exact HQ0.out))
              obtain ⟨z0, z1, _, _⟩ := k_rest (u := R) (d := u0) (Y := Y) R0 R1 (by omega) (by omega) HQ0.out
              go_wp2
              go_ret2
              exact quo_mk HA.out rfl ⟨_, rfl⟩ ⟨0, rfl⟩
            · go_wp2
              go_round
              case rel => exact ⟨q - 1, r + y1, by omega, by omega, by omega, by omega, H2, rfl, rfl⟩
              case measure => simp [intOf]; omega
          · have m0 : 0 ≤ q * y0 := Int.mul_nonneg q0 b2.1
            have mm := Int.mul_le_mul_of_nonneg_right (show q ≤ 4294967295 by omega) b2.1
            obtain ⟨M, hM⟩ : ∃ a, q * y0 = a := ⟨_, rfl⟩
            have wm : IntKind.u64.wrap (q * y0) = M := by rw [IntKind.wrap_u64]; omega
            have KD := fun (h : 4294967296 * r + u0 < M) => k_down H.out (by omega) (by omega) (by omega) (by omega) (Or.inr (by rw [hM]; exact h))
            have KO := fun (h : M ≤ 4294967296 * r + u0) => k_out1 H.out (by omega) (by rw [hM]; exact h)
            rw [hM] at m0 mm
            clear hM
            by_cases g : 4294967296 * r + u0 < M
            · obtain ⟨K2, qq⟩ := KD g
              have H2 := hide K2
              clear K2 H HK2 KD KO
              by_cases f : 4294967296 ≤ r + y1
              · have HQ := hide (k_out2 H2.out (by omega) (by omega) (by omega) (by omega) (by omega) f)
                rw [← HY.out] at HQ
                obtain ⟨Q0, rfl⟩ : ∃ a, q = a + 1 := ⟨q - 1, by omega⟩
                have HQ0 := hide (show (R * 4294967296 + u0) / Y = Q0 by have := HQ.out; omega)
                clear HQ H2
                have HA := hide (k_all (U1 := U1) (U0 := U0) (Y := Y) (Q1 := Q1) (Q0 := Q0) (by omega) (by rw [eu1, eu0, HR.out]; exact HQ0.out))
                obtain ⟨z0, z1, _, _⟩ := k_rest (u := R) (d := u0) (Y := Y) R0 R1 (by omega) (by omega) HQ0.out
                go_wp2
                go_ret2
                exact quo_mk HA.out rfl ⟨_, rfl⟩ ⟨0, rfl⟩
              · go_wp2
                go_round
                case rel => exact ⟨q - 1, r + y1, by omega, by omega, by omega, by omega, H2, rfl, rfl⟩
                case measure => simp [intOf]; omega
            · have HQ := KO (by omega)
              rw [← HY.out] at HQ
              obtain ⟨Q0, rfl⟩ : ∃ a, a = q := ⟨q, rfl⟩
              have HQ0 := hide HQ
              clear HQ H HK2 KD KO
              have HA := hide (k_all (U1 := U1) (U0 := U0) (Y := Y) (Q1 := Q1) (Q0 := Q0) (by omega) (by rw [eu1, eu0, HR.out]; exact HQ0.out))
              obtain ⟨z0, z1, _, _⟩ := k_rest (u := R) (d := u0) (Y := Y) R0 R1 (by omega) (by omega) HQ0.out
              go_wp2
              go_ret2
              exact quo_mk HA.out rfl ⟨_, rfl⟩ ⟨0, rfl⟩
end Go.Proofs.Ytmfpfoikfpcnkaa
