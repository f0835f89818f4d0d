/-
  The plain arithmetic of a 128-bit division by two guesses of 32 digits each: no Go in sight.
-/
import Derived.Test.YtmfpfoikfpcnkaaPlain
import Derived.Laws.Bits64b
namespace Go.Proofs.Ytmfpfoikfpcnkaa
open Go

/-- q is a guess of (u * 2^32 + d) / (y1 * 2^32 + y0) that is not too low, r what is left of u. -/
structure KInv (u d y1 y0 q r : Int) : Prop where
  left : q * y1 + r = u
  high : u * 4294967296 + d < (q + 1) * (y1 * 4294967296 + y0)

theorem k_begin {u d y1 y0 : Int} (hu : 0 ≤ u) (h1 : 2147483648 ≤ y1) (h0 : 0 ≤ y0) (h0' : y0 < 4294967296) (hd : d < 4294967296) (hlt : u < y1 * 4294967296 + y0) :
    KInv u d y1 y0 (u / y1) (u - u / y1 * y1) ∧ 0 ≤ u / y1 ∧ u / y1 ≤ 4294967297 ∧ 0 ≤ u - u / y1 * y1 ∧ u - u / y1 * y1 < y1 ∧ 0 ≤ u / y1 * y1 ∧ u / y1 * y1 ≤ u := by
  have e := Int.mul_ediv_add_emod u y1
  have e1 := Int.emod_nonneg u (show y1 ≠ 0 by omega)
  have e2 := Int.emod_lt_of_pos u (show 0 < y1 by omega)
  rw [Int.mul_comm] at e
  have g0 : 0 ≤ u / y1 := Int.ediv_nonneg hu (by omega)
  have gm : 0 ≤ u / y1 * y1 := Int.mul_nonneg g0 (by omega)
  have gl : u / y1 ≤ 4294967297 := by
    rcases Int.lt_or_le (u / y1) 4294967298 with g | g
    · omega
    · have := Int.mul_le_mul_of_nonneg_right g (show 0 ≤ y1 by omega)
      omega
  refine ⟨⟨by omega, ?_⟩, g0, gl, by omega, by omega, gm, by omega⟩
  have a1 : (u / y1 + 1) * (y1 * 4294967296 + y0) = (u / y1 + 1) * y1 * 4294967296 + (u / y1 + 1) * y0 := by rw [Int.mul_add, Int.mul_assoc]
  have a2 : (u / y1 + 1) * y1 = u / y1 * y1 + y1 := by rw [Int.add_mul]; omega
  have a3 : 0 ≤ (u / y1 + 1) * y0 := Int.mul_nonneg (by omega) h0
  omega

theorem k_down {u d y1 y0 q r : Int} (h : KInv u d y1 y0 q r) (hu : 0 ≤ u) (hd0 : 0 ≤ d) (hd : d < 4294967296) (hlt : u < y1 * 4294967296 + y0)
    (ht : 4294967296 ≤ q ∨ 4294967296 * r + d < q * y0) : KInv u d y1 y0 (q - 1) (r + y1) ∧ 1 ≤ q := by
  obtain ⟨e, _⟩ := h
  have g : u * 4294967296 + d < q * (y1 * 4294967296 + y0) := by
    rcases ht with t | t
    · have := Int.mul_le_mul_of_nonneg_right t (show 0 ≤ y1 * 4294967296 + y0 by omega)
      omega
    · have a : q * (y1 * 4294967296 + y0) = q * y1 * 4294967296 + q * y0 := by rw [Int.mul_add, Int.mul_assoc]
      omega
  have hq : 1 ≤ q := by
    rcases Int.lt_or_le q 1 with c | c
    · have := Int.mul_le_mul_of_nonneg_right (show q ≤ 0 by omega) (show 0 ≤ y1 * 4294967296 + y0 by omega)
      omega
    · exact c
  refine ⟨⟨?_, ?_⟩, hq⟩
  · rw [Int.sub_mul]; omega
  · have : q - 1 + 1 = q := by omega
    rw [this]; exact g

theorem k_quo {n Y q : Int} (h1 : q * Y ≤ n) (h2 : n < (q + 1) * Y) (hY : 0 < Y) : n / Y = q := by
  have a := (Int.le_ediv_iff_mul_le (a := q) (b := n) hY).mpr h1
  have b := (Int.ediv_lt_iff_lt_mul (a := n) (b := q + 1) hY).mpr h2
  omega
theorem k_out1 {u d y1 y0 q r : Int} (h : KInv u d y1 y0 q r) (hY : 0 < y1 * 4294967296 + y0) (ht : q * y0 ≤ 4294967296 * r + d) :
    (u * 4294967296 + d) / (y1 * 4294967296 + y0) = q := by
  obtain ⟨e, g⟩ := h
  refine k_quo ?_ g hY
  have a : q * (y1 * 4294967296 + y0) = q * y1 * 4294967296 + q * y0 := by rw [Int.mul_add, Int.mul_assoc]
  omega
theorem k_out2 {u d y1 y0 q r : Int} (h : KInv u d y1 y0 q r) (hY : 0 < y1 * 4294967296 + y0) (h0 : 0 ≤ y0) (h0' : y0 < 4294967296) (hd : 0 ≤ d) (hq : q ≤ 4294967296) (hr : 4294967296 ≤ r) :
    (u * 4294967296 + d) / (y1 * 4294967296 + y0) = q := by
  refine k_out1 h hY ?_
  have := Int.mul_le_mul_of_nonneg_right hq h0
  omega

/-- what one guess comes to: quotient and rest, and that nothing goes round -/
theorem k_rest {u d Y Q : Int} (hu : 0 ≤ u) (hlt : u < Y) (hd0 : 0 ≤ d) (hd : d < 4294967296) (hQ : (u * 4294967296 + d) / Y = Q) :
    0 ≤ Q ∧ Q < 4294967296 ∧ 0 ≤ u * 4294967296 + d - Q * Y ∧ u * 4294967296 + d - Q * Y < Y := by
  have e := Int.mul_ediv_add_emod (u * 4294967296 + d) Y
  have e1 := Int.emod_nonneg (u * 4294967296 + d) (show Y ≠ 0 by omega)
  have e2 := Int.emod_lt_of_pos (u * 4294967296 + d) (show 0 < Y by omega)
  rw [hQ, Int.mul_comm] at e
  have q0 : 0 ≤ Q := by rw [← hQ]; exact Int.ediv_nonneg (by omega) (by omega)
  have q1 : Q < 4294967296 := by rw [← hQ]; exact (Int.ediv_lt_iff_lt_mul (show 0 < Y by omega)).mpr (by omega)
  exact ⟨q0, q1, by omega, by omega⟩
theorem k_wrap {u d Y Q : Int} (hY : Y < 18446744073709551616) (h0 : 0 ≤ u * 4294967296 + d - Q * Y) (h1 : u * 4294967296 + d - Q * Y < Y) :
    IntKind.u64.wrap (IntKind.u64.wrap (IntKind.u64.wrap (u * 4294967296) + d) - IntKind.u64.wrap (Q * Y)) = u * 4294967296 + d - Q * Y := by
  simp only [IntKind.wrap_u64]
  generalize Q * Y = P at *
  omega
theorem k_all {U1 U0 Y Q1 Q0 : Int} (hY : 0 < Y)
    (h0 : ((U1 * 4294967296 + U0 / 4294967296 - Q1 * Y) * 4294967296 + U0 % 4294967296) / Y = Q0) :
    (U1 * 18446744073709551616 + U0) / Y = Q1 * 4294967296 + Q0 := by
  have e : U1 * 18446744073709551616 + U0 = ((U1 * 4294967296 + U0 / 4294967296 - Q1 * Y) * 4294967296 + U0 % 4294967296) + (Q1 * 4294967296) * Y := by
    have : Q1 * 4294967296 * Y = Q1 * Y * 4294967296 := by rw [Int.mul_right_comm]
    omega
  rw [e, Int.add_mul_ediv_right _ _ (by omega), h0]
  omega

/-! ### the shift -/
theorem shl_facts {h l y : Int} (s : Nat) (hs : s ≤ 63) (h0 : 0 ≤ h) (hl : 0 ≤ l) (hl' : l < 18446744073709551616) (hh : h < y)
    (ylow : 9223372036854775808 ≤ y * ((2 ^ s : Nat) : Int)) (yhigh : y * ((2 ^ s : Nat) : Int) < 18446744073709551616) :
    ∃ Y U1 U0 : Int, 9223372036854775808 ≤ Y ∧ Y < 18446744073709551616 ∧ 0 ≤ U1 ∧ U1 < Y ∧ 0 ≤ U0 ∧ U0 < 18446744073709551616 ∧
      IntKind.u64.wrap (y * 2 ^ s) = Y ∧ IntKind.u64.wrap (l * 2 ^ s) = U0 ∧
      bits .or .u64 (IntKind.u64.wrap (h * 2 ^ s)) (l / 2 ^ (64 - s)) = U1 ∧
      (h * 18446744073709551616 + l) / y = (U1 * 18446744073709551616 + U0) / Y := by
  have ep : (2 : Int) ^ s = ((2 ^ s : Nat) : Int) := by rw [Int.natCast_pow]; rfl
  have ep' : (2 : Int) ^ (64 - s) = ((2 ^ (64 - s) : Nat) : Int) := by rw [Int.natCast_pow]; rfl
  have p1 : 1 ≤ 2 ^ s := Nat.one_le_two_pow
  have p2 : 1 ≤ 2 ^ (64 - s) := Nat.one_le_two_pow
  have pp : 2 ^ s * 2 ^ (64 - s) = 18446744073709551616 := by
    rw [← Nat.pow_add, show s + (64 - s) = 64 by omega]
  have hy : 0 < y := by omega
  rw [ep, ep']
  have dv : ∃ H : Nat, h = H := Int.eq_ofNat_of_zero_le h0
  obtain ⟨H, rfl⟩ := dv
  obtain ⟨l', rfl⟩ := Int.eq_ofNat_of_zero_le hl
  -- h * 2^s does not go round
  have hb : H * 2 ^ s < 18446744073709551616 := by
    have a := Int.mul_le_mul_of_nonneg_right (Int.le_of_lt hh) (Int.natCast_nonneg (2 ^ s))
    rw [← Int.natCast_mul] at a
    omega
  have lo : l' / 2 ^ (64 - s) < 2 ^ s := by
    rw [Nat.div_lt_iff_lt_mul (by omega), pp]; omega
  have jn : (H * 2 ^ s) ||| (l' / 2 ^ (64 - s)) = H * 2 ^ s + l' / 2 ^ (64 - s) := by
    rw [Nat.mul_comm, Nat.two_pow_add_eq_or_of_lt lo]
  have w1 : IntKind.u64.wrap ((H : Int) * ((2 ^ s : Nat) : Int)) = ((H * 2 ^ s : Nat) : Int) := by
    rw [IntKind.wrap_u64, ← Int.natCast_mul]; omega
  have w2 : (l' : Int) / ((2 ^ (64 - s) : Nat) : Int) = ((l' / 2 ^ (64 - s) : Nat) : Int) := (Int.natCast_ediv _ _).symm
  have lo' : l' / 2 ^ (64 - s) < 18446744073709551616 := by
    have := Nat.div_le_self l' (2 ^ (64 - s)); omega
  have ob := bits_or_u64_nat (H * 2 ^ s) (l' / 2 ^ (64 - s)) hb lo'
  have w3 : IntKind.u64.wrap (y * ((2 ^ s : Nat) : Int)) = y * ((2 ^ s : Nat) : Int) := by rw [IntKind.wrap_u64]; omega
  have w4 : IntKind.u64.wrap ((l' : Int) * ((2 ^ s : Nat) : Int)) = ((l' * 2 ^ s % 18446744073709551616 : Nat) : Int) := by
    rw [IntKind.wrap_u64, ← Int.natCast_mul]; omega
  -- the whole number, shifted
  have key : l' * 2 ^ s = l' / 2 ^ (64 - s) * 18446744073709551616 + l' * 2 ^ s % 18446744073709551616 := by
    have a := Nat.div_add_mod (l' * 2 ^ s) 18446744073709551616
    have b : l' * 2 ^ s / 18446744073709551616 = l' / 2 ^ (64 - s) := by
      rw [← pp, Nat.mul_comm l', Nat.mul_div_mul_left _ _ (by omega)]
    rw [b] at a
    omega
  have sum : ((H : Int) * 18446744073709551616 + l') * ((2 ^ s : Nat) : Int) = ((H * 2 ^ s + l' / 2 ^ (64 - s) : Nat) : Int) * 18446744073709551616 + ((l' * 2 ^ s % 18446744073709551616 : Nat) : Int) := by
    have c1 : ((H : Int) * 18446744073709551616 + l') * ((2 ^ s : Nat) : Int) = ((H * 2 ^ s : Nat) : Int) * 18446744073709551616 + ((l' * 2 ^ s : Nat) : Int) := by
      rw [Int.add_mul, Int.natCast_mul, Int.natCast_mul, Int.mul_right_comm]
    omega
  have u1lt : ((H * 2 ^ s + l' / 2 ^ (64 - s) : Nat) : Int) < y * ((2 ^ s : Nat) : Int) := by
    have a := Int.mul_le_mul_of_nonneg_right (show (H : Int) + 1 ≤ y by omega) (Int.natCast_nonneg (2 ^ s))
    rw [Int.add_mul, ← Int.natCast_mul] at a
    omega
  refine ⟨y * ((2 ^ s : Nat) : Int), ((H * 2 ^ s + l' / 2 ^ (64 - s) : Nat) : Int), ((l' * 2 ^ s % 18446744073709551616 : Nat) : Int), ylow, yhigh, Int.natCast_nonneg _, u1lt, Int.natCast_nonneg _, by omega, w3, w4, ?_, ?_⟩
  · rw [w1, w2, ob, jn]
  · rw [← sum, Int.mul_ediv_mul_of_pos_left _ _ (by omega)]
end Go.Proofs.Ytmfpfoikfpcnkaa
