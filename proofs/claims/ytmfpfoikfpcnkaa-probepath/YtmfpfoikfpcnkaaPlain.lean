/-
  The plain arithmetic of chapter 2: gaps, shares, roots, digits, sums and products as functions of whole numbers, and what holds of them; no Go in sight.
-/
import Derived.Lib.BitFns
import Derived.Lib.ItoaNum
namespace Go.Proofs.Ytmfpfoikfpcnkaa
open Go

def gapZ (a b : Int) : Int := if b < a then 0 else b - a
def shareZ (p w n : Int) : Int := if 1 ≤ w ∧ 1 ≤ n ∧ n ≤ 65536 then min p w * n / w else 0
def sqN : Nat → Nat
  | 0 => 0
  | n + 1 => if (sqN n + 1) * (sqN n + 1) ≤ n + 1 then sqN n + 1 else sqN n
def rootZ (n : Int) : Int := (sqN n.toNat : Int)
def bitsZ (n : Int) : Int := (Lib.bitLen n.toNat : Int)
def plusZ (a b : Int) : Int := if 0 ≤ a ∧ 0 ≤ b then min (a + b) 9223372036854775807 else 0
def timesZ (a b : Int) : Int := if 0 ≤ a ∧ 0 ≤ b then min (a * b) 9223372036854775807 else 0

/-! ### Roots -/
theorem sqN_spec (n : Nat) : sqN n * sqN n ≤ n ∧ n < (sqN n + 1) * (sqN n + 1) := by
  induction n with
  | zero => simp [sqN]
  | succ n ih =>
    obtain ⟨h1, h2⟩ := ih
    unfold sqN
    split
    · rename_i h
      refine ⟨h, ?_⟩
      generalize sqN n = r at h1 h2 h
      have e : (r + 1 + 1) * (r + 1 + 1) = (r + 1) * (r + 1) + 2 * r + 3 := by
        simp only [Nat.mul_add, Nat.add_mul]; omega
      omega
    · rename_i h
      exact ⟨by omega, by omega⟩

theorem mul_self_lt {a b : Int} (ha : 0 ≤ a) (h : a < b) : a * a < b * b := by
  have h1 : a * a ≤ a * b := Int.mul_le_mul_of_nonneg_left (by omega) ha
  have h2 : a * b < b * b := Int.mul_lt_mul_of_pos_right h (by omega)
  omega
theorem mul_self_le {a b : Int} (ha : 0 ≤ a) (h : a ≤ b) : a * a ≤ b * b := by
  have h1 : a * a ≤ a * b := Int.mul_le_mul_of_nonneg_left h ha
  have h2 : a * b ≤ b * b := Int.mul_le_mul_of_nonneg_right h (by omega)
  omega
theorem lt_of_self {a b : Int} (hb : 0 ≤ b) (h : a * a < b * b) : a < b := by
  rcases Int.lt_or_le a b with g | g
  · exact g
  · have := mul_self_le hb g
    omega

theorem root_spec {n : Int} (h : 0 ≤ n) : 0 ≤ rootZ n ∧ rootZ n * rootZ n ≤ n ∧ n < (rootZ n + 1) * (rootZ n + 1) := by
  obtain ⟨h1, h2⟩ := sqN_spec n.toNat
  unfold rootZ
  refine ⟨by omega, ?_, ?_⟩
  · rw [← Int.natCast_mul]; omega
  · have e : ((sqN n.toNat : Int) + 1) * ((sqN n.toNat : Int) + 1) = (((sqN n.toNat + 1) * (sqN n.toNat + 1) : Nat) : Int) := by
      rw [Int.natCast_mul, Int.natCast_add]; rfl
    rw [e]; omega
theorem root_unique {n r : Int} (hr : 0 ≤ r) (h1 : r * r ≤ n) (h2 : n < (r + 1) * (r + 1)) : rootZ n = r := by
  have hn : 0 ≤ n := Int.le_trans (Int.mul_nonneg hr hr) h1
  obtain ⟨g0, g1, g2⟩ := root_spec hn
  have a1 := lt_of_self (a := r) (b := rootZ n + 1) (by omega) (by omega)
  have a2 := lt_of_self (a := rootZ n) (b := r + 1) (by omega) (by omega)
  omega
theorem root_none {n : Int} (h : n < 1) : rootZ n = 0 := by
  have e : n.toNat = 0 := by omega
  unfold rootZ
  rw [e]; rfl

/-- d is a power of two up to 2^31 -/
def Pw (d : Int) : Prop := ∃ k : Nat, k ≤ 31 ∧ d = ((2 ^ k : Nat) : Int)
theorem pw_bound {d : Int} (h : Pw d) : 1 ≤ d ∧ d ≤ 2147483648 := by
  obtain ⟨k, hk, rfl⟩ := h
  have h1 : 1 ≤ 2 ^ k := Nat.one_le_two_pow
  have h2 : 2 ^ k ≤ 2 ^ 31 := Nat.pow_le_pow_right (by omega) hk
  omega
theorem pw_half {d : Int} (h : Pw d) : (d = 1 ∧ d / 2 = 0) ∨ (d = 2 * (d / 2) ∧ Pw (d / 2)) := by
  obtain ⟨k, hk, rfl⟩ := h
  cases k with
  | zero => left; decide
  | succ k =>
    right
    have e : ((2 ^ (k + 1) : Nat) : Int) = 2 * ((2 ^ k : Nat) : Int) := by rw [Nat.pow_succ]; omega
    refine ⟨by omega, k, by omega, by omega⟩

def RInv (n r d : Int) : Prop := 0 ≤ r ∧ r * r ≤ n ∧ ((d = 0 ∧ n < (r + 1) * (r + 1)) ∨ (Pw d ∧ n < (r + 2 * d) * (r + 2 * d)))
theorem rinv_bound {n r d : Int} (hn : n ≤ 9223372036854775807) (h : RInv n r d) : 0 ≤ r ∧ r ≤ 3037000499 ∧ 0 ≤ d ∧ d ≤ 2147483648 := by
  obtain ⟨h0, h1, h2⟩ := h
  have a := lt_of_self (a := r) (b := 3037000500) (by omega) (by omega)
  rcases h2 with ⟨rfl, _⟩ | ⟨h2, _⟩
  · omega
  · have := pw_bound h2; omega
theorem rinv_up {n r d : Int} (h : RInv n r d) (hd : 0 < d) (hc : (r + d) * (r + d) ≤ n) : RInv n (r + d) (d / 2) := by
  obtain ⟨h0, h1, h2⟩ := h
  rcases h2 with ⟨rfl, _⟩ | ⟨h2, h3⟩
  · omega
  · refine ⟨by omega, hc, ?_⟩
    have e : r + d + d = r + 2 * d := by omega
    rcases pw_half h2 with ⟨g1, g2⟩ | ⟨g1, g2⟩
    · left
      refine ⟨g2, ?_⟩
      have e1 : r + d + 1 = r + 2 * d := by omega
      rw [e1]; exact h3
    · right
      refine ⟨g2, ?_⟩
      have e1 : r + d + 2 * (d / 2) = r + 2 * d := by omega
      rw [e1]; exact h3
theorem rinv_stay {n r d : Int} (h : RInv n r d) (hd : 0 < d) (hc : n < (r + d) * (r + d)) : RInv n r (d / 2) := by
  obtain ⟨h0, h1, h2⟩ := h
  rcases h2 with ⟨rfl, _⟩ | ⟨h2, h3⟩
  · omega
  · refine ⟨h0, h1, ?_⟩
    rcases pw_half h2 with ⟨g1, g2⟩ | ⟨g1, g2⟩
    · left
      refine ⟨g2, ?_⟩
      rw [← g1]; rw [g1] at hc ⊢; exact hc
    · right
      refine ⟨g2, ?_⟩
      rw [← g1]; exact hc
theorem rinv_end {n r : Int} (h : RInv n r 0) : rootZ n = r := by
  obtain ⟨h0, h1, h2⟩ := h
  rcases h2 with ⟨_, h3⟩ | ⟨h2, h3⟩
  · exact root_unique h0 h1 h3
  · have := pw_bound h2; omega
theorem le_quo {n t : Int} (ht : 0 < t) : t ≤ n / t ↔ t * t ≤ n := Int.le_ediv_iff_mul_le ht

/-! ### Digits -/
theorem bits_spec {n : Int} (h : 1 ≤ n) (h' : n ≤ 9223372036854775807) : ∃ L : Nat, bitsZ n = L ∧ 1 ≤ L ∧ L ≤ 63 ∧ ((2 ^ (L - 1) : Nat) : Int) ≤ n ∧ n < ((2 ^ L : Nat) : Int) := by
  obtain ⟨a, b, c⟩ := Lib.bitLenAux_bounds 64 n.toNat (by omega) (by omega)
  have d := Lib.bitLen_le n.toNat 63 (by omega) (by omega)
  refine ⟨Lib.bitLen n.toNat, rfl, a, d, ?_, ?_⟩
  · have b' : 2 ^ (Lib.bitLen n.toNat - 1) ≤ n.toNat := b
    omega
  · have c' : n.toNat < 2 ^ Lib.bitLen n.toNat := c
    omega
theorem bits_none {n : Int} (h : n < 1) : bitsZ n = 0 := by
  have e : n.toNat = 0 := by omega
  unfold bitsZ
  rw [e]; rfl
theorem bits_le (n : Int) (h' : n ≤ 9223372036854775807) : 0 ≤ bitsZ n ∧ bitsZ n ≤ 63 := by
  have d := Lib.bitLen_le n.toNat 63 (by omega) (by omega)
  unfold bitsZ
  omega
theorem bits_half {n : Int} (h : 0 < n) (h' : n ≤ 9223372036854775807) : bitsZ n = bitsZ (n / 2) + 1 := by
  have e := Lib.bitLen_half n.toNat (by omega) (by omega)
  have e2 : (n / 2).toNat = n.toNat / 2 := by omega
  unfold bitsZ
  rw [e2, e]; omega

theorem root_begin {n : Int} (h : 1 ≤ n) (h' : n ≤ 9223372036854775807) : RInv n 0 ((2 ^ ((bitsZ n - 1) / 2).toNat : Nat) : Int) := by
  obtain ⟨L, e, l1, l2, b1, b2⟩ := bits_spec h h'
  rw [e]
  have e2 : (((L : Int) - 1) / 2).toNat = (L - 1) / 2 := by omega
  rw [e2]
  refine ⟨by omega, by omega, Or.inr ⟨⟨(L - 1) / 2, by omega, rfl⟩, ?_⟩⟩
  have e3 : (0 + 2 * ((2 ^ ((L - 1) / 2) : Nat) : Int)) = ((2 ^ ((L - 1) / 2 + 1) : Nat) : Int) := by
    rw [Nat.pow_succ]; omega
  rw [e3, ← Int.natCast_mul, ← Nat.pow_add]
  have : 2 ^ L ≤ 2 ^ ((L - 1) / 2 + 1 + ((L - 1) / 2 + 1)) := Nat.pow_le_pow_right (by omega) (by omega)
  omega
end Go.Proofs.Ytmfpfoikfpcnkaa
