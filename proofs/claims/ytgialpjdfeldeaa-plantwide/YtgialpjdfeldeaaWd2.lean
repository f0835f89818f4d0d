/-
  What the proof of YtgialpjdfeldeaaPlantWideProof goes by, part 2 of 6: contracts and plain facts; each part begins with its own sentence. No conditions beyond each theorem's own.
-/
import Derived.Test.YtgialpjdfeldeaaWd1
import Derived.Lib.BitFns
import Derived.Lib.ItoaNum
import Derived.Test.YtgialpjdfeldeaaRows
import Derived.WalkKit
import Derived.WalkSmall
import Derived.BigQuiet
import Derived.Deep.QuietTactic
import Derived.RangeFuncNested
import Derived.RangeFuncBound
import Derived.RangeFuncLeaves
import Derived.Shelf.Abstract
import Derived.Shelf.RegionOpen
import Derived.OwnWalkIn
import Derived.TacticsInMore
import Derived.LoopNIn
import Derived.LoopIn
/-! The plain arithmetic of chapter 2: gaps, shares, roots, digits, sums and products as functions of whole numbers, and what holds of them; no Go in sight. -/
namespace Go.Proofs.Ytgialpjdfeldeaa.Pb
open Go

def gapZ (a b : Int) : Int := if b < a then 0 else b - a
def shareZ (p w n : Int) : Int := if 1 ≤ w ∧ 1 ≤ n ∧ n ≤ 65536 then min p w * n / w else 0
def sqN : Nat → Nat
  | 0 => 0
  | n + 1 => if (sqN n + 1) * (sqN n + 1) ≤ n + 1 then sqN n + 1 else sqN n
def rootZ (n : Int) : Int := (sqN n.toNat : Int)
def bitsZ (n : Int) : Int := (Lib.bitLen n.toNat : Int)
def plusZ (a b : Int) : Int := if 0 ≤ a ∧ 0 ≤ b then min (a + b) 9223372036854775807 else 0
def timesZ (a b : Int) : Int := if 0 ≤ a ∧ 0 ≤ b then min (a * b) 9223372036854775807 else 0

/-! ### Roots -/
theorem sqN_spec (n : Nat) : sqN n * sqN n ≤ n ∧ n < (sqN n + 1) * (sqN n + 1) := by
  induction n with
  | zero => simp [sqN]
  | succ n ih =>
    obtain ⟨h1, h2⟩ := ih
    unfold sqN
    split
    · rename_i h
      refine ⟨h, ?_⟩
      generalize sqN n = r at h1 h2 h
      have e : (r + 1 + 1) * (r + 1 + 1) = (r + 1) * (r + 1) + 2 * r + 3 := by
        simp only [Nat.mul_add, Nat.add_mul]; omega
      omega
    · rename_i h
      exact ⟨by omega, by omega⟩

theorem mul_self_lt {a b : Int} (ha : 0 ≤ a) (h : a < b) : a * a < b * b := by
  have h1 : a * a ≤ a * b := Int.mul_le_mul_of_nonneg_left (by omega) ha
  have h2 : a * b < b * b := Int.mul_lt_mul_of_pos_right h (by omega)
  omega
theorem mul_self_le {a b : Int} (ha : 0 ≤ a) (h : a ≤ b) : a * a ≤ b * b := by
  have h1 : a * a ≤ a * b := Int.mul_le_mul_of_nonneg_left h ha
  have h2 : a * b ≤ b * b := Int.mul_le_mul_of_nonneg_right h (by omega)
  omega
theorem lt_of_self {a b : Int} (hb : 0 ≤ b) (h : a * a < b * b) : a < b := by
  rcases Int.lt_or_le a b with g | g
  · exact g
  · have := mul_self_le hb g
    omega

theorem root_spec {n : Int} (h : 0 ≤ n) : 0 ≤ rootZ n ∧ rootZ n * rootZ n ≤ n ∧ n < (rootZ n + 1) * (rootZ n + 1) := by
  obtain ⟨h1, h2⟩ := sqN_spec n.toNat
  unfold rootZ
  refine ⟨by omega, ?_, ?_⟩
  · rw [← Int.natCast_mul]; omega
  · have e : ((sqN n.toNat : Int) + 1) * ((sqN n.toNat : Int) + 1) = (((sqN n.toNat + 1) * (sqN n.toNat + 1) : Nat) : Int) := by
      rw [Int.natCast_mul, Int.natCast_add]; rfl
    rw [e]; omega
theorem root_unique {n r : Int} (hr : 0 ≤ r) (h1 : r * r ≤ n) (h2 : n < (r + 1) * (r + 1)) : rootZ n = r := by
  have hn : 0 ≤ n := Int.le_trans (Int.mul_nonneg hr hr) h1
  obtain ⟨g0, g1, g2⟩ := root_spec hn
  have a1 := lt_of_self (a := r) (b := rootZ n + 1) (by omega) (by omega)
  have a2 := lt_of_self (a := rootZ n) (b := r + 1) (by omega) (by omega)
  omega
theorem root_none {n : Int} (h : n < 1) : rootZ n = 0 := by
  have e : n.toNat = 0 := by omega
  unfold rootZ
  rw [e]; rfl

/-- d is a power of two up to 2^31 -/
def Pw (d : Int) : Prop := ∃ k : Nat, k ≤ 31 ∧ d = ((2 ^ k : Nat) : Int)
theorem pw_bound {d : Int} (h : Pw d) : 1 ≤ d ∧ d ≤ 2147483648 := by
  obtain ⟨k, hk, rfl⟩ := h
  have h1 : 1 ≤ 2 ^ k := Nat.one_le_two_pow
  have h2 : 2 ^ k ≤ 2 ^ 31 := Nat.pow_le_pow_right (by omega) hk
  omega
theorem pw_half {d : Int} (h : Pw d) : (d = 1 ∧ d / 2 = 0) ∨ (d = 2 * (d / 2) ∧ Pw (d / 2)) := by
  obtain ⟨k, hk, rfl⟩ := h
  cases k with
  | zero => left; decide
  | succ k =>
    right
    have e : ((2 ^ (k + 1) : Nat) : Int) = 2 * ((2 ^ k : Nat) : Int) := by rw [Nat.pow_succ]; omega
    refine ⟨by omega, k, by omega, by omega⟩

def RInv (n r d : Int) : Prop := 0 ≤ r ∧ r * r ≤ n ∧ ((d = 0 ∧ n < (r + 1) * (r + 1)) ∨ (Pw d ∧ n < (r + 2 * d) * (r + 2 * d)))
theorem rinv_bound {n r d : Int} (hn : n ≤ 9223372036854775807) (h : RInv n r d) : 0 ≤ r ∧ r ≤ 3037000499 ∧ 0 ≤ d ∧ d ≤ 2147483648 := by
  obtain ⟨h0, h1, h2⟩ := h
  have a := lt_of_self (a := r) (b := 3037000500) (by omega) (by omega)
  rcases h2 with ⟨rfl, _⟩ | ⟨h2, _⟩
  · omega
  · have := pw_bound h2; omega
theorem rinv_up {n r d : Int} (h : RInv n r d) (hd : 0 < d) (hc : (r + d) * (r + d) ≤ n) : RInv n (r + d) (d / 2) := by
  obtain ⟨h0, h1, h2⟩ := h
  rcases h2 with ⟨rfl, _⟩ | ⟨h2, h3⟩
  · omega
  · refine ⟨by omega, hc, ?_⟩
    have e : r + d + d = r + 2 * d := by omega
    rcases pw_half h2 with ⟨g1, g2⟩ | ⟨g1, g2⟩
    · left
      refine ⟨g2, ?_⟩
      have e1 : r + d + 1 = r + 2 * d := by omega
      rw [e1]; exact h3
    · right
      refine ⟨g2, ?_⟩
      have e1 : r + d + 2 * (d / 2) = r + 2 * d := by omega
      rw [e1]; exact h3
theorem rinv_stay {n r d : Int} (h : RInv n r d) (hd : 0 < d) (hc : n < (r + d) * (r + d)) : RInv n r (d / 2) := by
  obtain ⟨h0, h1, h2⟩ := h
  rcases h2 with ⟨rfl, _⟩ | ⟨h2, h3⟩
  · omega
  · refine ⟨h0, h1, ?_⟩
    rcases pw_half h2 with ⟨g1, g2⟩ | ⟨g1, g2⟩
    · left
      refine ⟨g2, ?_⟩
      rw [← g1]; rw [g1] at hc ⊢; exact hc
    · right
      refine ⟨g2, ?_⟩
      rw [← g1]; exact hc
theorem rinv_end {n r : Int} (h : RInv n r 0) : rootZ n = r := by
  obtain ⟨h0, h1, h2⟩ := h
  rcases h2 with ⟨_, h3⟩ | ⟨h2, h3⟩
  · exact root_unique h0 h1 h3
  · have := pw_bound h2; omega
theorem le_quo {n t : Int} (ht : 0 < t) : t ≤ n / t ↔ t * t ≤ n := Int.le_ediv_iff_mul_le ht

/-! ### Digits -/
theorem bits_spec {n : Int} (h : 1 ≤ n) (h' : n ≤ 9223372036854775807) : ∃ L : Nat, bitsZ n = L ∧ 1 ≤ L ∧ L ≤ 63 ∧ ((2 ^ (L - 1) : Nat) : Int) ≤ n ∧ n < ((2 ^ L : Nat) : Int) := by
  obtain ⟨a, b, c⟩ := Lib.bitLenAux_bounds 64 n.toNat (by omega) (by omega)
  have d := Lib.bitLen_le n.toNat 63 (by omega) (by omega)
  refine ⟨Lib.bitLen n.toNat, rfl, a, d, ?_, ?_⟩
  · have b' : 2 ^ (Lib.bitLen n.toNat - 1) ≤ n.toNat := b
    omega
  · have c' : n.toNat < 2 ^ Lib.bitLen n.toNat := c
    omega
theorem bits_none {n : Int} (h : n < 1) : bitsZ n = 0 := by
  have e : n.toNat = 0 := by omega
  unfold bitsZ
  rw [e]; rfl
theorem bits_le (n : Int) (h' : n ≤ 9223372036854775807) : 0 ≤ bitsZ n ∧ bitsZ n ≤ 63 := by
  have d := Lib.bitLen_le n.toNat 63 (by omega) (by omega)
  unfold bitsZ
  omega
theorem bits_half {n : Int} (h : 0 < n) (h' : n ≤ 9223372036854775807) : bitsZ n = bitsZ (n / 2) + 1 := by
  have e := Lib.bitLen_half n.toNat (by omega) (by omega)
  have e2 : (n / 2).toNat = n.toNat / 2 := by omega
  unfold bitsZ
  rw [e2, e]; omega

theorem root_begin {n : Int} (h : 1 ≤ n) (h' : n ≤ 9223372036854775807) : RInv n 0 ((2 ^ ((bitsZ n - 1) / 2).toNat : Nat) : Int) := by
  obtain ⟨L, e, l1, l2, b1, b2⟩ := bits_spec h h'
  rw [e]
  have e2 : (((L : Int) - 1) / 2).toNat = (L - 1) / 2 := by omega
  rw [e2]
  refine ⟨by omega, by omega, Or.inr ⟨⟨(L - 1) / 2, by omega, rfl⟩, ?_⟩⟩
  have e3 : (0 + 2 * ((2 ^ ((L - 1) / 2) : Nat) : Int)) = ((2 ^ ((L - 1) / 2 + 1) : Nat) : Int) := by
    rw [Nat.pow_succ]; omega
  rw [e3, ← Int.natCast_mul, ← Nat.pow_add]
  have : 2 ^ L ≤ 2 ^ ((L - 1) / 2 + 1 + ((L - 1) / 2 + 1)) := Nat.pow_le_pow_right (by omega) (by omega)
  omega
end Go.Proofs.Ytgialpjdfeldeaa.Pb

/-! Chapter 6 as functions of lists of whole numbers: rising lists, how many are not above a key, the guess, the path; what holds of them. No Go in sight. No conditions beyond each theorem's own. -/
namespace Go.Proofs.Ytgialpjdfeldeaa.Pb

/-- A list of strictly ascending keys, not too long. -/
def Up (q : List Int) : Prop := q.length ≤ 65536 ∧ q.Pairwise (· < ·)
instance (q : List Int) : Decidable (Up q) := inferInstanceAs (Decidable (_ ∧ _))
def upB (q : List Int) : Bool := decide (Up q)
/-- How many are not above k. -/
def cnt (q : List Int) (k : Int) : Nat := q.countP (fun z => decide (z ≤ k))
def findN (q : List Int) (k : Int) : Nat := if Up q then cnt q k else 0
def guessZ (a b k n : Int) : Int := if 2 ≤ n ∧ n ≤ 65536 ∧ a ≤ k ∧ k < b then 1 + shareZ (gapZ a k) (gapZ a b) (n - 1) else 0
/-- From i on up to the first one above k; m: how many there are ahead of the last. -/
def goUp (q : List Int) (k : Int) : Nat → Nat → List Int
  | 0, _ => []
  | m + 1, i => (i : Int) :: if k < q.getD (i - 1) 0 then [] else goUp q k m (i + 1)
/-- From m + 1 on down to the first one that is not above k, but not to 1. -/
def goDown (q : List Int) (k : Int) : Nat → List Int
  | 0 => []
  | m + 1 => ((m + 2 : Nat) : Int) :: if q.getD (m + 1) 0 ≤ k then [] else goDown q k m
/-- The path where k lies between the first and the last key. -/
def midP (q : List Int) (k : Int) (j : Nat) : List Int :=
  (1 : Int) :: (q.length : Int) :: ((if 1 < j then [(j : Int)] else []) ++ if q.getD (j - 1) 0 ≤ k then goUp q k (q.length - (j + 1)) (j + 1) else goDown q k (j - 2))
def pathP (q : List Int) (k : Int) : List Int :=
  if Up q then
    match q with
    | [] => []
    | x :: r =>
      if k < x ∨ r = [] then [1]
      else if q.getD (q.length - 1) 0 ≤ k then [1, (q.length : Int)]
      else midP q k (guessZ x (q.getD (q.length - 1) 0) k q.length).toNat
  else []

/-! ### Rising lists -/
theorem take_snoc' {q : List Int} {k : Nat} {z : Int} (h : q[k]? = some z) : q.take (k + 1) = q.take k ++ [z] := by
  obtain ⟨h1, rfl⟩ := List.getElem?_eq_some_iff.1 h
  exact List.take_succ_eq_append_getElem h1
theorem pw_snoc {q : List Int} {k : Nat} {y z : Int} (h : (q.take (k + 1)).Pairwise (· < ·)) (hy : q[k]? = some y) (hz : q[k + 1]? = some z) (hyz : y < z) : (q.take (k + 2)).Pairwise (· < ·) := by
  rw [take_snoc' hz, List.pairwise_append]
  refine ⟨h, by simp, fun a ha b hb => ?_⟩
  obtain rfl : b = z := by simpa using hb
  rw [take_snoc' hy] at h ha
  rw [List.pairwise_append] at h
  rcases List.mem_append.1 ha with ha | ha
  · have := h.2.2 a ha y (by simp)
    omega
  · obtain rfl : a = y := by simpa using ha
    exact hyz
theorem pw_not {q : List Int} {k : Nat} {y z : Int} (hy : q[k]? = some y) (hz : q[k + 1]? = some z) (hyz : z ≤ y) : ¬ q.Pairwise (· < ·) := by
  intro h
  obtain ⟨h1, e1⟩ := List.getElem?_eq_some_iff.1 hy
  obtain ⟨h2, e2⟩ := List.getElem?_eq_some_iff.1 hz
  have := List.pairwise_iff_getElem.1 h k (k + 1) h1 h2 (by omega)
  omega
theorem up_lt {q : List Int} (h : q.Pairwise (· < ·)) {i j : Nat} {y z : Int} (hy : q[i]? = some y) (hz : q[j]? = some z) (hij : i < j) : y < z := by
  obtain ⟨h1, e1⟩ := List.getElem?_eq_some_iff.1 hy
  obtain ⟨h2, e2⟩ := List.getElem?_eq_some_iff.1 hz
  have := List.pairwise_iff_getElem.1 h i j h1 h2 hij
  omega
theorem up_le {q : List Int} (h : q.Pairwise (· < ·)) {i j : Nat} {y z : Int} (hy : q[i]? = some y) (hz : q[j]? = some z) (hij : i ≤ j) : y ≤ z := by
  rcases Nat.lt_or_ge i j with g | g
  · exact Int.le_of_lt (up_lt h hy hz g)
  · obtain rfl : i = j := by omega
    rw [hy] at hz
    cases hz
    exact Int.le_refl _

/-! ### How many are not above -/
theorem cnt_snoc {q : List Int} {k z : Int} {n : Nat} (h : q[n]? = some z) : cnt (q.take (n + 1)) k = cnt (q.take n) k + if z ≤ k then 1 else 0 := by
  rw [take_snoc' h]
  unfold cnt
  rw [List.countP_append]
  simp [List.countP_cons]
theorem cnt_le (q : List Int) (k : Int) : cnt q k ≤ q.length := List.countP_le_length
theorem cnt_take_le (q : List Int) (k : Int) (n : Nat) : cnt (q.take n) k ≤ n := by
  have := cnt_le (q.take n) k
  rw [List.length_take] at this
  omega
/-- Where the keys up to p are not above k and those behind it are. -/
theorem cnt_at {q : List Int} {k : Int} {p : Nat} (hp : p ≤ q.length) (h1 : ∀ j z, q[j]? = some z → j < p → z ≤ k) (h2 : ∀ j z, q[j]? = some z → p ≤ j → k < z) : cnt q k = p := by
  have e : q = q.take p ++ q.drop p := (List.take_append_drop p q).symm
  unfold cnt
  rw [e, List.countP_append]
  have e1 : (q.take p).countP (fun z => decide (z ≤ k)) = p := by
    have : (q.take p).length = p := by rw [List.length_take]; omega
    rw [List.countP_eq_length.2, this]
    intro z hz
    obtain ⟨i, hi, rfl⟩ := List.getElem_of_mem hz
    rw [List.length_take] at hi
    simp only [decide_eq_true_eq, List.getElem_take]
    exact h1 i _ (List.getElem?_eq_getElem (by omega)) (by omega)
  have e2 : (q.drop p).countP (fun z => decide (z ≤ k)) = 0 := by
    rw [List.countP_eq_zero]
    intro z hz
    obtain ⟨i, hi, rfl⟩ := List.getElem_of_mem hz
    rw [List.length_drop] at hi
    simp only [decide_eq_true_eq, List.getElem_drop]
    have := h2 (p + i) _ (List.getElem?_eq_getElem (by omega)) (by omega)
    omega
  rw [e1, e2, Nat.add_zero]
theorem cnt_below {q : List Int} {k : Int} (h : q.Pairwise (· < ·)) {j : Nat} {z : Int} (hz : q[j]? = some z) : (j < cnt q k ↔ z ≤ k) := by
  induction q generalizing j with
  | nil => simp at hz
  | cons x q ih =>
    obtain ⟨h1, h2⟩ := List.pairwise_cons.1 h
    have hc : cnt (x :: q) k = cnt q k + if x ≤ k then 1 else 0 := by
      unfold cnt
      rw [List.countP_cons]
      simp
    rw [hc]
    cases j with
    | zero =>
      obtain rfl : x = z := by simpa using hz
      by_cases g : x ≤ k
      · simp [g]
      · have : cnt q k = 0 := by
          unfold cnt
          rw [List.countP_eq_zero]
          intro y hy
          have := h1 y hy
          simp only [decide_eq_true_eq]
          omega
        simp [g, this]
    | succ j =>
      have hz' : q[j]? = some z := by simpa using hz
      have := ih h2 hz'
      obtain ⟨hj, ez⟩ := List.getElem?_eq_some_iff.1 hz'
      have hx : x < z := h1 z (by rw [← ez]; exact List.getElem_mem hj)
      by_cases g : x ≤ k
      · rw [if_pos g, ← this]
        omega
      · rw [if_neg g]
        constructor
        · intro hlt
          have := this.1 (by omega)
          omega
        · intro hlt
          omega

/-! ### The guess -/
theorem guess_none {a b k n : Int} (h : ¬ (2 ≤ n ∧ n ≤ 65536 ∧ a ≤ k ∧ k < b)) : guessZ a b k n = 0 := if_neg h
theorem guess_some {a b k n : Int} (h : 2 ≤ n ∧ n ≤ 65536 ∧ a ≤ k ∧ k < b) : guessZ a b k n = 1 + (k - a) * (n - 1) / (b - a) := by
  unfold guessZ
  rw [if_pos h]
  have e1 : gapZ a k = k - a := by simp only [gapZ]; rw [if_neg (by omega)]
  have e2 : gapZ a b = b - a := by simp only [gapZ]; rw [if_neg (by omega)]
  rw [e1, e2]
  unfold shareZ
  rw [if_pos (by omega), show min (k - a) (b - a) = k - a by omega]
theorem guess_bound {a b k n : Int} (h : 2 ≤ n ∧ n ≤ 65536 ∧ a ≤ k ∧ k < b) : 1 ≤ guessZ a b k n ∧ guessZ a b k n ≤ n - 1 := by
  rw [guess_some h]
  have h1 : 0 ≤ (k - a) * (n - 1) := Int.mul_nonneg (by omega) (by omega)
  have h2 : (k - a) * (n - 1) < (n - 1) * (b - a) := by
    rw [Int.mul_comm (n - 1)]
    exact Int.mul_lt_mul_of_pos_right (by omega) (by omega)
  have h3 := Int.ediv_nonneg h1 (show 0 ≤ b - a by omega)
  have h4 := (Int.ediv_lt_iff_lt_mul (show 0 < b - a by omega)).2 h2
  omega
theorem guess_mono {a b k l n : Int} (h : 2 ≤ n ∧ n ≤ 65536 ∧ a ≤ k ∧ k ≤ l ∧ l < b) : guessZ a b k n ≤ guessZ a b l n := by
  rw [guess_some (by omega), guess_some (by omega)]
  have h1 : (k - a) * (n - 1) ≤ (l - a) * (n - 1) := Int.mul_le_mul_of_nonneg_right (by omega) (by omega)
  have := Int.ediv_le_ediv (show 0 < b - a by omega) h1
  omega
theorem guess_first {a b n : Int} (h : 2 ≤ n ∧ n ≤ 65536 ∧ a < b) : guessZ a b a n = 1 := by
  rw [guess_some (by omega), Int.sub_self, Int.zero_mul, Int.zero_ediv]
  rfl
end Go.Proofs.Ytgialpjdfeldeaa.Pb

/-! What probe.Right, the document's Rising, cmp.Less and slices.BinarySearch at int64, probe.Find, the document's Find and its Ints answer, of slices that read as lists of whole numbers; the worlds differ by draws alone. -/
namespace Go.Proofs.Ytgialpjdfeldeaa.Pb
open Go.RowKit

theorem _root_.Go.Proofs.Ytgialpjdfeldeaa.Reads.two {w : World} {a : Option Addr} {zs : List Int} (h : Reads w a zs) {i j : Nat} {y z : Int} (hy : zs[i]? = some y) (hz : zs[j]? = some z) :
    ∃ bl off, a = some ⟨bl, off, none⟩ ∧ bl < w.heap.size ∧ w.cell? ⟨bl, off + i, none⟩ = some (.int .i64 y) ∧ w.cell? ⟨bl, off + j, none⟩ = some (.int .i64 z) := by
  obtain ⟨bl, off, rfl, h1, h2⟩ := h.at hy
  obtain ⟨bl', off', e, _, h4⟩ := h.at hz
  cases e
  exact ⟨bl, off, rfl, h1, h2, h4⟩

theorem up_false {q : List Int} (h : ¬ q.Pairwise (· < ·)) : upB q = false := by
  simp only [upB, decide_eq_false_iff_not]
  exact fun g => h g.2
theorem up_long {q : List Int} (h : 65536 < q.length) : upB q = false := by
  simp only [upB, decide_eq_false_iff_not]
  exact fun g => by have := g.1; omega
theorem up_true {q : List Int} (h0 : q.length ≤ 65536) (h : q.Pairwise (· < ·)) : upB q = true := by
  simp only [upB, decide_eq_true_eq]
  exact ⟨h0, h⟩

/-- Its first n rise. -/
def PwTo (q : List Int) (n : Nat) : Prop := (q.take n).Pairwise (· < ·)
theorem PwTo.start (q : List Int) : PwTo q 1 := by
  unfold PwTo
  cases q with
  | nil => simp
  | cons x q => simp

set_option maxRecDepth 100000 in
theorem right_c (w : World) (a : Option Addr) (q : List Int) (cap : Nat) (hr : Reads w a q) (hc : q.length ≤ cap) (hm : cap ≤ maxLen) :
    Calls Try.prog 43 #[.slice a q.length cap] w fun e w' => e = .returned (.bool (upB q)) ∧ ∃ m, w' = w.drewN m := by
  have HR := hide hr
  clear hr
  have hm' : (q.length : Int) ≤ 9223372036854775807 := by unfold maxLen at hm; omega
  clear hm
  by_cases hl : 65536 < q.length
  · rw [up_long hl]
    have hl' : (65536 : Int) < (q.length : Int) := by omega
    go_enter Try.func43, Try.ntmps43
    go_wp2
    go_ret
    exact ⟨rfl, 0, rfl⟩
  · have hl' : ¬ ((65536 : Int) < (q.length : Int)) := by omega
    have HL : Hid (q.length ≤ 65536) := hide (by omega)
    clear hl
    go_enter Try.func43, Try.ntmps43
    go_wp2
    go_loopw [3] (fun i wr => ∃ k d : Nat, (k < q.length ∨ k = 0) ∧ i = .int .i64 ((k : Int) + 1) ∧ PwTo q (k + 1) ∧ wr = w.drewN d) (fun i _ => q.length + 1 - (intOf i).toNat)
    case atStart =>
      exact ⟨0, 0, .inr rfl, rfl, .start q, rfl⟩
    case round =>
      obtain ⟨k, d, hk1, rfl, HP, rfl⟩ := hrel
      by_cases hlt : k + 1 < q.length
      · obtain ⟨z, hz⟩ : ∃ p, q[k + 1]? = some p := ⟨_, List.getElem?_eq_getElem hlt⟩
        obtain ⟨y, hy⟩ : ∃ p, q[k]? = some p := ⟨_, List.getElem?_eq_getElem (by omega)⟩
        obtain ⟨bl, off, rfl, hbl, g1, g3⟩ := HR.out.two hy hz
        have i1 : (k : Int) + 1 < (q.length : Int) := by omega
        have i3 : k + 1 < cap := by omega
        by_cases hyz : y < z
        · have HP2 : Hid (PwTo q (k + 1 + 1)) := pw_snoc HP hy hz hyz
          have hzy : ¬ (z ≤ y) := by omega
          clear hz hy hk1 HP hyz
          go_wp2
          go_quiet (fail)
          go_wp2
          exact ⟨⟨k + 1, _, .inl (by omega), by simp, HP2.out, rfl⟩, by simp [intOf]; omega⟩
        · have HF := hide (up_false (pw_not hy hz (by omega)))
          have hyz' : z ≤ y := by omega
          clear hz hy hk1 HP hyz
          go_wp2
          go_quiet (fail)
          go_wp2
          go_ret
          exact ⟨by rw [HF.out]; rfl, _, World.drewN_drewN ..⟩
      · have i1 : ¬ ((k : Int) + 1 < (q.length : Int)) := by omega
        have HF : Hid (upB q = true) := hide (up_true HL.out (by
          have : (q.take (k + 1)).Pairwise (· < ·) := HP
          rwa [List.take_of_length_le (by omega)] at this))
        clear HP
        go_wp2
        go_ret
        exact ⟨by rw [HF.out]; rfl, _, rfl⟩
/-- Where a key lies: the keys ahead of p are below it, those from p on are not. -/
def Lies (q : List Int) (k : Int) (p : Nat) : Prop := p ≤ q.length ∧ (∀ j z, q[j]? = some z → j < p → z < k) ∧ ∀ j z, q[j]? = some z → p ≤ j → k ≤ z

end Go.Proofs.Ytgialpjdfeldeaa.Pb

/-! The program's check of soundness: the keys of an Inner. -/
namespace Go.Proofs.Ytgialpjdfeldeaa
open Go.RowKit

theorem info4_p : (Try.prog.info? 4).map (fun i => (i.zero, i.size, i.bytes)) = some (some (.bool false), 1, 1) := by kernel_rfl
theorem run_make39 (n : Nat) (h : n ≤ 100000) (w : World) : (Instr.makeSlice 35 (.int .i64 (n : Int)) (.int .i64 (n : Int))).run Try.prog w = .ok (.slice (some ⟨w.heap.size, 0, none⟩) n n) (w.alloc (.cells (madeCells #[.int .i64 0] n) 2)) :=
  run_make_row' 35 2 (.int .i64 0) 8 Try.underlying35 info2_p rfl .i64 .i64 n (by omega) (by omega) w
theorem run_make58 (n : Nat) (h : n ≤ 100000) (w : World) : (Instr.makeSlice 77 (.int .i64 (n : Int)) (.int .i64 (n : Int))).run Try.prog w = .ok (.slice (some ⟨w.heap.size, 0, none⟩) n n) (w.alloc (.cells (madeCells #[.bool false] n) 4)) :=
  run_make_row' 77 4 (.bool false) 1 Try.underlying77 info4_p rfl .i64 .i64 n (by omega) (by omega) w

/-- The keys as they are filled in: the first k. -/
def fillK (s : Mst) (a k : Nat) : Nat → Value := fun j => if j < k then .int .i64 (ky s a (j + 1)) else .int .i64 0
theorem fillK_step (s : Mst) (a k : Nat) (j : Nat) : (if j = k then Value.int .i64 (ky s a (k + 1)) else fillK s a k j) = fillK s a (k + 1) j := by
  unfold fillK
  by_cases e : j = k
  · subst e; simp
  · simp only [e, if_false]
    have : j < k ↔ j < k + 1 := by omega
    simp only [this]
def keysL (s : Mst) (a d : Nat) : List Int := (List.range (d - 1)).map (fun j => ky s a (j + 1))
theorem keysL_len (s : Mst) (a d : Nat) : (keysL s a d).length = d - 1 := by simp [keysL]
theorem keysL_get {s : Mst} {a d j : Nat} (h : j < d - 1) : (keysL s a d)[j]? = some (ky s a (j + 1)) := by
  unfold keysL
  rw [List.getElem?_map, List.getElem?_range h]
  rfl
theorem reads_keys {W : World} {q d a : Nat} {s : Mst} (h : W.rowIs q 2 (d - 1) (fillK s a (d - 1))) : Reads W (some ⟨q, 0, none⟩) (keysL s a d) := by
  refine .inr ⟨q, 0, rfl, fun j z hz => ?_⟩
  have hj : j < d - 1 := by
    have := (List.getElem?_eq_some_iff.1 hz).1
    rwa [keysL_len] at this
  rw [keysL_get hj] at hz
  cases hz
  rw [Nat.zero_add, h.cell hj, fillK, if_pos hj]

/-- The cells that an Inner takes. -/
def innerT (s : Mst) (t : Tk) (a : Nat) : Option Tk := if s.look a < 2 then none else takeO (s.xs.length + 1) t a (2 * (s.look a).toNat + 4)
def KeysPost (w0 W : World) (b : Nat) (s : Mst) (c g a : Nat) (r : Option Tk) (e : Ending) (W' : World) : Prop :=
  ∃ t', Turned (fun i => i = g) W W' ∧ Chk w0 W' b s c g t' ∧ ((r = none ∧ e = .returned (.tuple #[.slice none 0 0, .bool false])) ∨
    (r = some t' ∧ ∃ d q : Nat, s.look a = (d : Int) ∧ 2 ≤ d ∧ d ≤ 40000 ∧ a + 2 * d + 4 ≤ s.xs.length + 1 ∧ w0.heap.size ≤ q ∧ q ≠ g ∧ q ≠ c ∧ W'.rowIs q 2 (d - 1) (fillK s a (d - 1)) ∧ e = .returned (.tuple #[.slice (some ⟨q, 0, none⟩) (d - 1) (d - 1), .bool true])))

set_option maxRecDepth 20000 in
theorem keys_p (w0 W : World) (b : Nat) (s : Mst) (c g : Nat) (t : Tk) (C : Chk w0 W b s c g t) (a : Nat) (h1 : 1 ≤ a) (h2 : a ≤ 65536) (r : Option Tk) (e1 : innerT s t a = r) :
    Calls Try.prog 110 #[.pointer (some ⟨c, 0, none⟩), .int .i64 (a : Int)] W (KeysPost w0 W b s c g a r) := by
  have c0 := C.c0
  have HL := hide C.ok.2
  have H := hide C
  obtain ⟨D, hD⟩ : ∃ D, s.look a = D := ⟨_, rfl⟩
  have HD := hide hD
  have hI := C.ok.look a
  rw [hD] at hI
  obtain ⟨hI1, hI2⟩ := hI
  by_cases hd2 : D < 2
  · have HR : Hid (r = none) := hide (by rw [← e1, innerT, hD, if_pos hd2])
    clear C e1 hD hI1 hI2
    go_enter Try.func110, Try.ntmps110
    go_wp2_with (fail)
    refine (lk_p _ b s a D H.out.mem HD.out).mono ?_
    rintro e w' ⟨rfl, rfl⟩
    go_wp2
    go_ret2
    exact ⟨t, Turned.refl _ _, H.out, .inl ⟨HR.out, rfl⟩⟩
  · have hr : r = takeO (s.xs.length + 1) t a (2 * D.toNat + 4) := by rw [← e1, innerT, hD, if_neg hd2]
    obtain ⟨d, rfl⟩ : ∃ d : Nat, D = (d : Int) := ⟨D.toNat, by omega⟩
    have hdn : ((d : Int)).toNat = d := by omega
    rw [hdn] at hr
    have hd2' : ¬ ((d : Int) < 2) := hd2
    by_cases hfit : a + 2 * d + 4 ≤ s.xs.length + 1
    · have hN := HL.out
      have dS : d ≤ 40000 := by omega
      have hcz := hide (childZ_in (n := a) (d := d) (i := d) (by omega) (by omega) (by omega) (by omega) (by omega) (by omega))
      have HF := hide hfit
      have HR := hide hr.symm
      have i5 : (a : Int) + 4 + d + d - a = ((2 * d + 4 : Nat) : Int) := by omega
      clear C e1 hD hI1 hI2 hd2 hfit hr hdn hN
      cases hT : takeO (s.xs.length + 1) t a (2 * d + 4) with
      | none =>
        have HT := hide hT
        clear hT
        go_enter Try.func110, Try.ntmps110
        go_wp2_with (fail)
        refine (lk_p _ b s a d H.out.mem HD.out).mono ?_
        rintro e w' ⟨rfl, rfl⟩
        go_wp2_with (fail)
        refine (child_c _ a d d _ hcz.out).mono ?_
        rintro e w' ⟨rfl, rfl⟩
        go_wp2_with (fail)
        refine (take_p w0 _ b s c g t H.out a (2 * d + 4) h1 (by omega) (by omega) none HT.out).mono ?_
        rintro e w' ⟨rfl, hT', t', C', _⟩
        have H' := hide C'
        have TT := hide hT'
        clear C' hT' H c0
        go_wp2
        go_ret2
        exact ⟨t', TT.out, H'.out, .inl ⟨by rw [← HR.out, HT.out], rfl⟩⟩
      | some t1 =>
        have HT := hide hT
        clear hT
        go_enter Try.func110, Try.ntmps110
        go_wp2_with (fail)
        refine (lk_p _ b s a d H.out.mem HD.out).mono ?_
        rintro e w' ⟨rfl, rfl⟩
        go_wp2_with (fail)
        refine (child_c _ a d d _ hcz.out).mono ?_
        rintro e w' ⟨rfl, rfl⟩
        go_wp2_with (fail)
        refine (take_p w0 _ b s c g t H.out a (2 * d + 4) h1 (by omega) (by omega) (some t1) HT.out).mono ?_
        rintro e W1 ⟨rfl, hT', t', C', ht'⟩
        have := ht' _ rfl
        subst this
        have H' := hide C'
        have TT := hide hT'
        have hq1 := Nat.le_trans H'.out.hg (Nat.le_of_lt H'.out.row.lt)
        have hq2 := H'.out.row.lt
        have hq3 : c < W1.heap.size := by
          have := H'.out.box
          by_cases hh : c < W1.heap.size
          · exact hh
          · rw [Array.getElem?_eq_none (by omega)] at this; cases this
        have Q1 := hide hq1
        have Q2 := hide hq2
        have Q3 := hide hq3
        clear C' hT' H c0 ht' hq1 hq2 hq3
        have hmk := run_make39 (d - 1) (by omega)
        have M0 := hide (World.rowIs_made W1 (.int .i64 0) (d - 1) 2)
        have HA := hide (H'.out.on (Kept.alloc (Kept.refl _) (.cells (madeCells #[.int .i64 0] (d - 1)) 2)))
        have TA := hide (Kept.behind TT.out (Kept.alloc (Kept.refl _) (.cells (madeCells #[.int .i64 0] (d - 1)) 2)))
        have L1 := hide (TT.out.size)
        obtain ⟨q, hq⟩ : ∃ q, W1.heap.size = q := ⟨_, rfl⟩
        have MM : Hid ((W1.alloc (.cells (madeCells #[.int .i64 0] (d - 1)) 2)).rowIs q 2 (d - 1) (fillK s a 0)) := hide (by
          rw [← hq]
          exact M0.out.congr (fun j _ => by simp [fillK]))
        have QW : Hid (W1.heap.size = q) := hide hq
        rw [hq] at Q1 Q2 Q3 L1
        have hm0 : (d - 1 : Nat) ≤ 40000 := by omega
        obtain ⟨m, hm⟩ : ∃ m, d - 1 = m := ⟨_, rfl⟩
        have HM := hide hm
        have i6 : (d : Int) - 1 = (m : Int) := by omega
        rw [hm] at hmk MM HA TA hm0
        clear M0 hm H'
        go_wp2
        go_loopw [35] (fun v wr => ∃ k : Nat, k ≤ m ∧ v = .int .i64 (k : Int) ∧ Hid (wr.rowIs q 2 m (fillK s a k)) ∧ Hid (Chk w0 wr b s c g t') ∧ Hid (Turned (fun i => i = g) W wr)) (fun v _ => m - (intOf v).toNat)
        case atStart => exact ⟨0, by omega, by simp, MM, HA, TA⟩
        case round =>
          obtain ⟨k, hk, rfl, HK, HC, HTR⟩ := hrel
          by_cases hkn : k < m
          · have j1 : (k : Int) < (m : Int) := by omega
            obtain ⟨V, hV⟩ : ∃ V, wr.drew = V := ⟨_, rfl⟩
            have HCV : Hid (Chk w0 V b s c g t') := hide (by rw [← hV]; exact HC.out.on (Kept.drew wr))
            have HKV : Hid (V.rowIs q 2 m (fillK s a k)) := hide (by rw [← hV]; exact HK.out)
            have HV := hide hV
            have hkz := hide (keyZ_in (n := a) (i := (k : Int) + 1) (by omega) (by omega) (by omega) (by omega))
            obtain ⟨z, hz⟩ : ∃ z, s.look ((a : Int) + 4 + ((k : Int) + 1)) = z := ⟨_, rfl⟩
            have HZ := hide hz
            have b3 := HKV.out.frozen k
            have b4 := HKV.out.cell hkn
            have G1 : Hid ((V.setCell ⟨q, k, none⟩ (.int .i64 z)).rowIs q 2 m (fillK s a (k + 1))) := hide ((HKV.out.set k (.int .i64 z)).congr (fun j _ => by
              rw [← fillK_step, ← hz]
              have : ky s a (k + 1) = s.look ((a : Int) + 4 + ((k : Int) + 1)) := by unfold ky; rfl
              rw [this]))
            have G2 : Hid (Chk w0 (V.setCell ⟨q, k, none⟩ (.int .i64 z)) b s c g t') := hide (by
              have T : Turned (fun i => i = q) V (V.setCell ⟨q, k, none⟩ (.int .i64 z)) := Turned.setCell V ⟨q, k, none⟩ (.int .i64 z) rfl
              have C := HCV.out
              exact ⟨C.mem0, C.ok, C.kept.did Q1.out T, C.hc, C.hg, C.ne, T.heap C.box (by have := Q3.out; omega), C.row.of_block (T.block g C.row.lt (by have := Q2.out; omega))⟩)
            have x0 : ∀ y : Wd (fun U => U = V ∨ U = V.setCell ⟨q, k, none⟩ (.int .i64 z)), y.w.cell? ⟨c, 0, none⟩ = some (.pointer (some ⟨b, 0, none⟩)) := fun y => by
              rcases y.ok with e | e
              · rw [e]; exact HCV.out.c0
              · rw [e]; exact G2.out.c0
            have G3 : Hid (Turned (fun i => i = g) W (V.setCell ⟨q, k, none⟩ (.int .i64 z))) := hide (by
              have T : Turned (fun i => i = q) V (V.setCell ⟨q, k, none⟩ (.int .i64 z)) := Turned.setCell V ⟨q, k, none⟩ (.int .i64 z) rfl
              rw [← hV] at T ⊢
              exact (Kept.behind HTR.out (Kept.drew wr)).trans T (fun _ e => e) (fun i hi e => absurd hi (by have := L1.out; omega)))
            clear hz HK HC HTR
            go_wp2_with (fail)
            refine region_wide [0, 1, 2, 3, 4, 5, 6, 7, 8, 9, 10, 11, 12] (fun U => U = V ∨ U = V.setCell ⟨q, k, none⟩ (.int .i64 z)) (by kernel_rfl) (by kernel_rfl) (.inl HV.out) (fun _ => ?_)
            clear hV
            rw [HV.out]
            repeat (refine pq rfl rfl ?_; go_big_quiet_step (fail); refine wpQuiet_nil ?_)
            refine pl rfl rfl ?_
            gi_wp2_with (fail)
            refine ⟨trivial, ?_⟩
            refine (callsIn_wide.2 (key_c _ a ((k : Int) + 1) _ hkz.out)).mono ?_
            rintro e U ⟨rfl, rfl⟩
            gi_wp2_with (fail)
            refine ⟨Wd.mem (.inl rfl), ?_⟩
            refine pl rfl rfl ?_
            gi_wp2_with (fail)
            refine ⟨trivial, ?_⟩
            refine (callsIn_wide.2 (lk_p _ b s _ z HCV.out.mem HZ.out)).mono ?_
            rintro e U ⟨rfl, rfl⟩
            gi_wp2_with (fail)
            refine ⟨Wd.mem (.inl rfl), ?_⟩
            refine pq rfl rfl ?_
            go_big_quiet_step (fail)
            refine wpQuiet_nil ?_
            refine pl rfl rfl ?_
            gi_wp2
            refine ⟨Wd.mem (.inr rfl), ?_⟩
            refine perm_done ?_
            go_wp2
            exact ⟨⟨k + 1, by omega, by simp, G1, G2, G3⟩, by simp [intOf]; omega⟩
          · have hkn' : k = m := by omega
            subst hkn'
            have j1 : ¬ ((k : Int) < (k : Int)) := by omega
            go_wp2
            go_ret2
            have HR2 : r = some t' := by rw [← HR.out, HT.out]
            refine ⟨t', HTR.out, HC.out, .inr ⟨HR2, d, q, HD.out, by omega, by omega, HF.out, Q1.out, by have := Q2.out; omega, by have := Q3.out; omega, ?_, ?_⟩⟩
            · rw [HM.out]; exact HK.out
            · rw [HM.out]; rfl
    · have hr' : r = none := by
        rw [hr]; unfold takeO
        rw [if_neg]
        intro hh
        simp only [Bool.and_eq_true, decide_eq_true_eq] at hh
        omega
      obtain ⟨n', hn'⟩ : ∃ n', childZ a d d = n' := ⟨_, rfl⟩
      have hn2 : n' = 0 ∨ (n' = a + 4 + d + d ∧ (d : Int) ≤ 1099511627776) := by
        rw [← hn']; unfold childZ; split
        · rename_i hh
          simp only [Bool.and_eq_true, nearB_iff] at hh
          exact .inr ⟨rfl, by omega⟩
        · exact .inl rfl
      have HC := hide hn'
      have HR := hide hr'
      have i1 : -100000 ≤ n' - a := by omega
      have i2 : n' - a ≤ 5000000000000 := by omega
      have i3 : ¬ (1 ≤ n' - a ∧ a + (n' - a) ≤ (s.xs.length : Int) + 1) := by omega
      have J1 := hide i1
      have J2 := hide i2
      have J3 := hide i3
      clear C e1 hD hI1 hI2 hd2 hfit hr hdn hr' hn' hn2 i3
      go_enter Try.func110, Try.ntmps110
      go_wp2_with (fail)
      refine (lk_p _ b s a d H.out.mem HD.out).mono ?_
      rintro e w' ⟨rfl, rfl⟩
      go_wp2_with (fail)
      refine (child_c _ a d d _ HC.out).mono ?_
      rintro e w' ⟨rfl, rfl⟩
      go_wp2_with (fail)
      refine (take0_p w0 _ b s c g t H.out a (n' - a) (by omega) (by omega) J1.out J2.out J3.out).mono ?_
      rintro e w' ⟨rfl, hT', t', C', _⟩
      have H' := hide C'
      have TT := hide hT'
      clear C' hT' H c0
      go_wp2
      go_ret2
      exact ⟨t', TT.out, H'.out, .inl ⟨HR.out, rfl⟩⟩
end Go.Proofs.Ytgialpjdfeldeaa

/-! The program's check of soundness: slots, Inners, words. -/
namespace Go.Proofs.Ytgialpjdfeldeaa
open Go.RowKit

/-- The contract of a word with fuel f, and of a slot. -/
def WordC (f : Nat) : Prop := ∀ (w0 W : World) (b : Nat) (s : Mst) (c g : Nat) (t : Tk) (_ : Chk w0 W b s c g t) (x lo hi : Int) (_ : I64 x) (_ : I64 lo) (_ : I64 hi) (_ : freeN (s.xs.length + 1) t < f) (r : Option Tk) (_ : sndW s f x lo hi t = r),
    Calls Try.prog 87 #[.pointer (some ⟨c, 0, none⟩), .int .i64 x, .int .i64 lo, .int .i64 hi] W (SndPost w0 W b s c g r)
def SlotC (f : Nat) : Prop := ∀ (w0 W : World) (b : Nat) (s : Mst) (c g : Nat) (t : Tk) (_ : Chk w0 W b s c g t) (x lo hi : Int) (_ : I64 lo) (_ : I64 hi) (_ : freeN (s.xs.length + 1) t < f) (r : Option Tk) (_ : sndSlot s (sndW s f) x lo hi t = r),
    Calls Try.prog 58 #[.pointer (some ⟨c, 0, none⟩), .int .i64 x, .int .i64 lo, .int .i64 hi] W (SndPost w0 W b s c g r)

theorem slot_of_word (f : Nat) (hW : WordC f) : SlotC f := by
  intro w0 W b s c g t C x lo hi hlo hhi hf r e1
  have c0 := C.c0
  have H := hide C
  obtain ⟨z, hz⟩ : ∃ z, s.look x = z := ⟨_, rfl⟩
  obtain ⟨k, hk⟩ : ∃ k, kd z = k := ⟨_, rfl⟩
  obtain ⟨p, hp⟩ : ∃ p, ad z = p := ⟨_, rfl⟩
  obtain ⟨l, hl⟩ : ∃ l, s.logicZ x = l := ⟨_, rfl⟩
  have hzb := C.ok.look x
  rw [hz] at hzb
  have hlb := C.ok.logic x
  rw [hl] at hlb
  have kr := ad_range z
  rw [hp] at kr
  have HZ := hide hz
  have HK := hide hk
  have HP := hide hp
  have HL := hide hl
  have HZB := hide hzb
  have HLB := hide hlb
  have HLO := hide hlo
  have HHI := hide hhi
  have HFU := hide hf
  have KR := hide kr
  have HO := hide C.ok
  by_cases hk5 : k = 5
  · cases hd : (decide (p + 4 ≤ (s.xs.length : Int)) && (s.look (p + 1) == x)) with
    | false =>
      have HR : Hid (r = none) := hide (by
        rw [← e1, sndSlot, dcssB, hz, hk, hp, hd, hk5]; rfl)
      have HD := hide hd
      subst hk5
      clear C hz hk hp hl hzb hlb hlo hhi hf kr e1 hd
      go_enter Try.func58, Try.ntmps58
      go_wp2_with (fail)
      refine (lk_p _ b s x z H.out.mem HZ.out).mono ?_
      rintro e w' ⟨rfl, rfl⟩
      go_wp2_with (fail)
      refine (kk_p _ z 5 HZB.out HK.out).mono ?_
      rintro e w' ⟨rfl, rfl⟩
      go_wp2_with (fail)
      refine (ak_p _ z p HZB.out HP.out).mono ?_
      rintro e w' ⟨rfl, rfl⟩
      go_wp2_with (fail)
      refine (dcss_p w0 _ b s c g t H.out p x false KR.out.1 (by have := KR.out.2; omega) HD.out).mono ?_
      rintro e w' ⟨rfl, rfl⟩
      go_wp2
      go_ret
      exact ⟨by rw [HR.out]; rfl, Turned.refl _ _, t, H.out, fun u h => by rw [HR.out] at h; cases h⟩
    | true =>
      have HR : Hid (sndW s f l lo hi t = r) := hide (by
        rw [← e1, sndSlot, dcssB, hz, hk, hp, hd, hk5, hl]; rfl)
      have HD := hide hd
      subst hk5
      clear C hz hk hp hl hzb hlb hlo hhi hf kr e1 hd
      go_enter Try.func58, Try.ntmps58
      go_wp2_with (fail)
      refine (lk_p _ b s x z H.out.mem HZ.out).mono ?_
      rintro e w' ⟨rfl, rfl⟩
      go_wp2_with (fail)
      refine (kk_p _ z 5 HZB.out HK.out).mono ?_
      rintro e w' ⟨rfl, rfl⟩
      go_wp2_with (fail)
      refine (ak_p _ z p HZB.out HP.out).mono ?_
      rintro e w' ⟨rfl, rfl⟩
      go_wp2_with (fail)
      refine (dcss_p w0 _ b s c g t H.out p x true KR.out.1 (by have := KR.out.2; omega) HD.out).mono ?_
      rintro e w' ⟨rfl, rfl⟩
      go_wp2_with (fail)
      refine (logic_p _ b s x l H.out.mem HO.out HL.out).mono ?_
      rintro e w' ⟨rfl, rfl⟩
      go_wp2_with (fail)
      refine (hW w0 _ b s c g t H.out l lo hi HLB.out HLO.out HHI.out HFU.out r HR.out).mono ?_
      rintro e w' ⟨rfl, hT, hC⟩
      have HC := hide hC
      have HT := hide hT
      clear hC hT H c0
      go_wp2
      go_ret
      exact ⟨rfl, HT.out, HC.out⟩
  · have HR : Hid (sndW s f l lo hi t = r) := hide (by
      have : (k == 5) = false := by simp [hk5]
      rw [← e1, sndSlot, dcssB, hz, hk, this, hl]; rfl)
    have g1 : (k == 5) = false := by simp [hk5]
    have g2 : (k != 5) = true := by simp [hk5]
    clear C hz hk hp hl hzb hlb hlo hhi hf kr e1 hk5
    go_enter Try.func58, Try.ntmps58
    go_wp2_with (fail)
    refine (lk_p _ b s x z H.out.mem HZ.out).mono ?_
    rintro e w' ⟨rfl, rfl⟩
    go_wp2_with (fail)
    refine (kk_p _ z k HZB.out HK.out).mono ?_
    rintro e w' ⟨rfl, rfl⟩
    go_wp2_with (fail)
    refine (logic_p _ b s x l H.out.mem HO.out HL.out).mono ?_
    rintro e w' ⟨rfl, rfl⟩
    go_wp2_with (fail)
    refine (hW w0 _ b s c g t H.out l lo hi HLB.out HLO.out HHI.out HFU.out r HR.out).mono ?_
    rintro e w' ⟨rfl, hT, hC⟩
    have HC := hide hC
    have HT := hide hT
    clear hC hT H c0
    go_wp2
    go_ret
    exact ⟨rfl, HT.out, HC.out⟩

theorem right_k (W : World) (q M : Nat) (L : List Int) (hM : L.length = M) (hm : M ≤ 100000) (hr : Reads W (some ⟨q, 0, none⟩) L) (r : Bool) (e1 : Pb.upB L = r) :
    Calls Try.prog 43 #[.slice (some ⟨q, 0, none⟩) M M] W fun e W' => e = .returned (.bool r) ∧ Kept W W' := by
  subst hM e1
  refine (Pb.right_c W (some ⟨q, 0, none⟩) L L.length hr (Nat.le_refl _) (by unfold maxLen; omega)).mono ?_
  rintro e W' ⟨rfl, m, rfl⟩
  exact ⟨rfl, Kept.drewN _ _⟩

theorem keysB_iff {s : Mst} {a d : Nat} {lo hi : Int} : keysB s a d lo hi = true ↔ ∀ i, i < d - 1 → lowZ s a lo i < ky s a (i + 1) ∧ ky s a (i + 1) ≤ hi := by
  unfold keysB
  rw [List.all_eq_true]
  constructor
  · intro h i hi'
    have := h i (by simpa using hi')
    simpa using this
  · intro h i hi'
    have := h i (by simpa using hi')
    simpa using this
theorem keysB_up {s : Mst} {a d : Nat} {lo hi : Int} (hd : d ≤ 60000) (h : keysB s a d lo hi = true) : Pb.upB (keysL s a d) = true := by
  refine Pb.up_true (by rw [keysL_len]; omega) ?_
  have hk := keysB_iff.1 h
  have key : ∀ i j, i < j → j < d - 1 → ky s a (i + 1) < ky s a (j + 1) := by
    intro i j hij
    induction j with
    | zero => omega
    | succ j ih =>
      intro hj
      have h1 := (hk (j + 1) hj).1
      rw [lowZ, if_neg (by omega)] at h1
      by_cases e : i = j
      · subst e; exact h1
      · exact Int.lt_trans (ih (by omega) (by omega)) h1
  rw [List.pairwise_iff_getElem]
  intro i j hi hj hij
  rw [keysL_len] at hi hj
  simp only [keysL, List.getElem_map, List.getElem_range]
  exact key i j hij hj
theorem keysB_of {s : Mst} {a d : Nat} {lo hi : Int} (hd : 2 ≤ d) (hu : Pb.upB (keysL s a d) = true) (h0 : lo < ky s a 1) (h1 : ky s a (d - 1) ≤ hi) : keysB s a d lo hi = true := by
  have hp : (keysL s a d).Pairwise (· < ·) := (of_decide_eq_true hu).2
  apply keysB_iff.2
  intro i hi'
  have up : ∀ i j, i < j → j < d - 1 → ky s a (i + 1) < ky s a (j + 1) := fun i j hij hj =>
    Pb.up_lt hp (keysL_get (by omega)) (keysL_get hj) hij
  constructor
  · unfold lowZ
    split
    · rename_i e; subst e; exact h0
    · rename_i e
      have := up (i - 1) i (by omega) hi'
      rwa [Nat.sub_add_cancel (by omega)] at this
  · by_cases e : i = d - 2
    · subst e
      have : d - 2 + 1 = d - 1 := by omega
      rwa [this]
    · have := up i (d - 2) (by omega) (by omega)
      rw [show d - 2 + 1 = d - 1 by omega] at this
      omega

set_option maxHeartbeats 2000000 in
set_option maxRecDepth 20000 in
theorem inner_of_slot (f : Nat) (hS : SlotC f) (w0 W : World) (b : Nat) (s : Mst) (c g : Nat) (t : Tk) (C : Chk w0 W b s c g t) (a : Nat) (lo hi : Int) (h1 : 1 ≤ a) (h2 : a ≤ 65536) (hlo : I64 lo) (hhi : I64 hi) (hf : freeN (s.xs.length + 1) t < f + 1) (r : Option Tk) (e1 : sndInner s (sndW s f) a lo hi t = r) :
    Calls Try.prog 103 #[.pointer (some ⟨c, 0, none⟩), .int .i64 (a : Int), .int .i64 lo, .int .i64 hi] W (SndPost w0 W b s c g r) := by
  have H := hide C
  have HO := hide C.ok
  have HLO := hide hlo
  have HHI := hide hhi
  have HSL := hide hS
  have HTT : Hid (∀ W', Chk w0 W' b s c g t → True) := hide (fun _ _ => trivial)
  have e2 : r = (innerT s t a).bind fun t1 => if (keysB s a (s.look a).toNat lo hi && shutB s a) = true then chain (kidG s (sndW s f) a (s.look a).toNat lo hi) (s.look a).toNat t1 else none := by
    rw [← e1, sndInner, innerT]
    by_cases h : s.look a < 2
    · rw [if_pos h, if_pos h]; rfl
    · rw [if_neg h, if_neg h]
  cases hT : innerT s t a with
  | none =>
    have HT := hide hT
    have HR : Hid (r = none) := hide (by rw [e2, hT]; rfl)
    have HKC := hide (keys_p w0 W b s c g t C a h1 h2 none hT)
    clear C hS hlo hhi hf e1 e2 hT
    go_enter Try.func103, Try.ntmps103
    go_wp2_with (fail)
    refine HKC.out.mono ?_
    rintro e W1 ⟨t', hT1, C1, h | h⟩
    · obtain ⟨_, rfl⟩ := h
      have H1 := hide C1
      have HT1 := hide hT1
      clear C1 H HKC hT1
      go_wp2
      go_ret
      exact ⟨by rw [HR.out]; rfl, HT1.out, t', H1.out, fun u h => by rw [HR.out] at h; cases h⟩
    · exact absurd h.1 (by simp)
  | some t1 =>
    have HT := hide hT
    have hfr : freeN (s.xs.length + 1) t1 < freeN (s.xs.length + 1) t := by
      unfold innerT at hT
      split at hT
      · cases hT
      · exact takeO_free hT
    have HFR : Hid (freeN (s.xs.length + 1) t1 < f) := hide (by omega)
    have E2 := hide e2
    have HKC := hide (keys_p w0 W b s c g t C a h1 h2 (some t1) hT)
    clear C hS hlo hhi hf e1 e2 hT hfr
    refine Exists.elim (show ∃ R, R = r from ⟨r, rfl⟩) (fun R hR => ?_)
    subst hR
    go_enter Try.func103, Try.ntmps103
    go_wp2_with (fail)
    refine HKC.out.mono ?_
    rintro e W1 ⟨t', hT1, C1, h | h⟩
    · exact absurd h.1 (by simp)
    obtain ⟨h0, d, q, hd, hd2, hd4, hfit, hq0, hqg, hqc, hq, rfl⟩ := h
    cases h0
    have HT1 := hide hT1
    have H1 := hide C1
    have hdn : (s.look a).toNat = d := by omega
    have E3 := E2.out
    rw [HT.out, hdn] at E3
    have E4 : Hid (R = if (keysB s a d lo hi && shutB s a) = true then chain (kidG s (sndW s f) a d lo hi) d t1 else none) := hide E3
    have HQ0 := hide hq0
    have HQG := hide hqg
    have HQC := hide hqc
    have HQ := hide hq
    have HD := hide hd
    have hfa : (a : Int) ≤ 65536 := by omega
    obtain ⟨M, hM⟩ : ∃ M, d - 1 = M := ⟨_, rfl⟩
    have dM : d = M + 1 := by omega
    subst dM
    have hM1 : 1 ≤ M := by omega
    have hM2 : M ≤ 40000 := by omega
    have hMM : M + 1 - 1 = M := by omega
    rw [hMM] at HQ
    rw [hMM]
    obtain ⟨L, hL⟩ : ∃ L, keysL s a (M + 1) = L := ⟨_, rfl⟩
    have HLL : Hid (L.length = M) := hide (by rw [← hL, keysL_len]; omega)
    have HRD : Hid (Reads W1 (some ⟨q, 0, none⟩) L) := hide (by rw [← hL]; exact reads_keys (by rw [hMM]; exact HQ.out))
    have HL := hide hL
    obtain ⟨k1, hk1⟩ : ∃ k1, ky s a 1 = k1 := ⟨_, rfl⟩
    obtain ⟨kM, hkM⟩ : ∃ kM, ky s a M = kM := ⟨_, rfl⟩
    have HK1 := hide hk1
    have HKM := hide hkM
    clear hT1 C1 hdn E3 hq0 hqg hqc hq hd hfit HKC H hM hMM hL hk1 hkM hd2 hd4 HT E2
    cases hu : Pb.upB L with
    | false =>
      have HU := hide hu
      have HR : Hid (R = none) := hide (by
        rw [E4.out, if_neg]
        intro hh
        simp only [Bool.and_eq_true] at hh
        have := keysB_up (by omega) hh.1
        rw [HL.out, hu] at this
        cases this)
      clear hu
      go_wp2_with (fail)
      refine (right_k _ q M L HLL.out (by omega) HRD.out false HU.out).mono ?_
      rintro e W2 ⟨rfl, hk⟩
      have HK2 := hide hk
      have H2 := hide (H1.out.on hk)
      have HQ2 : Hid (W2.rowIs q 2 M (fillK s a M)) := hide (HQ.out.of_block (hk.block q HQ.out.lt (fun e => e)))
      have T2 : Hid (Turned (fun i => i = g) W W2) := hide (Kept.behind HT1.out hk)
      clear hk
      go_wp2
      go_ret
      exact ⟨by rw [HR.out]; rfl, T2.out, t1, H2.out, fun u h => by rw [HR.out] at h; cases h⟩
    | true =>
      have HU := hide hu
      clear hu
      by_cases hk1 : k1 ≤ lo
      · have HR : Hid (R = none) := hide (by
          rw [E4.out, if_neg]
          intro hh
          simp only [Bool.and_eq_true] at hh
          have := (keysB_iff.1 hh.1 0 (by omega)).1
          rw [lowZ, if_pos rfl, HK1.out] at this
          omega)
        go_wp2_with (fail)
        refine (right_k _ q M L HLL.out (by omega) HRD.out true HU.out).mono ?_
        rintro e W2 ⟨rfl, hk⟩
        have HK2 := hide hk
        have H2 := hide (H1.out.on hk)
        have HQ2 : Hid (W2.rowIs q 2 M (fillK s a M)) := hide (HQ.out.of_block (hk.block q HQ.out.lt (fun e => e)))
        have T2 : Hid (Turned (fun i => i = g) W W2) := hide (Kept.behind HT1.out hk)
        clear hk
        have q1 : W2.cell? ⟨q, 0, none⟩ = some (.int .i64 k1) := by
          rw [HQ2.out.cell (by omega), fillK, if_pos (by omega), ← HK1.out]
        have q2 : W2.cell? ⟨q, M - 1, none⟩ = some (.int .i64 kM) := by
          rw [HQ2.out.cell (by omega), fillK, if_pos (by omega), ← HKM.out, Nat.sub_add_cancel (by omega)]
        have q3 : ((M : Int) - 1).toNat = M - 1 := by omega
        have q4 : (M : Int) - 1 < (M : Int) := by omega
        have q5 : (0 : Int) < (M : Int) := by omega
        have q6 := H2.out.c0
        go_wp2
        go_ret
        exact ⟨by rw [HR.out]; rfl, T2.out, t1, H2.out, fun u h => by rw [HR.out] at h; cases h⟩
      · by_cases hk2 : hi < kM
        · have HR : Hid (R = none) := hide (by
            rw [E4.out, if_neg]
            intro hh
            simp only [Bool.and_eq_true] at hh
            have := (keysB_iff.1 hh.1 (M - 1) (by omega)).2
            rw [Nat.sub_add_cancel (by omega), HKM.out] at this
            omega)
          go_wp2_with (fail)
          refine (right_k _ q M L HLL.out (by omega) HRD.out true HU.out).mono ?_
          rintro e W2 ⟨rfl, hk⟩
          have HK2 := hide hk
          have H2 := hide (H1.out.on hk)
          have HQ2 : Hid (W2.rowIs q 2 M (fillK s a M)) := hide (HQ.out.of_block (hk.block q HQ.out.lt (fun e => e)))
          have T2 : Hid (Turned (fun i => i = g) W W2) := hide (Kept.behind HT1.out hk)
          clear hk
          have q1 : W2.cell? ⟨q, 0, none⟩ = some (.int .i64 k1) := by
            rw [HQ2.out.cell (by omega), fillK, if_pos (by omega), ← HK1.out]
          have q2 : W2.cell? ⟨q, M - 1, none⟩ = some (.int .i64 kM) := by
            rw [HQ2.out.cell (by omega), fillK, if_pos (by omega), ← HKM.out, Nat.sub_add_cancel (by omega)]
          have q3 : ((M : Int) - 1).toNat = M - 1 := by omega
          have q4 : (M : Int) - 1 < (M : Int) := by omega
          have q5 : (0 : Int) < (M : Int) := by omega
          have q6 := H2.out.c0
          go_wp2
          go_ret
          exact ⟨by rw [HR.out]; rfl, T2.out, t1, H2.out, fun u h => by rw [HR.out] at h; cases h⟩
        · have KB : Hid (keysB s a (M + 1) lo hi = true) := hide (keysB_of (by omega) (by rw [HL.out]; exact HU.out) (by rw [HK1.out]; omega) (by rw [show M + 1 - 1 = M by omega, HKM.out]; omega))
          obtain ⟨z, hz⟩ : ∃ z, s.look ((a : Int) + 2) = z := ⟨_, rfl⟩
          have HZ := hide hz
          clear hz
          have hk1' : lo < k1 := by omega
          have hk2' : kM ≤ hi := by omega
          clear hk1 hk2
          by_cases hz01 : z = 0 ∨ z = 1
          · have SB : Hid (shutB s a = true) := hide (by unfold shutB; rw [HZ.out]; rcases hz01 with e | e <;> subst e <;> rfl)
            have E5 : Hid (R = chain (kidG s (sndW s f) a (M + 1) lo hi) (M + 1) t1) := hide (by rw [E4.out, KB.out, SB.out]; rfl)
            have START : Hid (chain (kidG s (sndW s f) a (M + 1) lo hi) 0 t1 = some t1) := hide rfl
            clear SB E4
            rcases hz01 with hz0 | hz0
            · subst hz0
              go_wp2_with (fail)
              refine (right_k _ q M L HLL.out (by omega) HRD.out true HU.out).mono ?_
              rintro e W2 ⟨rfl, hk⟩
              have HK2 := hide hk
              have H2 := hide (H1.out.on hk)
              have HQ2 : Hid (W2.rowIs q 2 M (fillK s a M)) := hide (HQ.out.of_block (hk.block q HQ.out.lt (fun e => e)))
              have T2 : Hid (Turned (fun i => i = g) W W2) := hide (Kept.behind HT1.out hk)
              clear hk
              have q1 : W2.cell? ⟨q, 0, none⟩ = some (.int .i64 k1) := by
                rw [HQ2.out.cell (by omega), fillK, if_pos (by omega), ← HK1.out]
              have q2 : W2.cell? ⟨q, M - 1, none⟩ = some (.int .i64 kM) := by
                rw [HQ2.out.cell (by omega), fillK, if_pos (by omega), ← HKM.out, Nat.sub_add_cancel (by omega)]
              have q3 : ((M : Int) - 1).toNat = M - 1 := by omega
              have q4 : (M : Int) - 1 < (M : Int) := by omega
              have q5 : (0 : Int) < (M : Int) := by omega
              have q6 := H2.out.c0
              go_wp2_with (fail)
              refine (lk_p _ b s ((a : Int) + 2) 0 H2.out.mem HZ.out).mono ?_
              rintro e w' ⟨rfl, rfl⟩
              clear q1 q2 q3 q4 q5 q6
              go_wp2
              go_loopw [63] (fun v wr => ∃ (k : Nat) (tk : Tk), k ≤ M + 1 ∧ v = .int .i64 (k : Int) ∧ Hid (chain (kidG s (sndW s f) a (M + 1) lo hi) k t1 = some tk) ∧ Hid (Chk w0 wr b s c g tk) ∧ Hid (wr.rowIs q 2 M (fillK s a M)) ∧ Hid (Turned (fun i => i = g) W wr)) (fun v _ => M + 1 - (intOf v).toNat)
              case atStart => exact ⟨0, t1, by omega, by simp, START, H2, HQ2, T2⟩
              case round =>
                obtain ⟨k, tk, hk, rfl, HCH, HC, HW, HTW⟩ := hrel
                by_cases hkn : k < M + 1
                · have j1 : (k : Int) < (M : Int) + 1 := by omega
                  have HFK : Hid (freeN (s.xs.length + 1) tk < f) := hide (Nat.lt_of_le_of_lt (chain_free (sndW_free s f) HCH.out) HFR.out)
                  have hcz := hide (childZ_in (n := a) (d := (M : Int) + 1) (i := k) (by omega) (by omega) (by omega) (by omega) (by omega) (by omega))
                  obtain ⟨u, hu⟩ : ∃ u, kidG s (sndW s f) a (M + 1) lo hi k tk = u := ⟨_, rfl⟩
                  have HUU := hide hu
                  have HNX : Hid (chain (kidG s (sndW s f) a (M + 1) lo hi) (k + 1) t1 = u) := hide (by rw [chain, HCH.out]; exact hu)
                  clear hu HCH
                  by_cases hk0 : k = 0
                  · by_cases hkM : k < M
                    · obtain ⟨kh, hkh⟩ : ∃ kh, ky s a (k + 1) = kh := ⟨_, rfl⟩
                      have r1 : wr.cell? ⟨q, k, none⟩ = some (.int .i64 kh) := by
                        rw [HW.out.cell (by omega), fillK, if_pos (by omega), ← hkh]
                      have r2 : (k : Int) < (M : Int) := by omega
                      have bh1 : I64 kh := by rw [← hkh]; exact HO.out.look _
                      have bh2 : lo < kh := by
                        have h1 := keysB_iff.1 KB.out
                        have : ∀ j, j < M → lo < ky s a (j + 1) := by
                          intro j
                          induction j with
                          | zero => intro hj; have := (h1 0 (by omega)).1; rwa [lowZ, if_pos rfl] at this
                          | succ j ih =>
                            intro hj
                            have h2 := (h1 (j + 1) (by omega)).1
                            rw [lowZ, if_neg (by omega)] at h2
                            have := ih (by omega)
                            omega
                        have := this k (by omega)
                        rwa [hkh] at this
                      have bl := HLO.out
                      have bh3 : -9223372036854775808 ≤ kh - 1 := by have := bl.1; omega
                      have bh4 : kh - 1 ≤ 9223372036854775807 := by have := bh1.2; omega
                      have BH : Hid (I64 (kh - 1)) := hide ⟨bh3, bh4⟩
                      have HU2 : Hid (sndSlot s (sndW s f) ((a : Int) + 4 + ((M : Int) + 1) + k) lo (kh - 1) tk = u) := hide (by
                        rw [← HUU.out]; unfold kidG childS lowZ highZ
                        rw [if_pos hk0, if_pos (by omega), hkh]
                        rfl)
                      subst hk0
                      clear HUU hkh bh1 bl bh2
                      go_wp2_with (fail)
                      refine (child_c _ a ((M : Int) + 1) 0 _ hcz.out).mono ?_
                      rintro e w' ⟨rfl, rfl⟩
                      go_wp2_with (fail)
                      refine (HSL.out w0 _ b s c g tk HC.out _ lo (kh - 1) HLO.out BH.out HFK.out u HU2.out).mono ?_
                      rintro e W4 ⟨rfl, hT4, t4, C4, ht4⟩
                      have H4 := hide C4
                      have T4 : Hid (Turned (fun i => i = g) W W4) := hide (HTW.out.trans hT4 (fun _ e => e) (fun _ _ e => e))
                      have Q4 : Hid (W4.rowIs q 2 M (fillK s a M)) := hide (HW.out.of_block (hT4.block q HW.out.lt HQG.out))
                      cases u with
                      | none =>
                        have HR : Hid (R = none) := hide (by rw [E5.out]; exact chain_none HNX.out (by omega))
                        clear hT4 C4 ht4 HC HW HTW r1
                        go_wp2
                        go_ret
                        exact ⟨by rw [HR.out]; rfl, T4.out, t4, H4.out, fun u h => by rw [HR.out] at h; cases h⟩
                      | some u =>
                        have := ht4 u rfl
                        subst this
                        clear hT4 C4 ht4 HC HW HTW r1
                        go_wp2
                        exact ⟨⟨1, _, by omega, by simp, HNX, H4, Q4, T4⟩, by simp [intOf]⟩
                    · omega
                  · by_cases hkM : k < M
                    · obtain ⟨kl, hkl⟩ : ∃ kl, ky s a k = kl := ⟨_, rfl⟩
                      have p1 : wr.cell? ⟨q, k - 1, none⟩ = some (.int .i64 kl) := by
                        rw [HW.out.cell (by omega), fillK, if_pos (by omega), ← hkl, Nat.sub_add_cancel (by omega)]
                      have p2 : ((k : Int) - 1).toNat = k - 1 := by omega
                      have p3 : (0 : Int) < (k : Int) := by omega
                      have p4 : (k : Int) - 1 < (M : Int) := by omega
                      have BL : Hid (I64 kl) := hide (by rw [← hkl]; exact HO.out.look _)
                      obtain ⟨kh, hkh⟩ : ∃ kh, ky s a (k + 1) = kh := ⟨_, rfl⟩
                      have r1 : wr.cell? ⟨q, k, none⟩ = some (.int .i64 kh) := by
                        rw [HW.out.cell (by omega), fillK, if_pos (by omega), ← hkh]
                      have r2 : (k : Int) < (M : Int) := by omega
                      have bh1 : I64 kh := by rw [← hkh]; exact HO.out.look _
                      have bh2 : lo < kh := by
                        have h1 := keysB_iff.1 KB.out
                        have : ∀ j, j < M → lo < ky s a (j + 1) := by
                          intro j
                          induction j with
                          | zero => intro hj; have := (h1 0 (by omega)).1; rwa [lowZ, if_pos rfl] at this
                          | succ j ih =>
                            intro hj
                            have h2 := (h1 (j + 1) (by omega)).1
                            rw [lowZ, if_neg (by omega)] at h2
                            have := ih (by omega)
                            omega
                        have := this k (by omega)
                        rwa [hkh] at this
                      have bl := HLO.out
                      have bh3 : -9223372036854775808 ≤ kh - 1 := by have := bl.1; omega
                      have bh4 : kh - 1 ≤ 9223372036854775807 := by have := bh1.2; omega
                      have BH : Hid (I64 (kh - 1)) := hide ⟨bh3, bh4⟩
                      have HU2 : Hid (sndSlot s (sndW s f) ((a : Int) + 4 + ((M : Int) + 1) + k) kl (kh - 1) tk = u) := hide (by
                        rw [← HUU.out]; unfold kidG childS lowZ highZ
                        rw [if_neg hk0, hkl, if_pos (by omega), hkh]
                        rfl)
                      clear HUU hkl hkh bh1 bl bh2
                      go_wp2_with (fail)
                      refine (child_c _ a ((M : Int) + 1) k _ hcz.out).mono ?_
                      rintro e w' ⟨rfl, rfl⟩
                      go_wp2_with (fail)
                      refine (HSL.out w0 _ b s c g tk HC.out _ kl (kh - 1) BL.out BH.out HFK.out u HU2.out).mono ?_
                      rintro e W4 ⟨rfl, hT4, t4, C4, ht4⟩
                      have H4 := hide C4
                      have T4 : Hid (Turned (fun i => i = g) W W4) := hide (HTW.out.trans hT4 (fun _ e => e) (fun _ _ e => e))
                      have Q4 : Hid (W4.rowIs q 2 M (fillK s a M)) := hide (HW.out.of_block (hT4.block q HW.out.lt HQG.out))
                      cases u with
                      | none =>
                        have HR : Hid (R = none) := hide (by rw [E5.out]; exact chain_none HNX.out (by omega))
                        clear hT4 C4 ht4 HC HW HTW p1 r1
                        go_wp2
                        go_ret
                        exact ⟨by rw [HR.out]; rfl, T4.out, t4, H4.out, fun u h => by rw [HR.out] at h; cases h⟩
                      | some u =>
                        have := ht4 u rfl
                        subst this
                        clear hT4 C4 ht4 HC HW HTW p1 r1
                        go_wp2
                        exact ⟨⟨k + 1, _, by omega, by simp, HNX, H4, Q4, T4⟩, by simp [intOf]; omega⟩
                    · obtain ⟨kl, hkl⟩ : ∃ kl, ky s a k = kl := ⟨_, rfl⟩
                      have p1 : wr.cell? ⟨q, k - 1, none⟩ = some (.int .i64 kl) := by
                        rw [HW.out.cell (by omega), fillK, if_pos (by omega), ← hkl, Nat.sub_add_cancel (by omega)]
                      have p2 : ((k : Int) - 1).toNat = k - 1 := by omega
                      have p3 : (0 : Int) < (k : Int) := by omega
                      have p4 : (k : Int) - 1 < (M : Int) := by omega
                      have BL : Hid (I64 kl) := hide (by rw [← hkl]; exact HO.out.look _)
                      have r2 : ¬ ((k : Int) < (M : Int)) := by omega
                      have HU2 : Hid (sndSlot s (sndW s f) ((a : Int) + 4 + ((M : Int) + 1) + k) kl hi tk = u) := hide (by
                        rw [← HUU.out]; unfold kidG childS lowZ highZ
                        rw [if_neg hk0, hkl, if_neg (by omega)]
                        rfl)
                      clear HUU hkl
                      go_wp2_with (fail)
                      refine (child_c _ a ((M : Int) + 1) k _ hcz.out).mono ?_
                      rintro e w' ⟨rfl, rfl⟩
                      go_wp2_with (fail)
                      refine (HSL.out w0 _ b s c g tk HC.out _ kl hi BL.out HHI.out HFK.out u HU2.out).mono ?_
                      rintro e W4 ⟨rfl, hT4, t4, C4, ht4⟩
                      have H4 := hide C4
                      have T4 : Hid (Turned (fun i => i = g) W W4) := hide (HTW.out.trans hT4 (fun _ e => e) (fun _ _ e => e))
                      have Q4 : Hid (W4.rowIs q 2 M (fillK s a M)) := hide (HW.out.of_block (hT4.block q HW.out.lt HQG.out))
                      cases u with
                      | none =>
                        have HR : Hid (R = none) := hide (by rw [E5.out]; exact chain_none HNX.out (by omega))
                        clear hT4 C4 ht4 HC HW HTW p1
                        go_wp2
                        go_ret
                        exact ⟨by rw [HR.out]; rfl, T4.out, t4, H4.out, fun u h => by rw [HR.out] at h; cases h⟩
                      | some u =>
                        have := ht4 u rfl
                        subst this
                        clear hT4 C4 ht4 HC HW HTW p1
                        go_wp2
                        exact ⟨⟨k + 1, _, by omega, by simp, HNX, H4, Q4, T4⟩, by simp [intOf]; omega⟩
                · have hkn' : k = M + 1 := by omega
                  subst hkn'
                  have j1 : ¬ (((M + 1 : Nat) : Int) < (M : Int) + 1) := by omega
                  have HR : Hid (R = some tk) := hide (by rw [E5.out]; exact HCH.out)
                  clear HCH
                  go_wp2
                  go_ret
                  exact ⟨by rw [HR.out]; rfl, HTW.out, tk, HC.out, fun u h => by rw [HR.out] at h; cases h; rfl⟩
            · subst hz0
              go_wp2_with (fail)
              refine (right_k _ q M L HLL.out (by omega) HRD.out true HU.out).mono ?_
              rintro e W2 ⟨rfl, hk⟩
              have HK2 := hide hk
              have H2 := hide (H1.out.on hk)
              have HQ2 : Hid (W2.rowIs q 2 M (fillK s a M)) := hide (HQ.out.of_block (hk.block q HQ.out.lt (fun e => e)))
              have T2 : Hid (Turned (fun i => i = g) W W2) := hide (Kept.behind HT1.out hk)
              clear hk
              have q1 : W2.cell? ⟨q, 0, none⟩ = some (.int .i64 k1) := by
                rw [HQ2.out.cell (by omega), fillK, if_pos (by omega), ← HK1.out]
              have q2 : W2.cell? ⟨q, M - 1, none⟩ = some (.int .i64 kM) := by
                rw [HQ2.out.cell (by omega), fillK, if_pos (by omega), ← HKM.out, Nat.sub_add_cancel (by omega)]
              have q3 : ((M : Int) - 1).toNat = M - 1 := by omega
              have q4 : (M : Int) - 1 < (M : Int) := by omega
              have q5 : (0 : Int) < (M : Int) := by omega
              have q6 := H2.out.c0
              go_wp2_with (fail)
              refine (lk_p _ b s ((a : Int) + 2) 1 H2.out.mem HZ.out).mono ?_
              rintro e w' ⟨rfl, rfl⟩
              clear q1 q2 q3 q4 q5 q6
              go_wp2
              go_loopw [63] (fun v wr => ∃ (k : Nat) (tk : Tk), k ≤ M + 1 ∧ v = .int .i64 (k : Int) ∧ Hid (chain (kidG s (sndW s f) a (M + 1) lo hi) k t1 = some tk) ∧ Hid (Chk w0 wr b s c g tk) ∧ Hid (wr.rowIs q 2 M (fillK s a M)) ∧ Hid (Turned (fun i => i = g) W wr)) (fun v _ => M + 1 - (intOf v).toNat)
              case atStart => exact ⟨0, t1, by omega, by simp, START, H2, HQ2, T2⟩
              case round =>
                obtain ⟨k, tk, hk, rfl, HCH, HC, HW, HTW⟩ := hrel
                by_cases hkn : k < M + 1
                · have j1 : (k : Int) < (M : Int) + 1 := by omega
                  have HFK : Hid (freeN (s.xs.length + 1) tk < f) := hide (Nat.lt_of_le_of_lt (chain_free (sndW_free s f) HCH.out) HFR.out)
                  have hcz := hide (childZ_in (n := a) (d := (M : Int) + 1) (i := k) (by omega) (by omega) (by omega) (by omega) (by omega) (by omega))
                  obtain ⟨u, hu⟩ : ∃ u, kidG s (sndW s f) a (M + 1) lo hi k tk = u := ⟨_, rfl⟩
                  have HUU := hide hu
                  have HNX : Hid (chain (kidG s (sndW s f) a (M + 1) lo hi) (k + 1) t1 = u) := hide (by rw [chain, HCH.out]; exact hu)
                  clear hu HCH
                  by_cases hk0 : k = 0
                  · by_cases hkM : k < M
                    · obtain ⟨kh, hkh⟩ : ∃ kh, ky s a (k + 1) = kh := ⟨_, rfl⟩
                      have r1 : wr.cell? ⟨q, k, none⟩ = some (.int .i64 kh) := by
                        rw [HW.out.cell (by omega), fillK, if_pos (by omega), ← hkh]
                      have r2 : (k : Int) < (M : Int) := by omega
                      have bh1 : I64 kh := by rw [← hkh]; exact HO.out.look _
                      have bh2 : lo < kh := by
                        have h1 := keysB_iff.1 KB.out
                        have : ∀ j, j < M → lo < ky s a (j + 1) := by
                          intro j
                          induction j with
                          | zero => intro hj; have := (h1 0 (by omega)).1; rwa [lowZ, if_pos rfl] at this
                          | succ j ih =>
                            intro hj
                            have h2 := (h1 (j + 1) (by omega)).1
                            rw [lowZ, if_neg (by omega)] at h2
                            have := ih (by omega)
                            omega
                        have := this k (by omega)
                        rwa [hkh] at this
                      have bl := HLO.out
                      have bh3 : -9223372036854775808 ≤ kh - 1 := by have := bl.1; omega
                      have bh4 : kh - 1 ≤ 9223372036854775807 := by have := bh1.2; omega
                      have BH : Hid (I64 (kh - 1)) := hide ⟨bh3, bh4⟩
                      have HU2 : Hid (sndSlot s (sndW s f) ((a : Int) + 4 + ((M : Int) + 1) + k) lo (kh - 1) tk = u) := hide (by
                        rw [← HUU.out]; unfold kidG childS lowZ highZ
                        rw [if_pos hk0, if_pos (by omega), hkh]
                        rfl)
                      subst hk0
                      clear HUU hkh bh1 bl bh2
                      go_wp2_with (fail)
                      refine (child_c _ a ((M : Int) + 1) 0 _ hcz.out).mono ?_
                      rintro e w' ⟨rfl, rfl⟩
                      go_wp2_with (fail)
                      refine (HSL.out w0 _ b s c g tk HC.out _ lo (kh - 1) HLO.out BH.out HFK.out u HU2.out).mono ?_
                      rintro e W4 ⟨rfl, hT4, t4, C4, ht4⟩
                      have H4 := hide C4
                      have T4 : Hid (Turned (fun i => i = g) W W4) := hide (HTW.out.trans hT4 (fun _ e => e) (fun _ _ e => e))
                      have Q4 : Hid (W4.rowIs q 2 M (fillK s a M)) := hide (HW.out.of_block (hT4.block q HW.out.lt HQG.out))
                      cases u with
                      | none =>
                        have HR : Hid (R = none) := hide (by rw [E5.out]; exact chain_none HNX.out (by omega))
                        clear hT4 C4 ht4 HC HW HTW r1
                        go_wp2
                        go_ret
                        exact ⟨by rw [HR.out]; rfl, T4.out, t4, H4.out, fun u h => by rw [HR.out] at h; cases h⟩
                      | some u =>
                        have := ht4 u rfl
                        subst this
                        clear hT4 C4 ht4 HC HW HTW r1
                        go_wp2
                        exact ⟨⟨1, _, by omega, by simp, HNX, H4, Q4, T4⟩, by simp [intOf]⟩
                    · omega
                  · by_cases hkM : k < M
                    · obtain ⟨kl, hkl⟩ : ∃ kl, ky s a k = kl := ⟨_, rfl⟩
                      have p1 : wr.cell? ⟨q, k - 1, none⟩ = some (.int .i64 kl) := by
                        rw [HW.out.cell (by omega), fillK, if_pos (by omega), ← hkl, Nat.sub_add_cancel (by omega)]
                      have p2 : ((k : Int) - 1).toNat = k - 1 := by omega
                      have p3 : (0 : Int) < (k : Int) := by omega
                      have p4 : (k : Int) - 1 < (M : Int) := by omega
                      have BL : Hid (I64 kl) := hide (by rw [← hkl]; exact HO.out.look _)
                      obtain ⟨kh, hkh⟩ : ∃ kh, ky s a (k + 1) = kh := ⟨_, rfl⟩
                      have r1 : wr.cell? ⟨q, k, none⟩ = some (.int .i64 kh) := by
                        rw [HW.out.cell (by omega), fillK, if_pos (by omega), ← hkh]
                      have r2 : (k : Int) < (M : Int) := by omega
                      have bh1 : I64 kh := by rw [← hkh]; exact HO.out.look _
                      have bh2 : lo < kh := by
                        have h1 := keysB_iff.1 KB.out
                        have : ∀ j, j < M → lo < ky s a (j + 1) := by
                          intro j
                          induction j with
                          | zero => intro hj; have := (h1 0 (by omega)).1; rwa [lowZ, if_pos rfl] at this
                          | succ j ih =>
                            intro hj
                            have h2 := (h1 (j + 1) (by omega)).1
                            rw [lowZ, if_neg (by omega)] at h2
                            have := ih (by omega)
                            omega
                        have := this k (by omega)
                        rwa [hkh] at this
                      have bl := HLO.out
                      have bh3 : -9223372036854775808 ≤ kh - 1 := by have := bl.1; omega
                      have bh4 : kh - 1 ≤ 9223372036854775807 := by have := bh1.2; omega
                      have BH : Hid (I64 (kh - 1)) := hide ⟨bh3, bh4⟩
                      have HU2 : Hid (sndSlot s (sndW s f) ((a : Int) + 4 + ((M : Int) + 1) + k) kl (kh - 1) tk = u) := hide (by
                        rw [← HUU.out]; unfold kidG childS lowZ highZ
                        rw [if_neg hk0, hkl, if_pos (by omega), hkh]
                        rfl)
                      clear HUU hkl hkh bh1 bl bh2
                      go_wp2_with (fail)
                      refine (child_c _ a ((M : Int) + 1) k _ hcz.out).mono ?_
                      rintro e w' ⟨rfl, rfl⟩
                      go_wp2_with (fail)
                      refine (HSL.out w0 _ b s c g tk HC.out _ kl (kh - 1) BL.out BH.out HFK.out u HU2.out).mono ?_
                      rintro e W4 ⟨rfl, hT4, t4, C4, ht4⟩
                      have H4 := hide C4
                      have T4 : Hid (Turned (fun i => i = g) W W4) := hide (HTW.out.trans hT4 (fun _ e => e) (fun _ _ e => e))
                      have Q4 : Hid (W4.rowIs q 2 M (fillK s a M)) := hide (HW.out.of_block (hT4.block q HW.out.lt HQG.out))
                      cases u with
                      | none =>
                        have HR : Hid (R = none) := hide (by rw [E5.out]; exact chain_none HNX.out (by omega))
                        clear hT4 C4 ht4 HC HW HTW p1 r1
                        go_wp2
                        go_ret
                        exact ⟨by rw [HR.out]; rfl, T4.out, t4, H4.out, fun u h => by rw [HR.out] at h; cases h⟩
                      | some u =>
                        have := ht4 u rfl
                        subst this
                        clear hT4 C4 ht4 HC HW HTW p1 r1
                        go_wp2
                        exact ⟨⟨k + 1, _, by omega, by simp, HNX, H4, Q4, T4⟩, by simp [intOf]; omega⟩
                    · obtain ⟨kl, hkl⟩ : ∃ kl, ky s a k = kl := ⟨_, rfl⟩
                      have p1 : wr.cell? ⟨q, k - 1, none⟩ = some (.int .i64 kl) := by
                        rw [HW.out.cell (by omega), fillK, if_pos (by omega), ← hkl, Nat.sub_add_cancel (by omega)]
                      have p2 : ((k : Int) - 1).toNat = k - 1 := by omega
                      have p3 : (0 : Int) < (k : Int) := by omega
                      have p4 : (k : Int) - 1 < (M : Int) := by omega
                      have BL : Hid (I64 kl) := hide (by rw [← hkl]; exact HO.out.look _)
                      have r2 : ¬ ((k : Int) < (M : Int)) := by omega
                      have HU2 : Hid (sndSlot s (sndW s f) ((a : Int) + 4 + ((M : Int) + 1) + k) kl hi tk = u) := hide (by
                        rw [← HUU.out]; unfold kidG childS lowZ highZ
                        rw [if_neg hk0, hkl, if_neg (by omega)]
                        rfl)
                      clear HUU hkl
                      go_wp2_with (fail)
                      refine (child_c _ a ((M : Int) + 1) k _ hcz.out).mono ?_
                      rintro e w' ⟨rfl, rfl⟩
                      go_wp2_with (fail)
                      refine (HSL.out w0 _ b s c g tk HC.out _ kl hi BL.out HHI.out HFK.out u HU2.out).mono ?_
                      rintro e W4 ⟨rfl, hT4, t4, C4, ht4⟩
                      have H4 := hide C4
                      have T4 : Hid (Turned (fun i => i = g) W W4) := hide (HTW.out.trans hT4 (fun _ e => e) (fun _ _ e => e))
                      have Q4 : Hid (W4.rowIs q 2 M (fillK s a M)) := hide (HW.out.of_block (hT4.block q HW.out.lt HQG.out))
                      cases u with
                      | none =>
                        have HR : Hid (R = none) := hide (by rw [E5.out]; exact chain_none HNX.out (by omega))
                        clear hT4 C4 ht4 HC HW HTW p1
                        go_wp2
                        go_ret
                        exact ⟨by rw [HR.out]; rfl, T4.out, t4, H4.out, fun u h => by rw [HR.out] at h; cases h⟩
                      | some u =>
                        have := ht4 u rfl
                        subst this
                        clear hT4 C4 ht4 HC HW HTW p1
                        go_wp2
                        exact ⟨⟨k + 1, _, by omega, by simp, HNX, H4, Q4, T4⟩, by simp [intOf]; omega⟩
                · have hkn' : k = M + 1 := by omega
                  subst hkn'
                  have j1 : ¬ (((M + 1 : Nat) : Int) < (M : Int) + 1) := by omega
                  have HR : Hid (R = some tk) := hide (by rw [E5.out]; exact HCH.out)
                  clear HCH
                  go_wp2
                  go_ret
                  exact ⟨by rw [HR.out]; rfl, HTW.out, tk, HC.out, fun u h => by rw [HR.out] at h; cases h; rfl⟩
          · have SB : Hid (shutB s a = false) := hide (by unfold shutB; rw [HZ.out]; simp; omega)
            have HR : Hid (R = none) := hide (by rw [E4.out, KB.out, SB.out]; rfl)
            have g1 : (z == 0) = false := by simp; omega
            have g2 : (z != 0) = true := by simp; omega
            have g3 : (z == 1) = false := by simp; omega
            have g4 : (z != 1) = true := by simp; omega
            clear hz01 SB E4
            go_wp2_with (fail)
            refine (right_k _ q M L HLL.out (by omega) HRD.out true HU.out).mono ?_
            rintro e W2 ⟨rfl, hk⟩
            have HK2 := hide hk
            have H2 := hide (H1.out.on hk)
            have HQ2 : Hid (W2.rowIs q 2 M (fillK s a M)) := hide (HQ.out.of_block (hk.block q HQ.out.lt (fun e => e)))
            have T2 : Hid (Turned (fun i => i = g) W W2) := hide (Kept.behind HT1.out hk)
            clear hk
            have q1 : W2.cell? ⟨q, 0, none⟩ = some (.int .i64 k1) := by
              rw [HQ2.out.cell (by omega), fillK, if_pos (by omega), ← HK1.out]
            have q2 : W2.cell? ⟨q, M - 1, none⟩ = some (.int .i64 kM) := by
              rw [HQ2.out.cell (by omega), fillK, if_pos (by omega), ← HKM.out, Nat.sub_add_cancel (by omega)]
            have q3 : ((M : Int) - 1).toNat = M - 1 := by omega
            have q4 : (M : Int) - 1 < (M : Int) := by omega
            have q5 : (0 : Int) < (M : Int) := by omega
            have q6 := H2.out.c0
            go_wp2_with (fail)
            refine (lk_p _ b s ((a : Int) + 2) z H2.out.mem HZ.out).mono ?_
            rintro e w' ⟨rfl, rfl⟩
            go_wp2
            go_ret
            exact ⟨by rw [HR.out]; rfl, T2.out, t1, H2.out, fun u h => by rw [HR.out] at h; cases h⟩
end Go.Proofs.Ytgialpjdfeldeaa

/-! The program's check of soundness: words (by fuel), and Sound. -/
namespace Go.Proofs.Ytgialpjdfeldeaa
open Go.RowKit

theorem sndW_succ (s : Mst) (f : Nat) (w lo hi : Int) (t : Tk) : sndW s (f + 1) w lo hi t =
    if kd w = 1 then takeO (s.xs.length + 1) t (ad w).toNat 1
    else if kd w = 2 then (if lo ≤ s.look (ad w) ∧ s.look (ad w) ≤ hi then takeO (s.xs.length + 1) t (ad w).toNat 2 else none)
    else if kd w = 3 then sndInner s (sndW s f) (ad w).toNat lo hi t
    else if kd w = 4 then (if kd (s.look (ad w)) = 3 then (takeO (s.xs.length + 1) t (ad w).toNat 5).bind fun t1 => sndW s f (s.look (ad w)) lo hi t1 else none)
    else none := rfl

set_option maxHeartbeats 1000000 in
set_option maxRecDepth 20000 in
theorem word_p : ∀ f, WordC f
  | 0 => fun w0 W b s c g t C x lo hi hx hlo hhi hf r e1 => absurd hf (by omega)
  | f + 1 => by
    have ih := word_p f
    have hS := slot_of_word f ih
    intro w0 W b s c g t C x lo hi hx hlo hhi hf r e1
    have c0 := C.c0
    have H := hide C
    have HX := hide hx
    have HLO := hide hlo
    have HHI := hide hhi
    have HF := hide hf
    have IH := hide ih
    have HS := hide hS
    obtain ⟨k, hk⟩ : ∃ k, kd x = k := ⟨_, rfl⟩
    obtain ⟨p, hp⟩ : ∃ p, ad x = p := ⟨_, rfl⟩
    have kr := ad_range x
    rw [hp] at kr
    have HK := hide hk
    obtain ⟨a, rfl⟩ : ∃ a : Nat, p = (a : Int) := ⟨p.toNat, by omega⟩
    have HP := hide hp
    have hap : k ≠ 0 → 1 ≤ a := fun h => by
      have := ad_pos (w := x) (by rw [hk]; exact h)
      rw [hp] at this; omega
    have HA := hide hap
    have a1 : (a : Int) ≤ 65536 := kr.2
    have haN : (ad x).toNat = a := by rw [hp]; omega
    obtain ⟨z, hz⟩ : ∃ z, s.look (a : Int) = z := ⟨_, rfl⟩
    have HZ := hide hz
    have HZB : Hid (I64 z) := hide (by rw [← hz]; exact C.ok.look _)
    have e2 : r = if k = 1 then takeO (s.xs.length + 1) t a 1
      else if k = 2 then (if lo ≤ z ∧ z ≤ hi then takeO (s.xs.length + 1) t a 2 else none)
      else if k = 3 then sndInner s (sndW s f) a lo hi t
      else if k = 4 then (if kd z = 3 then (takeO (s.xs.length + 1) t a 5).bind fun t1 => sndW s f z lo hi t1 else none)
      else none := by
      rw [← e1, sndW_succ, hk, hp, hz, Int.toNat_natCast]
    have hkr := kd_range x
    rw [hk] at hkr
    have E2 := hide e2
    by_cases k1 : k = 1
    · have HR : Hid (takeO (s.xs.length + 1) t a 1 = r) := hide (by rw [E2.out, if_pos k1])
      have ha := hap (by omega)
      subst k1
      clear C hx hlo hhi hf ih hS hk hp kr hap haN hz e1 e2 E2 hkr
      go_enter Try.func87, Try.ntmps87
      go_wp2_with (fail)
      refine (ak_p _ x a HX.out HP.out).mono ?_
      rintro e w' ⟨rfl, rfl⟩
      go_wp2_with (fail)
      refine (kk_p _ x 1 HX.out HK.out).mono ?_
      rintro e w' ⟨rfl, rfl⟩
      go_wp2_with (fail)
      refine (take_p w0 _ b s c g t H.out a 1 ha (by omega) (by omega) r HR.out).mono ?_
      rintro e w' ⟨rfl, hT, hC⟩
      have HC := hide hC
      have HT := hide hT
      clear hC hT H c0
      go_wp2
      go_ret
      exact ⟨rfl, HT.out, HC.out⟩
    by_cases k2 : k = 2
    · have ha := hap (by omega)
      have e3 : r = if lo ≤ z ∧ z ≤ hi then takeO (s.xs.length + 1) t a 2 else none := by rw [E2.out, if_neg k1, if_pos k2]
      obtain ⟨u, hu⟩ : ∃ u, takeO (s.xs.length + 1) t a 2 = u := ⟨_, rfl⟩
      have HU := hide hu
      rw [hu] at e3
      have E3 := hide e3
      subst k2
      clear C hx hlo hhi hf ih hS hk hp kr hap haN hz e1 e2 E2 hkr k1 hu e3
      cases u with
      | none =>
        have HR : Hid (r = none) := hide (by rw [E3.out]; split <;> rfl)
        go_enter Try.func87, Try.ntmps87
        go_wp2_with (fail)
        refine (ak_p _ x a HX.out HP.out).mono ?_
        rintro e w' ⟨rfl, rfl⟩
        go_wp2_with (fail)
        refine (kk_p _ x 2 HX.out HK.out).mono ?_
        rintro e w' ⟨rfl, rfl⟩
        go_wp2_with (fail)
        refine (lk_p _ b s a z H.out.mem HZ.out).mono ?_
        rintro e w' ⟨rfl, rfl⟩
        go_wp2_with (fail)
        refine (take_p w0 _ b s c g t H.out a 2 ha (by omega) (by omega) none HU.out).mono ?_
        rintro e w' ⟨rfl, hT, t', hC, _⟩
        have HC := hide hC
        have HT := hide hT
        clear hC hT H c0
        go_wp2
        go_ret
        exact ⟨by rw [HR.out]; rfl, HT.out, t', HC.out, fun u h => by rw [HR.out] at h; cases h⟩
      | some u =>
        by_cases hl1 : lo ≤ z
        · by_cases hl2 : z ≤ hi
          · have HR : Hid (r = some u) := hide (by rw [E3.out, if_pos ⟨hl1, hl2⟩])
            go_enter Try.func87, Try.ntmps87
            go_wp2_with (fail)
            refine (ak_p _ x a HX.out HP.out).mono ?_
            rintro e w' ⟨rfl, rfl⟩
            go_wp2_with (fail)
            refine (kk_p _ x 2 HX.out HK.out).mono ?_
            rintro e w' ⟨rfl, rfl⟩
            go_wp2_with (fail)
            refine (lk_p _ b s a z H.out.mem HZ.out).mono ?_
            rintro e w' ⟨rfl, rfl⟩
            go_wp2_with (fail)
            refine (take_p w0 _ b s c g t H.out a 2 ha (by omega) (by omega) (some u) HU.out).mono ?_
            rintro e w' ⟨rfl, hT, t', hC, ht'⟩
            have := ht' u rfl
            subst this
            have HC := hide hC
            have HT := hide hT
            clear hC hT H c0 ht'
            go_wp2
            go_ret
            exact ⟨by rw [HR.out]; rfl, HT.out, t', HC.out, fun u h => by rw [HR.out] at h; cases h; rfl⟩
          · have HR : Hid (r = none) := hide (by rw [E3.out, if_neg (fun h => hl2 h.2)])
            have g1 : decide (z ≤ hi) = false := by simp; omega
            have hl2' : hi < z := by omega
            clear hl2
            go_enter Try.func87, Try.ntmps87
            go_wp2_with (fail)
            refine (ak_p _ x a HX.out HP.out).mono ?_
            rintro e w' ⟨rfl, rfl⟩
            go_wp2_with (fail)
            refine (kk_p _ x 2 HX.out HK.out).mono ?_
            rintro e w' ⟨rfl, rfl⟩
            go_wp2_with (fail)
            refine (lk_p _ b s a z H.out.mem HZ.out).mono ?_
            rintro e w' ⟨rfl, rfl⟩
            go_wp2_with (fail)
            refine (take_p w0 _ b s c g t H.out a 2 ha (by omega) (by omega) (some u) HU.out).mono ?_
            rintro e w' ⟨rfl, hT, t', hC, _⟩
            have HC := hide hC
            have HT := hide hT
            clear hC hT H c0
            go_wp2
            go_ret
            exact ⟨by rw [HR.out]; rfl, HT.out, t', HC.out, fun u h => by rw [HR.out] at h; cases h⟩
        · have HR : Hid (r = none) := hide (by rw [E3.out, if_neg (fun h => hl1 h.1)])
          have g1 : decide (lo ≤ z) = false := by simp; omega
          have hl1' : z < lo := by omega
          clear hl1
          go_enter Try.func87, Try.ntmps87
          go_wp2_with (fail)
          refine (ak_p _ x a HX.out HP.out).mono ?_
          rintro e w' ⟨rfl, rfl⟩
          go_wp2_with (fail)
          refine (kk_p _ x 2 HX.out HK.out).mono ?_
          rintro e w' ⟨rfl, rfl⟩
          go_wp2_with (fail)
          refine (lk_p _ b s a z H.out.mem HZ.out).mono ?_
          rintro e w' ⟨rfl, rfl⟩
          go_wp2_with (fail)
          refine (take_p w0 _ b s c g t H.out a 2 ha (by omega) (by omega) (some u) HU.out).mono ?_
          rintro e w' ⟨rfl, hT, t', hC, _⟩
          have HC := hide hC
          have HT := hide hT
          clear hC hT H c0
          go_wp2
          go_ret
          exact ⟨by rw [HR.out]; rfl, HT.out, t', HC.out, fun u h => by rw [HR.out] at h; cases h⟩
    by_cases k3 : k = 3
    · have HR : Hid (sndInner s (sndW s f) a lo hi t = r) := hide (by rw [E2.out, if_neg k1, if_neg k2, if_pos k3])
      have ha := hap (by omega)
      subst k3
      clear C hx hlo hhi hf ih hS hk hp kr hap haN hz e1 e2 E2 hkr k1 k2
      go_enter Try.func87, Try.ntmps87
      go_wp2_with (fail)
      refine (ak_p _ x a HX.out HP.out).mono ?_
      rintro e w' ⟨rfl, rfl⟩
      go_wp2_with (fail)
      refine (kk_p _ x 3 HX.out HK.out).mono ?_
      rintro e w' ⟨rfl, rfl⟩
      go_wp2_with (fail)
      refine (inner_of_slot f HS.out w0 _ b s c g t H.out a lo hi ha (by omega) HLO.out HHI.out HF.out r HR.out).mono ?_
      rintro e w' ⟨rfl, hT, hC⟩
      have HC := hide hC
      have HT := hide hT
      clear hC hT H c0
      go_wp2
      go_ret
      exact ⟨rfl, HT.out, HC.out⟩
    by_cases k4 : k = 4
    · have ha := hap (by omega)
      have e3 : r = if kd z = 3 then (takeO (s.xs.length + 1) t a 5).bind (fun t1 => sndW s f z lo hi t1) else none := by rw [E2.out, if_neg k1, if_neg k2, if_neg k3, if_pos k4]
      obtain ⟨u, hu⟩ : ∃ u, takeO (s.xs.length + 1) t a 5 = u := ⟨_, rfl⟩
      have HU := hide hu
      obtain ⟨j, hj⟩ : ∃ j, kd z = j := ⟨_, rfl⟩
      have HJ := hide hj
      rw [hu, hj] at e3
      have E3 := hide e3
      subst k4
      clear C hx hlo hhi hf ih hS hk hp kr hap haN hz e1 e2 E2 hkr k1 k2 k3 e3 hj
      cases u with
      | none =>
        have HR : Hid (r = none) := hide (by rw [E3.out]; split <;> rfl)
        clear hu
        go_enter Try.func87, Try.ntmps87
        go_wp2_with (fail)
        refine (ak_p _ x a HX.out HP.out).mono ?_
        rintro e w' ⟨rfl, rfl⟩
        go_wp2_with (fail)
        refine (kk_p _ x 4 HX.out HK.out).mono ?_
        rintro e w' ⟨rfl, rfl⟩
        go_wp2_with (fail)
        refine (lk_p _ b s a z H.out.mem HZ.out).mono ?_
        rintro e w' ⟨rfl, rfl⟩
        go_wp2_with (fail)
        refine (take_p w0 _ b s c g t H.out a 5 ha (by omega) (by omega) none HU.out).mono ?_
        rintro e w' ⟨rfl, hT, t', hC, _⟩
        have HC := hide hC
        have HT := hide hT
        clear hC hT H c0
        go_wp2
        go_ret
        exact ⟨by rw [HR.out]; rfl, HT.out, t', HC.out, fun u h => by rw [HR.out] at h; cases h⟩
      | some u =>
        have HFU : Hid (freeN (s.xs.length + 1) u < f) := hide (by have := takeO_free hu; have := HF.out; omega)
        clear hu
        by_cases j3 : j = 3
        · have HR : Hid (sndW s f z lo hi u = r) := hide (by rw [E3.out, if_pos j3]; rfl)
          subst j3
          go_enter Try.func87, Try.ntmps87
          go_wp2_with (fail)
          refine (ak_p _ x a HX.out HP.out).mono ?_
          rintro e w' ⟨rfl, rfl⟩
          go_wp2_with (fail)
          refine (kk_p _ x 4 HX.out HK.out).mono ?_
          rintro e w' ⟨rfl, rfl⟩
          go_wp2_with (fail)
          refine (lk_p _ b s a z H.out.mem HZ.out).mono ?_
          rintro e w' ⟨rfl, rfl⟩
          go_wp2_with (fail)
          refine (take_p w0 _ b s c g t H.out a 5 ha (by omega) (by omega) (some u) HU.out).mono ?_
          rintro e w' ⟨rfl, hT, t', hC, ht'⟩
          have := ht' u rfl
          subst this
          have HC := hide hC
          have HT := hide hT
          clear hC hT H c0 ht'
          go_wp2_with (fail)
          refine (kk_p _ z 3 HZB.out HJ.out).mono ?_
          rintro e w'' ⟨rfl, rfl⟩
          go_wp2_with (fail)
          refine (IH.out w0 _ b s c g _ HC.out z lo hi HZB.out HLO.out HHI.out HFU.out r HR.out).mono ?_
          rintro e w'' ⟨rfl, hT, hC⟩
          have HC2 := hide hC
          have HT2 := hide (HT.out.trans hT (fun _ e => e) (fun _ _ e => e))
          clear hC hT HC HT
          go_wp2
          go_ret
          exact ⟨rfl, HT2.out, HC2.out⟩
        · have HR : Hid (r = none) := hide (by rw [E3.out, if_neg j3])
          have g1 : (j == 3) = false := by simp [j3]
          have g2 : (j != 3) = true := by simp [j3]
          clear j3
          go_enter Try.func87, Try.ntmps87
          go_wp2_with (fail)
          refine (ak_p _ x a HX.out HP.out).mono ?_
          rintro e w' ⟨rfl, rfl⟩
          go_wp2_with (fail)
          refine (kk_p _ x 4 HX.out HK.out).mono ?_
          rintro e w' ⟨rfl, rfl⟩
          go_wp2_with (fail)
          refine (lk_p _ b s a z H.out.mem HZ.out).mono ?_
          rintro e w' ⟨rfl, rfl⟩
          go_wp2_with (fail)
          refine (take_p w0 _ b s c g t H.out a 5 ha (by omega) (by omega) (some u) HU.out).mono ?_
          rintro e w' ⟨rfl, hT, t', hC, _⟩
          have HC := hide hC
          have HT := hide hT
          clear hC hT H c0
          go_wp2_with (fail)
          refine (kk_p _ z j HZB.out HJ.out).mono ?_
          rintro e w'' ⟨rfl, rfl⟩
          go_wp2
          go_ret
          exact ⟨by rw [HR.out]; rfl, HT.out, t', HC.out, fun u h => by rw [HR.out] at h; cases h⟩
    · have HR : Hid (r = none) := hide (by rw [E2.out, if_neg k1, if_neg k2, if_neg k3, if_neg k4])
      have g1 : (k == 1) = false := by simp [k1]
      have g2 : (k == 2) = false := by simp [k2]
      have g3 : (k == 3) = false := by simp [k3]
      have g4 : (k == 4) = false := by simp [k4]
      clear C hx hlo hhi hf ih hS hk hp kr hap haN hz e1 e2 E2 hkr k1 k2 k3 k4
      go_enter Try.func87, Try.ntmps87
      go_wp2_with (fail)
      refine (ak_p _ x a HX.out HP.out).mono ?_
      rintro e w' ⟨rfl, rfl⟩
      go_wp2_with (fail)
      refine (kk_p _ x k HX.out HK.out).mono ?_
      rintro e w' ⟨rfl, rfl⟩
      go_wp2
      go_ret
      exact ⟨by rw [HR.out]; rfl, Turned.refl _ _, t, H.out, fun u h => by rw [HR.out] at h; cases h⟩
end Go.Proofs.Ytgialpjdfeldeaa

/-! The program's Sound. -/
namespace Go.Proofs.Ytgialpjdfeldeaa
open Go.RowKit

set_option maxRecDepth 20000 in
theorem sound_p (w : World) (b : Nat) (s : Mst) (h : PM w b s) (ho : s.ok) (r : Bool) (e1 : soundB s = r) :
    Calls Try.prog 31 #[.pointer (some ⟨b, 0, none⟩)] w fun e w' => e = .returned (.bool r) ∧ Kept w w' := by
  have H := hide h
  have HO := hide ho
  obtain ⟨z1, hz1⟩ : ∃ z, s.look 1 = z := ⟨_, rfl⟩
  obtain ⟨z3, hz3⟩ : ∃ z, s.look 3 = z := ⟨_, rfl⟩
  have H1 := hide hz1
  have H3 := hide hz3
  have e2 : r = (decide (6 ≤ s.xs.length) && (z1 == 1) && (z3 == 0) && (sndSlot s (sndW s (fuel s)) 6 (-9223372036854775808) 9223372036854775807 base0).isSome) := by
    rw [← e1, soundB, hz1, hz3]
  have E2 := hide e2
  clear h ho hz1 hz3 e1 e2
  by_cases c1 : z1 = 1
  · by_cases c3 : z3 = 0
    · subst c1 c3
      obtain ⟨N, hN⟩ : ∃ N, s.xs.length = N := ⟨_, rfl⟩
      have HN := hide hN
      have HNi : Hid ((s.xs.length : Int) = (N : Int)) := hide (by omega)
      have n1 : N ≤ 65536 := by rw [← hN]; exact HO.out.2
      have hmk := run_make58 (N + 1) (by omega)
      rw [show ((N + 1 : Nat) : Int) = (N : Int) + 1 from rfl] at hmk
      clear hN
      go_enter Try.func31, Try.ntmps31
      go_wp2_with (fail)
      refine (lk_p _ b s 1 1 H.out H1.out).mono ?_
      rintro e w' ⟨rfl, rfl⟩
      go_wp2_with (fail)
      refine (lk_p _ b s 3 0 H.out H3.out).mono ?_
      rintro e w' ⟨rfl, rfl⟩
      go_wp2_with (fail)
      refine (used_k _ b s N H.out HNi.out).mono ?_
      rintro e w' ⟨rfl, rfl⟩
      go_wp2_with (fail)
      have C0 : Chk w ((w.alloc (.cells (madeCells #[.bool false] (N + 1)) 4)).alloc (.cells #[.pointer (some ⟨b, 0, none⟩), .slice (some ⟨w.heap.size, 0, none⟩) (N + 1) (N + 1)] 79)) b s (w.heap.size + 1) w.heap.size (fun _ => false) := by
        refine ⟨H.out, HO.out, ((Kept.refl w).alloc _).alloc _, by omega, Nat.le_refl _, by omega, ?_, ?_⟩
        · rw [HN.out]
          have := heap_new (w.alloc (.cells (madeCells #[.bool false] (N + 1)) 4)) (.cells #[.pointer (some ⟨b, 0, none⟩), .slice (some ⟨w.heap.size, 0, none⟩) (N + 1) (N + 1)] 79)
          rwa [show (w.alloc (.cells (madeCells #[.bool false] (N + 1)) 4)).heap.size = w.heap.size + 1 by simp] at this
        · rw [HN.out]
          exact (World.rowIs_made w (.bool false) (N + 1) 4).alloc _
      have HC := hide C0
      obtain ⟨W1, hW1⟩ : ∃ W1, ((w.alloc (.cells (madeCells #[.bool false] (N + 1)) 4)).alloc (.cells #[.pointer (some ⟨b, 0, none⟩), .slice (some ⟨w.heap.size, 0, none⟩) (N + 1) (N + 1)] 79)) = W1 := ⟨_, rfl⟩
      rw [hW1] at HC ⊢
      clear hW1 C0 hmk
      by_cases h6 : 6 ≤ N
      · have HT : Hid (takeO (s.xs.length + 1) (fun _ => false) 1 6 = some base0) := hide (by
          rw [HN.out, takeO, if_pos]
          · rfl
          · simp [freeB]; omega)
        have HFU : Hid (freeN (s.xs.length + 1) base0 < fuel s) := hide (by
          have := freeN_le (s.xs.length + 1) base0
          unfold fuel; omega)
        refine (take_p w _ b s _ _ _ HC.out 1 6 (by omega) (by omega) (by omega) _ HT.out).mono ?_
        rintro e W2 ⟨rfl, hT, t', hC, ht'⟩
        have := ht' _ rfl
        subst this
        have HC2 := hide hC
        clear hT hC ht' HC
        obtain ⟨u, hu⟩ : ∃ u, sndSlot s (sndW s (fuel s)) 6 (-9223372036854775808) 9223372036854775807 base0 = u := ⟨_, rfl⟩
        have HU := hide hu
        have HR : Hid (r = u.isSome) := hide (by rw [E2.out, hu, HN.out]; simp [h6])
        clear hu
        go_wp2_with (fail)
        refine (slot_of_word _ (word_p (fuel s)) w _ b s _ _ _ HC2.out 6 (-9223372036854775808) 9223372036854775807 ⟨by decide, by decide⟩ ⟨by decide, by decide⟩ HFU.out u HU.out).mono ?_
        rintro e W3 ⟨rfl, hT, t', hC, ht'⟩
        have HC3 := hide hC
        clear hT hC ht' HC2
        go_wp2
        go_ret
        exact ⟨by rw [HR.out]; rfl, HC3.out.kept⟩
      · have HT : Hid (takeO (s.xs.length + 1) (fun _ => false) 1 6 = none) := hide (by
          rw [HN.out, takeO, if_neg]
          simp; omega)
        have HR : Hid (r = false) := hide (by rw [E2.out, HN.out]; simp [h6])
        refine (take_p w _ b s _ _ _ HC.out 1 6 (by omega) (by omega) (by omega) _ HT.out).mono ?_
        rintro e W2 ⟨rfl, hT, t', hC, ht'⟩
        have HC2 := hide hC
        clear hT hC ht' HC
        go_wp2
        go_ret
        exact ⟨by rw [HR.out]; rfl, HC2.out.kept⟩
    · have HR : Hid (r = false) := hide (by rw [E2.out]; simp [c3])
      have g1 : (z3 == 0) = false := by simp [c3]
      have g2 : (z3 != 0) = true := by simp [c3]
      subst c1
      clear c3
      go_enter Try.func31, Try.ntmps31
      go_wp2_with (fail)
      refine (lk_p _ b s 1 1 H.out H1.out).mono ?_
      rintro e w' ⟨rfl, rfl⟩
      go_wp2_with (fail)
      refine (lk_p _ b s 3 z3 H.out H3.out).mono ?_
      rintro e w' ⟨rfl, rfl⟩
      go_wp2
      go_ret
      exact ⟨by rw [HR.out]; rfl, Kept.refl _⟩
  · have HR : Hid (r = false) := hide (by rw [E2.out]; simp [c1])
    have g1 : (z1 == 1) = false := by simp [c1]
    have g2 : (z1 != 1) = true := by simp [c1]
    clear c1
    go_enter Try.func31, Try.ntmps31
    go_wp2_with (fail)
    refine (lk_p _ b s 1 z1 H.out H1.out).mono ?_
    rintro e w' ⟨rfl, rfl⟩
    go_wp2
    go_ret
    exact ⟨by rw [HR.out]; rfl, Kept.refl _⟩
end Go.Proofs.Ytgialpjdfeldeaa

/-! Chapter 9 in plain: what lies below a word, by fuel; that a sound tree's words are well-founded. -/
namespace Go.Proofs.Ytgialpjdfeldeaa
open Go.RowKit

section
variable (s : Mst)
def tgt (w : Int) : Int := if kd w = 4 then s.look (ad w) else w
def atN (w : Int) : Nat := (ad (tgt s w)).toNat
def degN (w : Int) : Nat := (s.look (ad (tgt s w))).toNat
def slotsL (w : Int) : List (Int × Int) := if kd (tgt s w) = 3 then (List.range (degN s w)).map (fun i : Nat => ((i : Int), childS (atN s w) (degN s w) i)) else []
/-- A word whose record may be. -/
structure WfH (w : Int) : Prop where
  i64 : I64 w
  deg : kd (tgt s w) = 3 → 2 ≤ s.look (ad (tgt s w)) ∧ s.look (ad (tgt s w)) ≤ 40000
  tg : kd w = 4 → kd (tgt s w) = 3
def Wf : Nat → Int → Prop
  | 0, _ => False
  | f + 1, w => WfH s w ∧ ∀ p ∈ slotsL s w, Wf f (s.logicZ p.2)
def spotsF : Nat → Int → List (Int × Int)
  | 0, _ => []
  | f + 1, w => (slotsL s w).flatMap (fun p => (p.2, s.logicZ p.2) :: spotsF f (s.logicZ p.2))
end
theorem tgt_i64 {s : Mst} (ho : s.ok) {w : Int} (h : I64 w) : I64 (tgt s w) := by
  unfold tgt; split
  · exact ho.look _
  · exact h
theorem tgt_tgt {s : Mst} {w : Int} (h : kd (tgt s w) = 3) : tgt s (tgt s w) = tgt s w := by
  rw [tgt, if_neg (by rw [h]; decide)]
theorem Wf.mono {s : Mst} : ∀ {f g : Nat} {w : Int}, Wf s f w → f ≤ g → Wf s g w
  | 0, _, _, h, _ => h.elim
  | f + 1, 0, _, _, h => absurd h (by omega)
  | f + 1, g + 1, _, h, hg => ⟨h.1, fun p hp => (h.2 p hp).mono (by omega)⟩
theorem Wf.pos {s : Mst} {f : Nat} {w : Int} (h : Wf s f w) : ∃ g, f = g + 1 ∧ WfH s w ∧ ∀ p ∈ slotsL s w, Wf s g (s.logicZ p.2) := by
  cases f with
  | zero => exact h.elim
  | succ f => exact ⟨f, rfl, h.1, h.2⟩
/-- What is said of a Rebuild's Target is said of the Rebuild. -/
theorem Wf.up {s : Mst} {f : Nat} {w : Int} (hi : I64 w) (hk : kd (s.look (ad w)) = 3) (h4 : kd w = 4) (h : Wf s f (s.look (ad w))) : Wf s f w := by
  obtain ⟨g, rfl, h1, h2⟩ := h.pos
  have e1 : tgt s w = s.look (ad w) := by rw [tgt, if_pos h4]
  have e2 : tgt s (s.look (ad w)) = s.look (ad w) := by rw [tgt, if_neg (by rw [hk]; decide)]
  have e3 : slotsL s w = slotsL s (s.look (ad w)) := by unfold slotsL degN atN; rw [e1, e2]
  refine ⟨⟨hi, ?_, ?_⟩, ?_⟩
  · rw [e1, ← e2]; exact h1.deg
  · intro _; rw [e1]; exact hk
  · rw [e3]; exact h2
theorem chain_all {s : Mst} {W : Int → Int → Int → Tk → Option Tk} {a d : Nat} {lo hi : Int} {n : Nat} {t u : Tk} (h : chain (kidG s W a d lo hi) n t = some u) : ∀ i, i < n → ∃ l h t' u', W (s.logicZ (childS a d i)) l h t' = some u' := by
  induction n generalizing u with
  | zero => intro i hi; omega
  | succ n ih =>
    rw [chain, Option.bind_eq_some_iff] at h
    obtain ⟨v, h1, h2⟩ := h
    intro i hi
    by_cases e : i = n
    · subst e
      unfold kidG sndSlot at h2
      split at h2
      · exact ⟨_, _, _, _, h2⟩
      · cases h2
    · exact ih h1 i (by omega)
theorem wf_of_snd {s : Mst} (ho : s.ok) : ∀ (f : Nat) (w lo hi : Int) (t u : Tk), I64 w → sndW s f w lo hi t = some u → Wf s f w
  | 0, _, _, _, _, _, _, h => by cases h
  | f + 1, w, lo, hi, t, u, hw, h => by
    have ih := wf_of_snd ho f
    rw [sndW_succ] at h
    have plain : kd w ≠ 3 → kd w ≠ 4 → Wf s (f + 1) w := fun h3 h4 => by
      have e : tgt s w = w := by rw [tgt, if_neg h4]
      refine ⟨⟨hw, fun h' => absurd (e ▸ h') h3, fun h' => absurd h' h4⟩, ?_⟩
      unfold slotsL
      rw [e, if_neg h3]
      intro p hp; cases hp
    split at h
    · rename_i k; exact plain (by omega) (by omega)
    · split at h
      · rename_i k; exact plain (by omega) (by omega)
      · split at h
        · rename_i k3
          have e : tgt s w = w := by rw [tgt, if_neg (by omega)]
          have ha := ad_range w
          unfold sndInner at h
          have ea : (((ad w).toNat : Nat) : Int) = ad w := by omega
          rw [ea] at h
          split at h
          · cases h
          · rename_i hd
            rw [Option.bind_eq_some_iff] at h
            obtain ⟨t1, h1, h2⟩ := h
            split at h2
            · have hfit : (s.look (ad w)).toNat ≤ 40000 := by
                unfold takeO at h1
                split at h1
                · rename_i c
                  simp only [Bool.and_eq_true, decide_eq_true_eq] at c
                  have := ho.2
                  omega
                · cases h1
              refine ⟨⟨hw, fun _ => by rw [e]; omega, fun h' => by omega⟩, ?_⟩
              unfold slotsL
              rw [e, if_pos k3]
              intro p hp
              rw [List.mem_map] at hp
              obtain ⟨i, hi, rfl⟩ := hp
              simp only [List.mem_range, degN, e] at hi
              obtain ⟨l, h', t', u', h3⟩ := chain_all h2 i hi
              have h4 := ih _ _ _ _ _ (ho.logic _) h3
              simpa [degN, atN, e] using h4
            · cases h2
        · split at h
          · rename_i k4
            split at h
            · rename_i k3
              rw [Option.bind_eq_some_iff] at h
              obtain ⟨t1, h1, h2⟩ := h
              exact ((ih _ _ _ _ _ (ho.look _) h2).up hw k3 k4).mono (by omega)
            · cases h
          · cases h
theorem wf_root {s : Mst} (ho : s.ok) (h : soundB s = true) : Wf s (fuel s) (s.logicZ 6) := by
  unfold soundB at h
  simp only [Bool.and_eq_true] at h
  have h4 := h.2
  cases e : sndSlot s (sndW s (fuel s)) 6 (-9223372036854775808) 9223372036854775807 base0 with
  | none => rw [e] at h4; cases h4
  | some u =>
    unfold sndSlot at e
    split at e
    · exact wf_of_snd ho _ _ _ _ _ _ (ho.logic _) e
    · cases e
end Go.Proofs.Ytgialpjdfeldeaa

/-! Boxes: blocks of one cell, and objects that are put in a block's place ('Turned.putObj', 'Turned.boxed'). No conditions beyond each theorem's own. -/
namespace Go.Proofs.Ytgialpjdfeldeaa
open Go.RowKit
theorem Turned.putObj (w : World) (l : Nat) (o : Obj) {R : Nat → Prop} (h : R l) : Turned R w (w.putObj l o) :=
  ⟨rfl, rfl, rfl, by simp, fun k _ hn => World.putObj_heap_other (fun e => hn (by rw [e]; exact h))⟩
theorem Turned.boxed {R : Nat → Prop} {a b : World} (h : Turned R a b) {B : Nat} {t : TypeId} {v : Value} (hb : Boxed a B t v) (hn : ¬ R B) : Boxed b B t v := h.heap hb hn
end Go.Proofs.Ytgialpjdfeldeaa

/-! Iterators and the loops over them. 'Iter': what an iterator promises of its rounds, by the blocks that the loop's body holds as its own (O: the body turns those and new ones alone; the iterator turns none of them); 'wp_range': a loop 'for .. := range g' by its iterator's promise, its own invariant and one walk of its body. Conditions: each theorem's own. -/
namespace Go.Proofs.Ytgialpjdfeldeaa
open Go.RowKit

/-- Blocks of O', but for new ones (from n on), are of O. -/
def Sub (O' O : Nat → Prop) (n : Nat) : Prop := ∀ k, O' k → O k ∨ n ≤ k

theorem Sub.refl (O : Nat → Prop) (n : Nat) : Sub O O n := fun _ h => .inl h
theorem Sub.trans {O'' O' O : Nat → Prop} {n m : Nat} (h : Sub O'' O' m) (h' : Sub O' O n) (hnm : n ≤ m) : Sub O'' O n := fun k hk => (h k hk).elim (h' k) (fun e => .inr (Nat.le_trans hnm e))
theorem Turned.sub {O O' : Nat → Prop} {a b c : World} (h : Turned O a b) (h' : Turned O' b c) (hs : Sub O' O a.heap.size) : Turned O a c :=
  h.trans h' (fun _ e => e) (fun i hi e => (hs i e).elim id (fun e' => by omega))

/-- An invariant of a loop: by the blocks that are the body's own, what has come, the world. -/
abbrev Inv (α : Type) := (Nat → Prop) → List α → World → Prop

/-- It speaks of its own blocks alone, and they lie. -/
structure Good {α : Type} (J : Inv α) : Prop where
  abides : ∀ O pre A B, J O pre A → Turned (fun k => ¬ O k) A B → J O pre B
  within : ∀ O pre A, J O pre A → ∀ k, O k → k < A.heap.size

/-- How a round ends: it goes on, or says 'no more'. -/
def RoundEnds {α : Type} (J Jx : Inv α) (O : Nat → Prop) (pre : List α) (A : World) (e : Ending) (B : World) : Prop :=
  ∃ O', Sub O' O A.heap.size ∧ Turned O A B ∧ ((e = .returned (.bool true) ∧ J O' pre B) ∨ (e = .returned (.bool false) ∧ Jx O' pre B))

/-- What an iterator (function g with lb captured) promises at world W, where it goes through xs and reads blocks of R: for whatever loop body keeps off R. -/
def Iter {α : Type} (P : Program) (g : Nat) (lb : Array Value) (encs : α → Array Value) (xs : List α) (R : Nat → Prop) (W : World) : Prop :=
  ∀ (l : Nat) (O₀ : Nat → Prop) (J Jx : Inv α), (∀ k, R k → ¬ O₀ k) → Good J → Good Jx →
    (∀ O pre x rest A, xs = pre ++ x :: rest → Turned O₀ W A → Sub O O₀ W.heap.size → J O pre A → YieldAt Fence.wide 9 P l (encs x) A (RoundEnds J Jx O (pre ++ [x]) A)) →
    J O₀ [] W →
    Calls P g (#[.func (.yield l) #[] #[]] ++ lb) W fun e W' => (∃ v, e = .returned v) ∧ ∃ O', Sub O' O₀ W.heap.size ∧ Turned O₀ W W' ∧ (J O' xs W' ∨ ∃ pre rest, xs = pre ++ rest ∧ Jx O' pre W')

/-- How a loop's body may be left. -/
def BodyEnds {α : Type} (I : Inv α) (Ix : Code → Inv α) (O : Nat → Prop) (pre : List α) (A : World) : Exit → Act → World → Prop
  | .normal, _, B => ∃ O', Sub O' O A.heap.size ∧ Turned O A B ∧ I O' pre B
  | .ret, _, B => ∃ O', Sub O' O A.heap.size ∧ Turned O A B ∧ Ix .ret O' pre B
  | .exit id, _, B => ∃ O', Sub O' O A.heap.size ∧ Turned O A B ∧ Ix (.exit id) O' pre B
  | .goto t, _, B => ∃ O', Sub O' O A.heap.size ∧ Turned O A B ∧ Ix (.goto t) O' pre B
  | .panic _, _, _ => False
  | .outgrown, _, _ => False

/-- The blocks of a loop's body, with the loop's own two (D: deferred calls; D + 1: its record). -/
def With (O : Nat → Prop) (D : Nat) : Nat → Prop := fun k => O k ∨ k = D ∨ k = D + 1

/-- The loop's invariant, as its iterator meets it: the body's, and the loop's own two blocks. -/
def Inner {α : Type} (I : Inv α) (D : Nat) (o : Obj) : Inv α := fun OO pre W =>
  ∃ O, (∀ k, OO k ↔ With O D k) ∧ ¬ O D ∧ ¬ O (D + 1) ∧ I O pre W ∧ W.heap[D + 1]? = some o ∧ W.heap[D]? = some (.deferred (some []))

theorem Inner.good {α : Type} {I : Inv α} (h : Good I) (D : Nat) (o : Obj) : Good (Inner I D o) := by
  constructor
  · rintro OO pre A B ⟨O, e, h1, h2, hi, hl, hd⟩ ht
    have ho : ∀ k, With O D k → k < A.heap.size → B.heap[k]? = A.heap[k]? := fun k hk hlt => ht.block k hlt (fun hn => hn ((e k).2 hk))
    refine ⟨O, e, h1, h2, h.abides O pre A B hi (ht.mono fun k _ hk hn => hk ((e k).2 (.inl hn))), ?_, ?_⟩
    · exact (ho _ (.inr (.inr rfl)) (Array.getElem?_eq_some_iff.1 hl).1).trans hl
    · exact (ho _ (.inr (.inl rfl)) (Array.getElem?_eq_some_iff.1 hd).1).trans hd
  · rintro OO pre A ⟨O, e, _, _, hi, hl, hd⟩ k hk
    rcases (e k).1 hk with hk | rfl | rfl
    · exact h.within O pre A hi k hk
    · exact (Array.getElem?_eq_some_iff.1 hd).1
    · exact (Array.getElem?_eq_some_iff.1 hl).1

theorem Good.ex {α : Type} {β : Type} {I : β → Inv α} (h : ∀ c, Good (I c)) : Good (fun O pre W => ∃ c, I c O pre W) :=
  ⟨fun O pre A B ⟨c, hi⟩ ht => ⟨c, (h c).abides O pre A B hi ht⟩, fun O pre A ⟨c, hi⟩ => (h c).within O pre A hi⟩


/-- **A LOOP OVER AN ITERATOR** (not within another such loop's body): by the iterator's promise, the loop's invariant I (Ix c: where a round has left by the jump c) and one walk of its body. -/
theorem wp_range {P : Program} {α : Type} {n : Nat} {g : Operand} {ps : Array Tmp} {assign body : Code} {Q : Exit → Act → World → Prop} {a : Act} {w : World}
    {gf : Nat} {lb : Array Value} (hg : a.eval g = .func (.func gf) #[] lb) (eg : ∀ args w, (callFunc gf args).run P w = .ok (.enter gf args) w)
    {encs : α → Array Value} {xs : List α} {R : Nat → Prop} (hit : ∀ W, Turned (fun _ => False) w W → Iter P gf lb encs xs R W) (hps : ∀ x, (encs x).size = ps.size)
    (O₀ : Nat → Prop) (I : Inv α) (Ix : Code → Inv α) (hR : ∀ k, R k → k < w.heap.size ∧ ¬ O₀ k) (hI : Good I) (hIx : ∀ c, Good (Ix c)) (h0 : I O₀ [] w) (a₁ : α → Act)
    (hassign : ∀ (l : Nat) (x : α) (W : World) (K : Act → World → Prop), K (a₁ x) W →
      assign.wpIn (Fence.wide.inRound l) 9 P (Exit.then K (fun _ _ _ => False)) { tmps := (ps.zip (encs x)).foldl (fun t (p, v) => t.setIfInBounds p v) a.tmps, defers := [] } W)
    (hbody : ∀ (l : Nat) (O : Nat → Prop) (pre : List α) (x : α) (rest : List α) (W : World), xs = pre ++ x :: rest → Turned O₀ w W → Sub O O₀ w.heap.size → I O pre W →
      body.wpIn (Fence.wide.inRound l) 9 P (BodyEnds I Ix O (pre ++ [x]) W) (a₁ x) W)
    (hdone : ∀ (D : Nat) (O : Nat → Prop) (W : World), w.heap.size ≤ D → ¬ O D → Turned O₀ w W → Sub O O₀ w.heap.size → I O xs W → W.heap[D]? = some (.deferred (some [])) →
      Q .normal { a with defers := { target := .collected D, args := #[] } :: a.defers } W)
    (hstop : ∀ (D : Nat) (O : Nat → Prop) (c : Code) (pre rest : List α) (W : World), w.heap.size ≤ D → ¬ O D → Turned O₀ w W → Sub O O₀ w.heap.size → xs = pre ++ rest → Ix c O pre W → W.heap[D]? = some (.deferred (some [])) →
      c.wpIn Fence.wide n P Q { a with defers := { target := .collected D, args := #[] } :: a.defers } W) :
    (Code.rangeFunc g ps assign body).wpIn Fence.wide n P Q a w := by
  refine wpIn_rangeFunc ?_
  intro fn hfn
  obtain ⟨rec, hrec⟩ : ∃ rec : LoopState → Option Code → Loop, rec = fun st pe => { state := st, pending := pe, fn, tmps := a.tmps, params := ps, assign, body, defers := w.heap.size } := ⟨_, rfl⟩
  obtain ⟨D, hD⟩ : ∃ D, w.heap.size = D := ⟨_, rfl⟩
  obtain ⟨W1, hW1⟩ : ∃ W1, (w.alloc (.deferred (some []))).alloc (.loop (rec .ready none)) = W1 := ⟨_, rfl⟩
  have t1 : Turned (fun _ => False) w W1 := by
    rw [← hW1]
    exact (Turned.alloc _ w _).trans (Turned.alloc _ _ _) (fun _ h => h) (fun _ _ h => h)
  have z1 : W1.heap.size = D + 2 := by rw [← hW1, World.size_alloc, World.size_alloc, hD]
  have hl1 : W1.heap[D + 1]? = some (.loop (rec .ready none)) := by
    rw [← hW1, ← hD]
    have := World.alloc_heap_new (w.alloc (.deferred (some []))) (.loop (rec .ready none))
    rwa [World.size_alloc] at this
  have hd1 : W1.heap[D]? = some (.deferred (some [])) := by
    rw [← hW1, ← hD]
    exact (Below.heap_alloc _ _ _ (by simp)).trans (World.alloc_heap_new w _)
  have w0 : ∀ k, O₀ k → k < D := fun k hk => by rw [← hD]; exact hI.within O₀ [] w h0 k hk
  have hi1 : I O₀ [] W1 := hI.abides O₀ [] w W1 h0 (t1.mono fun _ _ h => h.elim)
  -- what is said of the body's blocks is said from the loop's beginning on
  have back : ∀ {OO : Nat → Prop} {A : World}, Turned OO W1 A → (∀ k, OO k ↔ With O₀ D k) → Turned O₀ w A := fun {OO A} h e =>
    t1.trans h (fun _ h => h.elim) (fun i hi hk => by
      rcases (e i).1 hk with hk | rfl | rfl
      · exact hk
      · omega
      · omega)
  have e0 : ∀ k, With O₀ D k ↔ With O₀ D k := fun _ => Iff.rfl
  refine ⟨D + 1, [{ target := .collected D, args := #[] }], W1, { target := .fn (.func gf) lb, args := #[.func (.yield (D + 1)) #[] #[]] }, W1, gf,
    #[.func (.yield (D + 1)) #[] #[]] ++ lb, W1, ?_, ?_, fun _ _ => trivial, ?_, fun h => by simp [Fence.wide] at h, ?_⟩
  · rw [← hW1, ← hD, hrec]
    exact run_enterLoop_outer _ _ _ _ _
  · simp only [resolve, hg]
    simp [go_sem]
  · simp [invoke, go_sem, eg]
  · have hc := hit W1 t1 (D + 1) (With O₀ D) (Inner I D (.loop (rec .ready none))) (fun OO pre W => ∃ c, Inner (Ix c) D (.loop (rec .done (some c))) OO pre W)
      (fun k hk hO => by
        obtain ⟨hk1, hk2⟩ := hR k hk
        rcases hO with hO | rfl | rfl
        · exact hk2 hO
        · omega
        · omega)
      (Inner.good hI D _) (Good.ex fun c => Inner.good (hIx c) D _) ?_ ⟨O₀, e0, fun h => by have := w0 _ h; omega, fun h => by have := w0 _ h; omega, hi1, hl1, hd1⟩
    · refine callsIn_wide.2 (hc.mono ?_)
      rintro e W2 ⟨⟨v, rfl⟩, OO, hsub, ht, hJ⟩
      have tb := back ht e0
      rcases hJ with ⟨O, e, n1, n2, hi, hl, hd⟩ | ⟨pre, rest, hx, c, O, e, n1, n2, hi, hl, hd⟩
      · obtain ⟨o, hr⟩ : ∃ o, (Instr.endLoop (D + 1)).run P W2 = .ok none (W2.putObj (D + 1) o) := ⟨_, by have := run_endLoop (P := P) hl (by rw [hrec]; simp); rw [hrec] at this; exact this⟩
        have hput : Turned (fun k => k = D + 1) W2 (W2.putObj (D + 1) o) := Turned.putObj _ _ _ rfl
        refine ⟨none, _, hr, ?_⟩
        refine hdone D O _ (by omega) n1 (tb.trans hput (fun _ h => h) (fun i hi h => by omega)) ?_ (hI.abides O xs W2 _ hi (hput.mono fun k _ hk hO => n2 (by rw [← hk]; exact hO))) ((World.putObj_heap_other (by omega)).trans hd)
        intro k hk
        rcases hsub k ((e k).2 (.inl hk)) with (h | rfl | rfl) | h
        · exact .inl h
        · exact (n1 hk).elim
        · exact (n2 hk).elim
        · exact .inr (by omega)
      · obtain ⟨o, hr⟩ : ∃ o, (Instr.endLoop (D + 1)).run P W2 = .ok (some c) (W2.putObj (D + 1) o) := ⟨_, by have := run_endLoop (P := P) hl (by rw [hrec]; simp); rw [hrec] at this; exact this⟩
        have hput : Turned (fun k => k = D + 1) W2 (W2.putObj (D + 1) o) := Turned.putObj _ _ _ rfl
        refine ⟨some c, _, hr, ?_⟩
        refine hstop D O c pre rest _ (by omega) n1 (tb.trans hput (fun _ h => h) (fun i hi h => by omega)) ?_ hx ((hIx c).abides O pre W2 _ hi (hput.mono fun k _ hk hO => n2 (by rw [← hk]; exact hO))) ((World.putObj_heap_other (by omega)).trans hd)
        intro k hk
        rcases hsub k ((e k).2 (.inl hk)) with (h | rfl | rfl) | h
        · exact .inl h
        · exact (n1 hk).elim
        · exact (n2 hk).elim
        · exact .inr (by omega)
    · -- one round
      rintro OO pre x rest A hx tA hsA ⟨O, e, n1, n2, hi, hl, hd⟩
      have hlt : D + 1 < A.heap.size := (Array.getElem?_eq_some_iff.1 hl).1
      have tb := back tA e0
      have sO : Sub O O₀ w.heap.size := fun k hk => by
        rcases hsA k ((e k).2 (.inl hk)) with (h | rfl | rfl) | h
        · exact .inl h
        · exact (n1 hk).elim
        · exact (n2 hk).elim
        · exact .inr (by omega)
      have hy := run_yield (P := P) (args := encs x) hl (by rw [hrec]; exact hps x)
      rw [hrec] at hy
      refine ⟨fn, _, assign, body, hy, roundIn_of_wpIn hfn (hassign _ x A _ ⟨_, run_beginRound hl (by rw [hrec]), ?_⟩)⟩
      clear hy
      obtain ⟨A1, hA1⟩ : ∃ A1, A.putObj (D + 1) (.loop { rec .ready none with state := .busy }) = A1 := ⟨_, rfl⟩
      rw [hA1]
      have hput : Turned (fun k => k = D + 1) A A1 := by rw [← hA1]; exact Turned.putObj _ _ _ rfl
      have hl2 : A1.heap[D + 1]? = some (.loop { rec .ready none with state := .busy }) := by rw [← hA1]; exact World.putObj_heap_same hlt
      have hd2 : A1.heap[D]? = some (.deferred (some [])) := by rw [← hA1]; exact (World.putObj_heap_other (by omega)).trans hd
      have zA : A1.heap.size = A.heap.size := by rw [← hA1]; simp
      have hi2 : I O pre A1 := hI.abides O pre A A1 hi (hput.mono fun k _ hk hO => n2 (by rw [← hk]; exact hO))
      have fin : ∀ (jump : Option Code) (B : World), Turned O A1 B →
          (Instr.endRound (D + 1) jump).run P B = .ok (.bool jump.isNone) (B.putObj (D + 1) (.loop (rec (if jump.isNone then .ready else .done) jump))) ∧
          (B.putObj (D + 1) (.loop (rec (if jump.isNone then .ready else .done) jump))).heap[D + 1]? = some (.loop (rec (if jump.isNone then .ready else .done) jump)) ∧
          (B.putObj (D + 1) (.loop (rec (if jump.isNone then .ready else .done) jump))).heap[D]? = some (.deferred (some [])) ∧
          Turned OO A (B.putObj (D + 1) (.loop (rec (if jump.isNone then .ready else .done) jump))) := fun jump B tB => by
        have hl3 := tB.heap hl2 n2
        have hd3 := tB.heap hd2 n1
        have hr := run_endRound (P := P) jump hl3
        rw [hrec] at hr ⊢
        refine ⟨hr, World.putObj_heap_same (Array.getElem?_eq_some_iff.1 hl3).1, (World.putObj_heap_other (by omega)).trans hd3, ?_⟩
        refine (hput.trans (tB.trans (Turned.putObj (R := fun k => k = D + 1) B (D + 1) _ rfl) (R'' := OO) (fun k hk => (e k).2 (.inl hk)) (fun k _ hk => (e k).2 (.inr (.inr hk)))) (fun k hk => (e k).2 (.inr (.inr hk))) (fun _ _ h => h))
      have fol : ∀ {O' : Nat → Prop} {J' : Inv α} {o : Obj} {B : World} {ys : List α}, Good J' → Sub O' O A1.heap.size → Turned O A1 B → J' O' ys B → (∀ k, O' k → k < B.heap.size) →
          (B.putObj (D + 1) o).heap[D + 1]? = some o → (B.putObj (D + 1) o).heap[D]? = some (.deferred (some [])) → Sub (With O' D) OO A.heap.size ∧ Inner J' D o (With O' D) ys (B.putObj (D + 1) o) := fun {O' J' o B ys} gJ s' tB hj wi q1 q2 => by
        have m1 : ¬ O' D := fun h => (s' D h).elim n1 (fun h' => by omega)
        have m2 : ¬ O' (D + 1) := fun h => (s' (D + 1) h).elim n2 (fun h' => by omega)
        refine ⟨fun k hk => ?_, O', fun _ => Iff.rfl, m1, m2, gJ.abides O' ys B _ hj ((Turned.putObj (R := fun k => k = D + 1) B (D + 1) o rfl).mono fun k _ hk hO => m2 (by rw [← hk]; exact hO)), q1, q2⟩
        rcases hk with hk | rfl | rfl
        · exact (s' k hk).imp (fun h => (e k).2 (.inl h)) (fun h => by omega)
        · exact .inl ((e _).2 (.inr (.inl rfl)))
        · exact .inl ((e _).2 (.inr (.inr rfl)))
      refine wpIn_mono (hbody _ O pre x rest A1 hx (tb.trans hput (fun _ h => h) (fun i hi h => by omega)) sO hi2) ?_
      rintro ex a3 B hp
      cases ex with
      | normal =>
        obtain ⟨O', s', tB, hj⟩ := hp
        obtain ⟨hr, q1, q2, q3⟩ := fin none B tB
        obtain ⟨f1, f2⟩ := fol hI s' tB hj (hI.within _ _ _ hj) q1 q2
        exact ⟨_, _, hr, With O' D, f1, q3, .inl ⟨rfl, f2⟩⟩
      | ret =>
        obtain ⟨O', s', tB, hj⟩ := hp
        obtain ⟨hr, q1, q2, q3⟩ := fin (some .ret) B tB
        obtain ⟨f1, f2⟩ := fol (hIx _) s' tB hj ((hIx _).within _ _ _ hj) q1 q2
        exact ⟨_, _, hr, With O' D, f1, q3, .inr ⟨rfl, _, f2⟩⟩
      | exit id =>
        obtain ⟨O', s', tB, hj⟩ := hp
        obtain ⟨hr, q1, q2, q3⟩ := fin (some (.exit id)) B tB
        obtain ⟨f1, f2⟩ := fol (hIx _) s' tB hj ((hIx _).within _ _ _ hj) q1 q2
        exact ⟨_, _, hr, With O' D, f1, q3, .inr ⟨rfl, _, f2⟩⟩
      | goto t =>
        obtain ⟨O', s', tB, hj⟩ := hp
        obtain ⟨hr, q1, q2, q3⟩ := fin (some (.goto t)) B tB
        obtain ⟨f1, f2⟩ := fol (hIx _) s' tB hj ((hIx _).within _ _ _ hj) q1 q2
        exact ⟨_, _, hr, With O' D, f1, q3, .inr ⟨rfl, _, f2⟩⟩
      | panic ch => exact hp.elim
      | outgrown => exact hp.elim

/-- The same, outside the fence. -/
theorem wp_range' {P : Program} {α : Type} {g : Operand} {ps : Array Tmp} {assign body : Code} {Q : Exit → Act → World → Prop} {a : Act} {w : World}
    {gf : Nat} {lb : Array Value} (hg : a.eval g = .func (.func gf) #[] lb) (eg : ∀ args w, (callFunc gf args).run P w = .ok (.enter gf args) w)
    {encs : α → Array Value} {xs : List α} {R : Nat → Prop} (hit : ∀ W, Turned (fun _ => False) w W → Iter P gf lb encs xs R W) (hps : ∀ x, (encs x).size = ps.size)
    (O₀ : Nat → Prop) (I : Inv α) (Ix : Code → Inv α) (hR : ∀ k, R k → k < w.heap.size ∧ ¬ O₀ k) (hI : Good I) (hIx : ∀ c, Good (Ix c)) (h0 : I O₀ [] w) (a₁ : α → Act)
    (hassign : ∀ (l : Nat) (x : α) (W : World) (K : Act → World → Prop), K (a₁ x) W →
      assign.wpIn (Fence.wide.inRound l) 9 P (Exit.then K (fun _ _ _ => False)) { tmps := (ps.zip (encs x)).foldl (fun t (p, v) => t.setIfInBounds p v) a.tmps, defers := [] } W)
    (hbody : ∀ (l : Nat) (O : Nat → Prop) (pre : List α) (x : α) (rest : List α) (W : World), xs = pre ++ x :: rest → Turned O₀ w W → Sub O O₀ w.heap.size → I O pre W →
      body.wpIn (Fence.wide.inRound l) 9 P (BodyEnds I Ix O (pre ++ [x]) W) (a₁ x) W)
    (hdone : ∀ (D : Nat) (O : Nat → Prop) (W : World), w.heap.size ≤ D → ¬ O D → Turned O₀ w W → Sub O O₀ w.heap.size → I O xs W → W.heap[D]? = some (.deferred (some [])) →
      Q .normal { a with defers := { target := .collected D, args := #[] } :: a.defers } W)
    (hstop : ∀ (D : Nat) (O : Nat → Prop) (c : Code) (pre rest : List α) (W : World), w.heap.size ≤ D → ¬ O D → Turned O₀ w W → Sub O O₀ w.heap.size → xs = pre ++ rest → Ix c O pre W → W.heap[D]? = some (.deferred (some [])) →
      c.wp P Q { a with defers := { target := .collected D, args := #[] } :: a.defers } W) :
    (Code.rangeFunc g ps assign body).wp P Q a w :=
  (wpIn_wide (n := 9)).1 (wp_range hg eg hit hps O₀ I Ix hR hI hIx h0 a₁ hassign hbody hdone (fun D O c pre rest W h1 h2 h3 h4 h5 h6 h7 => wpIn_wide.2 (hstop D O c pre rest W h1 h2 h3 h4 h5 h6 h7)))

/-- A function whose body holds a loop over an iterator, from its body. -/
theorem calls_marks {P : Program} {f : FuncId} {fn : Func} {c : Code} {args : Array Value} {w : World} {Q : Ending → World → Prop}
    (hf : P.funcs[f]? = some fn) (hb : fn.body = some c)
    (h : c.wp P (bodyPostM Fence.wide 9 P fn Q) { tmps := args ++ Array.replicate (fn.ntmps - args.size) undef, defers := [] } w) : Calls P f args w Q :=
  (callsIn_wide (n := 9)).1 (callsIn_of_wp_marks hf hb trivial (wpIn_wide.2 h) rfl)

/-- What lies in a block that is the body's own abides. -/
theorem Boxed.own {O : Nat → Prop} {A A' : World} {B : Nat} {t : TypeId} {u : Value} (h : Boxed A B t u) (hO : O B) (ht : Turned (fun k => ¬ O k) A A') : Boxed A' B t u := ht.boxed h (fun hn => hn hO)

end Go.Proofs.Ytgialpjdfeldeaa

/-! Loops over iterators, once more: the frame that a round begins with is found by the walk ('wp_range2'); a function that leaves with marks of such loops ('leave_marks'). Conditions: each theorem's own. -/
namespace Go.Proofs.Ytgialpjdfeldeaa
open Go.RowKit

theorem wp_range2 {P : Program} {α : Type} {g : Operand} {ps : Array Tmp} {assign body : Code} {Q : Exit → Act → World → Prop} {a : Act} {w : World}
    {gf : Nat} {lb : Array Value} (hg : a.eval g = .func (.func gf) #[] lb) (eg : ∀ args w, (callFunc gf args).run P w = .ok (.enter gf args) w)
    {encs : α → Array Value} {xs : List α} {R : Nat → Prop} (hit : ∀ W, Turned (fun _ => False) w W → Iter P gf lb encs xs R W) (hps : ∀ x, (encs x).size = ps.size)
    (O₀ : Nat → Prop) (I : Inv α) (Ix : Code → Inv α) (hR : ∀ k, R k → k < w.heap.size ∧ ¬ O₀ k) (hI : Good I) (hIx : ∀ c, Good (Ix c)) (h0 : I O₀ [] w)
    (hab : ∃ a₁ : α → Act, (∀ (l : Nat) (x : α) (W : World) (K : Act → World → Prop), K (a₁ x) W →
        assign.wpIn (Fence.wide.inRound l) 9 P (Exit.then K (fun _ _ _ => False)) { tmps := (ps.zip (encs x)).foldl (fun t (p, v) => t.setIfInBounds p v) a.tmps, defers := [] } W) ∧
      (∀ (l : Nat) (O : Nat → Prop) (pre : List α) (x : α) (rest : List α) (W : World), xs = pre ++ x :: rest → Turned O₀ w W → Sub O O₀ w.heap.size → I O pre W →
        body.wpIn (Fence.wide.inRound l) 9 P (BodyEnds I Ix O (pre ++ [x]) W) (a₁ x) W))
    (hdone : ∀ (D : Nat) (O : Nat → Prop) (W : World), w.heap.size ≤ D → ¬ O D → Turned O₀ w W → Sub O O₀ w.heap.size → I O xs W → W.heap[D]? = some (.deferred (some [])) →
      Q .normal { a with defers := { target := .collected D, args := #[] } :: a.defers } W)
    (hstop : ∀ (D : Nat) (O : Nat → Prop) (c : Code) (pre rest : List α) (W : World), w.heap.size ≤ D → ¬ O D → Turned O₀ w W → Sub O O₀ w.heap.size → xs = pre ++ rest → Ix c O pre W → W.heap[D]? = some (.deferred (some [])) →
      c.wp P Q { a with defers := { target := .collected D, args := #[] } :: a.defers } W) :
    (Code.rangeFunc g ps assign body).wp P Q a w := by
  obtain ⟨a₁, h1, h2⟩ := hab
  exact wp_range' hg eg hit hps O₀ I Ix hR hI hIx h0 a₁ h1 h2 hdone hstop

/-- A mark of a loop over an iterator. -/
abbrev markOf (D : Nat) : Deferred := { target := .collected D, args := #[] }

theorem leave_marks {F : Fence} {n : Nat} {P : Program} {fn : Func} {tmps : Array Value} {R : Ending → World → Prop} : ∀ (Ds : List Nat) (X : World), (∀ D ∈ Ds, X.heap[D]? = some (.deferred (some []))) → Ds.Nodup →
    (∀ X', Turned (fun k => k ∈ Ds) X X' → ∃ v, (results fn tmps).run P X' = .ok v X' ∧ R (.returned v) X') → LeavesInM F n P fn tmps R (Ds.map markOf) .returning X
  | [], X, _, _, h => h X (Turned.refl _ _)
  | D :: Ds, X, hD, hn, h => by
    have h1 := hD D (List.mem_cons_self ..)
    obtain ⟨hn1, hn2⟩ := List.nodup_cons.1 hn
    refine ⟨by simp, .inl ⟨D, _, rfl, run_takeDeferred h1, leave_marks Ds _ (fun E hE => ?_) hn2 (fun X' hX' => h X' ?_)⟩⟩
    · exact (World.putObj_heap_other (fun e => hn1 (by rw [← e]; exact hE))).trans (hD E (List.mem_cons_of_mem _ hE))
    · exact (Turned.putObj (R := fun k => k = D) X D _ rfl).trans hX' (fun _ e => List.mem_cons.2 (.inl e)) (fun _ _ e => List.mem_cons_of_mem _ e)

end Go.Proofs.Ytgialpjdfeldeaa

/-! The program's target, spotAt and slots; what slots promises of its rounds ('Iter'). -/
namespace Go.Proofs.Ytgialpjdfeldeaa
open Go.RowKit Go.Shelf

attribute [local go_sem] Oper.semAt_some

theorem target_p (w : World) (b : Nat) (s : Mst) (x r : Int) (h : PM w b s) (hx : I64 x) (e1 : tgt s x = r) :
    Calls Try.prog 93 #[.pointer (some ⟨b, 0, none⟩), .int .i64 x] w fun e w' => e = .returned (.int .i64 r) ∧ w = w' := by
  have H := hide h
  have HX := hide hx
  obtain ⟨k, hk⟩ : ∃ k, kd x = k := ⟨_, rfl⟩
  obtain ⟨p, hp⟩ : ∃ p, ad x = p := ⟨_, rfl⟩
  have kr := ad_range x
  rw [hp] at kr
  obtain ⟨p0, p1⟩ := kr
  have HK := hide hk
  have HP := hide hp
  by_cases hk4 : k = 4
  · have e3 : Hid (s.look p = r) := hide (by rw [← e1, tgt, if_pos (by rw [hk]; exact hk4), hp])
    subst hk4
    clear h hx hk hp e1
    go_enter Try.func93, Try.ntmps93
    go_wp2_with (fail)
    refine (kk_p _ x 4 HX.out HK.out).mono ?_
    rintro e w' ⟨rfl, rfl⟩
    go_wp2_with (fail)
    refine (ak_p _ x p HX.out HP.out).mono ?_
    rintro e w' ⟨rfl, rfl⟩
    go_wp2_with (fail)
    refine (lk_p _ b s _ r H.out (by first | exact e3.out | simpa using e3.out)).mono ?_
    rintro e w' ⟨rfl, rfl⟩
    go_wp2
    go_ret
    exact ⟨rfl, rfl⟩
  · have e3 : r = x := by rw [← e1, tgt, if_neg (by rw [hk]; exact hk4)]
    have g1 : (k == 4) = false := by simp [hk4]
    have g2 : (k != 4) = true := by simp [hk4]
    subst e3
    clear h hx hk hp e1 hk4
    go_enter Try.func93, Try.ntmps93
    go_wp2_with (fail)
    refine (kk_p _ r k HX.out HK.out).mono ?_
    rintro e w' ⟨rfl, rfl⟩
    go_wp2
    go_ret
    exact ⟨rfl, rfl⟩

theorem spotAt_p (w : World) (b : Nat) (s : Mst) (a r : Int) (h : PM w b s) (ho : s.ok) (e1 : s.logicZ a = r) :
    Calls Try.prog 89 #[.pointer (some ⟨b, 0, none⟩), .int .i64 a] w fun e w' => e = .returned (.agg #[.int .i64 a, .int .i64 r]) ∧ Kept w w' := by
  have H := hide (h.kept (Kept.alloc (Kept.refl w) (.cells #[.int .i64 0, .int .i64 0] 86)))
  have HO := hide ho
  have HE := hide e1
  clear h ho e1
  go_enter Try.func89, Try.ntmps89
  go_wp2_with (fail)
  refine (logic_p _ b s a r H.out HO.out HE.out).mono ?_
  rintro e w' ⟨rfl, rfl⟩
  go_wp2
  refine bodyPost_ret (v := .agg #[.int .i64 a, .int .i64 r]) (by simp [results, Try.results89, go_sem]) rfl ⟨rfl, ?_⟩
  exact Turned.alloc _ _ _

theorem slots_c (w : World) (b : Nat) (x : Int) :
    Calls Try.prog 97 #[.pointer (some ⟨b, 0, none⟩), .int .i64 x] w fun e w' => e = .returned (.func (.func 107) #[] #[.pointer (some ⟨w.heap.size, 0, none⟩), .pointer (some ⟨w.heap.size + 1, 0, none⟩)]) ∧ w' = (w.alloc (.cells #[.pointer (some ⟨b, 0, none⟩)] 22)).alloc (.cells #[.int .i64 x] 2) := by
  go_enter Try.func97, Try.ntmps97
  go_wp2
  go_ret
  exact ⟨rfl, rfl⟩

/-- What slots answers, by letters. -/
theorem slots_k (w : World) (b : Nat) (x : Int) :
    Calls Try.prog 97 #[.pointer (some ⟨b, 0, none⟩), .int .i64 x] w fun e w' => ∃ B1 B2, e = .returned (.func (.func 107) #[] #[.pointer (some ⟨B1, 0, none⟩), .pointer (some ⟨B2, 0, none⟩)]) ∧ Kept w w' ∧ Boxed w' B1 22 (.pointer (some ⟨b, 0, none⟩)) ∧ Boxed w' B2 2 (.int .i64 x) ∧ w.heap.size ≤ B1 ∧ w.heap.size ≤ B2 := by
  refine (slots_c w b x).mono ?_
  rintro e w' ⟨rfl, rfl⟩
  refine ⟨_, _, rfl, ((Kept.refl w).alloc _).alloc _, (Boxed.new w 22 _).alloc _, ?_, Nat.le_refl _, by omega⟩
  have := Boxed.new (w.alloc (.cells #[.pointer (some ⟨b, 0, none⟩)] 22)) 2 (.int .i64 x)
  rwa [World.size_alloc] at this

/-- A round is one at whatever depth, and within another's round. -/
theorem round_any {P : Program} {m m' l l' : Nat} {f : FuncId} {tmps : Array Value} {assign body : Code} {w : World} {Q : Ending → World → Prop} (h : RoundIn Fence.wide m P l f tmps assign body w Q) : RoundIn (Fence.wide.inRound l') m' P l f tmps assign body w Q :=
  ⟨h.1, fun c cs _ => h.2 c cs (fun d hd => by simp [Fence.wide] at hd)⟩

/-- Two numbers as they are handed to a loop's body. -/
abbrev enc2 (x : Int × Int) : Array Value := #[.int .i64 x.1, .int .i64 x.2]
theorem at_split {α : Type} {L : List α} {k : Nat} {p : α} (h : L[k]? = some p) : L = L.take k ++ p :: L.drop (k + 1) ∧ L.take k ++ [p] = L.take (k + 1) := by
  obtain ⟨hk, rfl⟩ := List.getElem?_eq_some_iff.1 h
  refine ⟨?_, ?_⟩
  · rw [List.getElem_cons_drop, List.take_append_drop]
  · rw [List.take_succ_eq_append_getElem hk]
theorem slotsL_none {s : Mst} {x : Int} (h : kd (tgt s x) ≠ 3) : slotsL s x = [] := by unfold slotsL; rw [if_neg h]
theorem slotsL_len {s : Mst} {x : Int} (h : kd (tgt s x) = 3) : (slotsL s x).length = degN s x := by unfold slotsL; rw [if_pos h]; simp
theorem slotsL_at {s : Mst} {x : Int} (h : kd (tgt s x) = 3) {k : Nat} (hk : k < degN s x) : (slotsL s x)[k]? = some ((k : Int), childS (atN s x) (degN s x) k) := by
  unfold slotsL
  rw [if_pos h, List.getElem?_map, List.getElem?_range hk]
  rfl

/-- What a loop over slots reads: all that lay at w, and the two boxes. -/
def SlotR (w : World) (B1 B2 : Nat) : Nat → Prop := fun k => k < w.heap.size ∨ k = B1 ∨ k = B2

set_option maxHeartbeats 1000000 in
theorem slots_i (w W : World) (hk : Kept w W) (b : Nat) (s : Mst) (hM : PM w b s) (ho : s.ok) (x : Int) (hx : WfH s x) (B1 B2 : Nat) (h1 : Boxed W B1 22 (.pointer (some ⟨b, 0, none⟩))) (h2 : Boxed W B2 2 (.int .i64 x)) :
    Iter Try.prog 107 #[.pointer (some ⟨B1, 0, none⟩), .pointer (some ⟨B2, 0, none⟩)] enc2 (slotsL s x) (SlotR w B1 B2) W := by
  intro l O₀ J Jx hR gJ gJx hY h0
  have hkA : ∀ A, Turned O₀ W A → Kept w A := fun A t => Turned.trans hk t (fun _ e => e) (fun i hi e => hR i (.inl hi) e)
  have hcm : ∀ A, Turned O₀ W A → A.cell? ⟨B1, 0, none⟩ = some (.pointer (some ⟨b, 0, none⟩)) := fun A t => t.cell h1.cell (hR B1 (.inr (.inl rfl)))
  have c1 := h1.cell
  have c2 := h2.cell
  have HM := hide hM
  have HM0 := hide (hM.kept hk)
  have HO := hide ho
  have HX := hide hx
  have HY := hide hY
  have HK := hide hkA
  have HC := hide hcm
  have H0 := hide h0
  obtain ⟨t, ht⟩ : ∃ t, tgt s x = t := ⟨_, rfl⟩
  have HT := hide ht
  have HTI : Hid (I64 t) := hide (by rw [← ht]; exact tgt_i64 ho hx.i64)
  by_cases k3 : kd t = 3
  · obtain ⟨p, hp⟩ : ∃ p, ad t = p := ⟨_, rfl⟩
    have pr := ad_range t
    rw [hp] at pr
    obtain ⟨a, rfl⟩ : ∃ a : Nat, p = (a : Int) := ⟨p.toNat, by omega⟩
    have a2 : (a : Int) ≤ 65536 := pr.2
    have hd := hx.deg (by rw [ht]; exact k3)
    rw [ht, hp] at hd
    obtain ⟨d, hd'⟩ : ∃ d : Nat, s.look (a : Int) = (d : Int) := ⟨(s.look a).toNat, by omega⟩
    rw [hd'] at hd
    obtain ⟨d2, d3⟩ := hd
    have HP := hide hp
    have HD := hide hd'
    have eA : atN s x = a := by unfold atN; rw [ht, hp]; omega
    have eD : degN s x = d := by unfold degN; rw [ht, hp, hd']; omega
    have K3 := hide k3
    have HLA : Hid (∀ k, k < d → (slotsL s x)[k]? = some ((k : Int), childS a d k)) := hide (fun k hk => by
      have := slotsL_at (s := s) (x := x) (by rw [ht]; exact k3) (k := k) (by rw [eD]; exact hk)
      rwa [eA, eD] at this)
    have HLL : Hid ((slotsL s x).length = d) := hide (by rw [slotsL_len (by rw [ht]; exact k3), eD])
    clear hM ho hx hY hkA hcm h0 ht k3 hp pr hd' h1 h2 hk hR eA eD
    refine (callsIn_wide (n := 10)).1 ?_
    refine callsIn_of_wp Try.func107 rfl trivial ?_ rfl
    simp only [Try.ntmps107, List.size_toArray, List.length_cons, List.length_nil, Nat.reduceAdd, Nat.reduceSub, Array.replicate_succ, Array.replicate_zero, List.push_toArray, List.append_toArray, List.nil_append, List.cons_append]
    gi_wp2_with (fail)
    refine ⟨trivial, ?_⟩
    refine (callsIn_wide.2 (target_p _ b s x t HM0.out HX.out.i64 HT.out)).mono ?_
    rintro e w' ⟨rfl, rfl⟩
    gi_wp2_with (fail)
    refine ⟨trivial, ?_⟩
    refine (callsIn_wide.2 (kk_p _ t 3 HTI.out K3.out)).mono ?_
    rintro e w' ⟨rfl, rfl⟩
    gi_wp2_with (fail)
    refine ⟨trivial, ?_⟩
    refine (callsIn_wide.2 (ak_p _ t a HTI.out HP.out)).mono ?_
    rintro e w' ⟨rfl, rfl⟩
    gi_wp2_with (fail)
    refine ⟨trivial, ?_⟩
    refine (callsIn_wide.2 (lk_p _ b s _ d HM0.out (by first | exact HD.out | simpa using HD.out))).mono ?_
    rintro e w' ⟨rfl, rfl⟩
    gi_wp2
    gi_loopw [21] (fun i wr => ∃ (k : Nat) (O : Nat → Prop), k ≤ d ∧ i = .int .i64 (k : Int) ∧ Hid (Sub O O₀ W.heap.size) ∧ Hid (Turned O₀ W wr) ∧ Hid (J O ((slotsL s x).take k) wr)) (fun i _ => d - (intOf i).toNat)
    case atStart => exact ⟨0, O₀, by omega, by simp, hide (Sub.refl _ _), hide (Turned.refl _ _), hide (by simpa using H0.out)⟩
    case round =>
      obtain ⟨k, O, hk, rfl, HS, HTT, HJ⟩ := hrel
      by_cases hkn : k < d
      · have j1 : (k : Int) < (d : Int) := by omega
        have hcz := hide (childZ_in (n := a) (d := (d : Int)) (i := k) (by omega) (by omega) (by omega) (by omega) (by omega) (by omega))
        obtain ⟨q1, q2⟩ := at_split (HLA.out k hkn)
        obtain ⟨fn, tmps, assign, body, hy, hRd⟩ := HY.out O ((slotsL s x).take k) ((k : Int), childS a d k) _ wr q1 HTT.out HS.out HJ.out
        rw [q2] at hRd
        have Q1 := hide q1
        have HRd := hide hRd
        dsimp only [enc2, childS] at hy
        clear q1 q2 hRd
        gi_wp2_with (fail)
        refine ⟨trivial, ?_⟩
        refine (callsIn_wide.2 (child_c _ a d k _ hcz.out)).mono ?_
        rintro e w' ⟨rfl, rfl⟩
        gi_wp2_with (fail)
        refine HRd.out.mono ?_
        rintro e W3 ⟨O', hs3, ht3, ⟨rfl, hj3⟩ | ⟨rfl, hj3⟩⟩
        · have S3 := hide (hs3.trans HS.out HTT.out.size)
          have T3 := hide (HTT.out.sub ht3 HS.out)
          have J3 := hide hj3
          clear hs3 ht3 hj3 hy HRd HY
          gi_wp2
          exact ⟨⟨k + 1, O', by omega, by simp, S3, T3, J3⟩, by simp [intOf]; omega⟩
        · have S3 := hide (hs3.trans HS.out HTT.out.size)
          have T3 := hide (HTT.out.sub ht3 HS.out)
          have J3 := hide hj3
          clear hs3 ht3 hj3 hy HRd HY
          gi_wp2
          refine bodyPost_ret (results_none rfl _ _ _) rfl ?_
          exact ⟨⟨_, rfl⟩, O', S3.out, T3.out, .inr ⟨_, (slotsL s x).drop (k + 1), (List.take_append_drop _ _).symm, J3.out⟩⟩
      · have hkn' : k = d := by omega
        subst hkn'
        have j1 : ¬ ((k : Int) < (k : Int)) := by omega
        gi_wp2
        go_end0
        exact ⟨⟨_, rfl⟩, O, HS.out, HTT.out, .inl (by have := HJ.out; rwa [List.take_of_length_le (by rw [HLL.out]; omega)] at this)⟩
  · obtain ⟨j, hj⟩ : ∃ j, kd t = j := ⟨_, rfl⟩
    have j3 : j ≠ 3 := by rw [← hj]; exact k3
    have HJJ := hide hj
    have g1 : (j == 3) = false := by simp [j3]
    have g2 : (j != 3) = true := by simp [j3]
    have HE := hide (slotsL_none (s := s) (x := x) (by rw [ht]; exact k3))
    clear hM ho hx hY hkA hcm h0 ht k3 h1 h2 hk hR hj j3
    refine (callsIn_wide (n := 10)).1 ?_
    refine callsIn_of_wp Try.func107 rfl trivial ?_ rfl
    simp only [Try.ntmps107, List.size_toArray, List.length_cons, List.length_nil, Nat.reduceAdd, Nat.reduceSub, Array.replicate_succ, Array.replicate_zero, List.push_toArray, List.append_toArray, List.nil_append, List.cons_append]
    gi_wp2_with (fail)
    refine ⟨trivial, ?_⟩
    refine (callsIn_wide.2 (target_p _ b s x t HM0.out HX.out.i64 HT.out)).mono ?_
    rintro e w' ⟨rfl, rfl⟩
    gi_wp2_with (fail)
    refine ⟨trivial, ?_⟩
    refine (callsIn_wide.2 (kk_p _ t j HTI.out HJJ.out)).mono ?_
    rintro e w' ⟨rfl, rfl⟩
    gi_wp2
    refine bodyPost_ret (results_none rfl _ _ _) rfl ?_
    exact ⟨⟨_, rfl⟩, O₀, Sub.refl _ _, Turned.refl _ _, .inl (by rw [HE.out]; exact H0.out)⟩
end Go.Proofs.Ytgialpjdfeldeaa
