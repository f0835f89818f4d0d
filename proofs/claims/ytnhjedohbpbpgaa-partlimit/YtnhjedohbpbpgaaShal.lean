/-
  Plain arithmetic of chapter 5: an ideal tree is shallow, and the examples of the chapter; no Go in sight.
-/
import Derived.Test.YtnhjedohbpbpgaaPart
namespace Go.Proofs.Ytnhjedohbpbpgaa
open Go

/-! ### An ideal tree is shallow -/
theorem first_le {n S : Int} (h : 0 < degZ n) (hS : n ≤ degZ n * S) : sizeZ n 0 ≤ S ∧ eachZ n ≤ S := by
  obtain ⟨s1, s2, s3⟩ := split_eq h
  have a : eachZ n ≤ S := by
    rcases Int.lt_or_le S (eachZ n) with k | k
    · have : degZ n * (S + 1) ≤ degZ n * eachZ n := Int.mul_le_mul_of_nonneg_left (by omega) (by omega)
      rw [Int.mul_add] at this
      omega
    · exact k
  rcases size_first h with ⟨f1, f2⟩ | ⟨f1, f2⟩
  · refine ⟨?_, a⟩
    rw [f2]
    rcases Int.lt_or_le (eachZ n) S with k | k
    · omega
    · have : degZ n * S ≤ degZ n * eachZ n := Int.mul_le_mul_of_nonneg_left (by omega) (by omega)
      omega
  · rw [f2]; exact ⟨a, a⟩
theorem dep_up {n S B : Int} (hB : 0 ≤ B) (hS : 0 < degZ n → n ≤ degZ n * S) (hm : ∀ m : Int, m ≤ S → depZ m ≤ B) : depZ n ≤ 1 + B := by
  have d := deg_nat n
  by_cases c : degZ n = 0
  · rw [dep_eq, if_pos c]; omega
  · obtain ⟨a, b⟩ := first_le (n := n) (S := S) (by omega) (hS (by omega))
    have a' := hm _ a
    have b' := hm _ b
    rw [dep_some (by omega)]
    omega
theorem wide {n K : Int} (h : 2 ≤ n) (h' : n ≤ 16384) (hK : 2 ≤ K) (hn : n ≤ (K - 1) * K) : n ≤ degZ n * K := by
  obtain ⟨r1, r2, r3⟩ := root_bound h h'
  obtain ⟨g0, g1, g2⟩ := root_spec (n := n) (by omega)
  obtain ⟨d1, d2, d3⟩ := deg_bound h h'
  have dr : rootZ n ≤ degZ n := by rw [deg_some h h']; omega
  have a : rootZ n * K ≤ degZ n * K := Int.mul_le_mul_of_nonneg_right dr (by omega)
  rcases Int.lt_or_le (rootZ n) (K - 1) with k | k
  · have b : rootZ n * (rootZ n + 2) ≤ rootZ n * K := Int.mul_le_mul_of_nonneg_left (by omega) (by omega)
    have c : (rootZ n + 1) * (rootZ n + 1) = rootZ n * (rootZ n + 2) + 1 := by
      simp only [Int.add_mul, Int.mul_add]; omega
    omega
  · have b : (K - 1) * K ≤ rootZ n * K := Int.mul_le_mul_of_nonneg_right (by omega) (by omega)
    omega
theorem dep_1 (m : Int) (h : m ≤ 1) : depZ m ≤ 0 := by rw [dep_none (by omega)]; omega
theorem dep_2 (m : Int) (h : m ≤ 2) : depZ m ≤ 1 := dep_up (S := 1) (B := 0) (by omega) (fun d => by have := deg_pos d; have := deg_bound this.1 this.2; omega) dep_1
theorem dep_4 (m : Int) (h : m ≤ 4) : depZ m ≤ 2 := dep_up (S := 2) (B := 1) (by omega) (fun d => by have := deg_pos d; have := deg_bound this.1 this.2; omega) dep_2
theorem dep_12 (m : Int) (h : m ≤ 12) : depZ m ≤ 3 := dep_up (S := 4) (B := 2) (by omega) (fun d => by have := deg_pos d; exact wide this.1 this.2 (by omega) (by omega)) dep_4
theorem dep_132 (m : Int) (h : m ≤ 132) : depZ m ≤ 4 := dep_up (S := 12) (B := 3) (by omega) (fun d => by have := deg_pos d; exact wide this.1 this.2 (by omega) (by omega)) dep_12
theorem dep_all (m : Int) : depZ m ≤ 5 := dep_up (S := 132) (B := 4) (by omega) (fun d => by have := deg_pos d; exact wide this.1 this.2 (by omega) (by omega)) dep_132
theorem bits_ge {n : Int} (k : Nat) (h : ((2 ^ k : Nat) : Int) ≤ n) (h' : n ≤ 9223372036854775807) : (k : Int) + 1 ≤ bitsZ n := by
  have p : 1 ≤ 2 ^ k := Nat.one_le_two_pow
  obtain ⟨L, e, l1, l2, b1, b2⟩ := bits_spec (n := n) (by omega) h'
  rw [e]
  rcases Nat.lt_or_ge k L with g | g
  · omega
  · have : 2 ^ L ≤ 2 ^ k := Nat.pow_le_pow_right (by omega) g
    omega
theorem shallow {n : Int} (h : 2 ≤ n) (h' : n ≤ 16384) : 1 ≤ depZ n ∧ depZ n ≤ 1 + bitsZ (bitsZ n) := by
  have d := deg_bound h h'
  refine ⟨?_, ?_⟩
  · rw [dep_some (by omega)]
    have := dep_nat (eachZ n)
    omega
  · have b0 := bits_le n (by omega)
    by_cases c : n < 8
    · have a := dep_12 n (by omega)
      have b := bits_ge (n := n) 1 (by omega) (by omega)
      have e := bits_ge (n := bitsZ n) 1 (by omega) (by omega)
      omega
    · by_cases c2 : n < 128
      · have a := dep_132 n (by omega)
        have b := bits_ge (n := n) 3 (by omega) (by omega)
        have e := bits_ge (n := bitsZ n) 2 (by omega) (by omega)
        omega
      · have a := dep_all n
        have b := bits_ge (n := n) 7 (by omega) (by omega)
        have e := bits_ge (n := bitsZ n) 3 (by omega) (by omega)
        omega

/-! ### The chapter's examples -/
theorem deg_is {n r : Int} (h : 2 ≤ n) (h' : n ≤ 16384) (hr : 0 ≤ r) (h1 : r * r ≤ n) (h2 : n < (r + 1) * (r + 1)) : degZ n = max 2 r := by
  rw [deg_some h h', root_unique hr h1 h2]
theorem deg_2 : degZ 2 = 2 := deg_is (r := 1) (by decide) (by decide) (by decide) (by decide) (by decide)
theorem deg_3 : degZ 3 = 2 := deg_is (r := 1) (by decide) (by decide) (by decide) (by decide) (by decide)
theorem deg_4 : degZ 4 = 2 := deg_is (r := 2) (by decide) (by decide) (by decide) (by decide) (by decide)
theorem deg_8 : degZ 8 = 2 := deg_is (r := 2) (by decide) (by decide) (by decide) (by decide) (by decide)
theorem deg_9 : degZ 9 = 3 := deg_is (r := 3) (by decide) (by decide) (by decide) (by decide) (by decide)
theorem deg_11 : degZ 11 = 3 := deg_is (r := 3) (by decide) (by decide) (by decide) (by decide) (by decide)
theorem deg_16 : degZ 16 = 4 := deg_is (r := 4) (by decide) (by decide) (by decide) (by decide) (by decide)
theorem deg_100 : degZ 100 = 10 := deg_is (r := 10) (by decide) (by decide) (by decide) (by decide) (by decide)
theorem deg_full : degZ 16384 = 128 := deg_is (r := 128) (by decide) (by decide) (by decide) (by decide) (by decide)
theorem size_11_0 : sizeZ 11 0 = 4 := by simp [sizeZ, eachZ, moreZ, deg_11]
theorem size_11_2 : sizeZ 11 2 = 3 := by simp [sizeZ, eachZ, moreZ, deg_11]
theorem size_11_3 : sizeZ 11 3 = 0 := size_none (Or.inr (by rw [deg_11]; decide))
theorem from_11_2 : fromZ 11 2 = 8 := by simp [fromZ, aheadZ, eachZ, moreZ, deg_11]
theorem dep_is_0 : depZ 0 = 0 := dep_none (by decide)
theorem dep_is_1 : depZ 1 = 0 := dep_none (by decide)
theorem dep_is_2 : depZ 2 = 1 := by rw [dep_eq]; simp [sizeZ, eachZ, moreZ, deg_2, dep_is_1]
theorem dep_is_3 : depZ 3 = 2 := by rw [dep_eq]; simp [sizeZ, eachZ, moreZ, deg_3, dep_is_1, dep_is_2]; rfl
theorem dep_is_4 : depZ 4 = 2 := by rw [dep_eq]; simp [sizeZ, eachZ, moreZ, deg_4, dep_is_2]
theorem dep_is_16 : depZ 16 = 3 := by rw [dep_eq]; simp [sizeZ, eachZ, moreZ, deg_16, dep_is_4]
theorem cel_is_0 : celZ 0 = 1 := rfl
theorem cel_is_1 : celZ 1 = 2 := rfl
theorem cel_is_2 : celZ 2 = 12 := by rw [cel_some (by rw [deg_2]; decide)]; simp [eachZ, moreZ, deg_2, cel_is_1]
theorem cel_is_3 : celZ 3 = 22 := by rw [cel_some (by rw [deg_3]; decide)]; simp [eachZ, moreZ, deg_3, cel_is_1, cel_is_2]
end Go.Proofs.Ytnhjedohbpbpgaa
