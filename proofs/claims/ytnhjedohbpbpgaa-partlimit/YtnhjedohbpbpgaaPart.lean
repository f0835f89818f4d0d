/-
  The plain arithmetic of chapter 5: degrees, sizes, depths and cells as functions of whole numbers, and what holds of them; no Go in sight.
-/
import Derived.Test.YtnhjedohbpbpgaaPlain
namespace Go.Proofs.Ytnhjedohbpbpgaa
open Go

/-! ### Chapter 5 as functions of whole numbers -/
def degZ (n : Int) : Int := if 2 ≤ n ∧ n ≤ 16384 then max 2 (rootZ n) else 0
def eachZ (n : Int) : Int := n / degZ n
def moreZ (n : Int) : Int := n % degZ n
def sizeZ (n i : Int) : Int := if 0 ≤ i ∧ i < degZ n then (if i < moreZ n then eachZ n + 1 else eachZ n) else 0
def aheadZ (n i : Int) : Int := i * eachZ n + min i (moreZ n)
def fromZ (n i : Int) : Int := if 0 ≤ i ∧ i < degZ n then aheadZ n i else 0
def limZ (n : Int) : Int := if 0 ≤ n ∧ n ≤ 16384 then n / 4 + 2 else 0
def depF : Nat → Int → Int
  | 0, _ => 0
  | f + 1, n => if degZ n = 0 then 0 else 1 + max (depF f (sizeZ n 0)) (depF f (sizeZ n (degZ n - 1)))
def depZ (n : Int) : Int := depF n.toNat n
def celF : Nat → Int → Int
  | 0, n => if n = 0 then 1 else 0
  | f + 1, n => if n < 0 ∨ 16384 < n then 0 else if n < 2 then n + 1 else
      4 + degZ n * 2 + (degZ n - moreZ n) * celF f (eachZ n) + moreZ n * celF f (eachZ n + 1)
def celZ (n : Int) : Int := celF n.toNat n

theorem deg_none {n : Int} (h : n < 2 ∨ 16384 < n) : degZ n = 0 := by
  unfold degZ
  rw [if_neg (by omega)]
theorem deg_some {n : Int} (h : 2 ≤ n) (h' : n ≤ 16384) : degZ n = max 2 (rootZ n) := by
  unfold degZ
  rw [if_pos ⟨h, h'⟩]
theorem root_bound {n : Int} (h : 2 ≤ n) (h' : n ≤ 16384) : 1 ≤ rootZ n ∧ rootZ n ≤ 128 ∧ rootZ n < n := by
  obtain ⟨g0, g1, g2⟩ := root_spec (n := n) (by omega)
  have a := lt_of_self (a := rootZ n) (b := 129) (by omega) (by omega)
  have b : 1 ≤ rootZ n := by
    rcases Int.lt_or_le (rootZ n) 1 with k | k
    · have e : rootZ n = 0 := by omega
      rw [e] at g2; omega
    · exact k
  refine ⟨b, by omega, ?_⟩
  rcases Int.lt_or_le (rootZ n) 2 with k | k
  · omega
  · have c : rootZ n * 2 ≤ rootZ n * rootZ n := Int.mul_le_mul_of_nonneg_left k (by omega)
    omega
theorem deg_bound {n : Int} (h : 2 ≤ n) (h' : n ≤ 16384) : 2 ≤ degZ n ∧ degZ n ≤ 128 ∧ degZ n ≤ n := by
  have := root_bound h h'
  rw [deg_some h h']
  omega
theorem deg_nat (n : Int) : 0 ≤ degZ n ∧ degZ n ≤ 128 := by
  by_cases c : 2 ≤ n ∧ n ≤ 16384
  · have := deg_bound c.1 c.2; omega
  · rw [deg_none (by omega)]; omega
theorem deg_zero {n : Int} (h' : n ≤ 16384) : degZ n = 0 ↔ n < 2 := by
  constructor
  · intro e
    rcases Int.lt_or_le n 2 with k | k
    · exact k
    · have := deg_bound k h'; omega
  · intro k; exact deg_none (Or.inl k)
theorem deg_pos {n : Int} (h : 0 < degZ n) : 2 ≤ n ∧ n ≤ 16384 := by
  by_cases c : 2 ≤ n ∧ n ≤ 16384
  · exact c
  · rw [deg_none (by omega)] at h; omega

theorem split_eq {n : Int} (h : 0 < degZ n) : degZ n * eachZ n + moreZ n = n ∧ 0 ≤ moreZ n ∧ moreZ n < degZ n := by
  unfold eachZ moreZ
  have a := Int.mul_ediv_add_emod n (degZ n)
  have b := Int.emod_nonneg n (show degZ n ≠ 0 by omega)
  have c := Int.emod_lt_of_pos n h
  omega
theorem each_bound {n : Int} (h : 0 < degZ n) : 1 ≤ eachZ n ∧ eachZ n < n ∧ eachZ n ≤ 8192 ∧ (0 < moreZ n → eachZ n + 1 < n) := by
  obtain ⟨h1, h2⟩ := deg_pos h
  obtain ⟨d1, d2, d3⟩ := deg_bound h1 h2
  obtain ⟨s1, s2, s3⟩ := split_eq h
  have a : 1 ≤ eachZ n := by
    unfold eachZ
    exact (Int.le_ediv_iff_mul_le h).mpr (by omega)
  have b : 2 * eachZ n ≤ degZ n * eachZ n := Int.mul_le_mul_of_nonneg_right d1 (by omega)
  omega
theorem size_none {n i : Int} (h : i < 0 ∨ degZ n ≤ i) : sizeZ n i = 0 := by
  unfold sizeZ
  rw [if_neg (by omega)]
theorem size_more {n i : Int} (h0 : 0 ≤ i) (h1 : i < degZ n) (h : i < moreZ n) : sizeZ n i = eachZ n + 1 := by
  unfold sizeZ
  rw [if_pos ⟨h0, h1⟩, if_pos h]
theorem size_each {n i : Int} (h0 : 0 ≤ i) (h1 : i < degZ n) (h : moreZ n ≤ i) : sizeZ n i = eachZ n := by
  unfold sizeZ
  rw [if_pos ⟨h0, h1⟩, if_neg (by omega)]
theorem size_cases {n i : Int} (h0 : 0 ≤ i) (h1 : i < degZ n) : (i < moreZ n ∧ sizeZ n i = eachZ n + 1) ∨ (moreZ n ≤ i ∧ sizeZ n i = eachZ n) := by
  rcases Int.lt_or_le i (moreZ n) with k | k
  · exact Or.inl ⟨k, size_more h0 h1 k⟩
  · exact Or.inr ⟨k, size_each h0 h1 k⟩
theorem size_bound {n i : Int} (h0 : 0 ≤ i) (h1 : i < degZ n) : 1 ≤ sizeZ n i ∧ sizeZ n i < n := by
  obtain ⟨e1, e2, e3, e4⟩ := each_bound (n := n) (by omega)
  rcases size_cases h0 h1 with ⟨k, e⟩ | ⟨k, e⟩ <;> rw [e]
  · have := e4 (by omega); omega
  · omega
theorem size_last {n : Int} (h : 0 < degZ n) : sizeZ n (degZ n - 1) = eachZ n := by
  obtain ⟨s1, s2, s3⟩ := split_eq h
  exact size_each (by omega) (by omega) (by omega)
theorem size_first {n : Int} (h : 0 < degZ n) : (0 < moreZ n ∧ sizeZ n 0 = eachZ n + 1) ∨ (moreZ n = 0 ∧ sizeZ n 0 = eachZ n) := by
  obtain ⟨s1, s2, s3⟩ := split_eq h
  rcases size_cases (n := n) (i := 0) (by omega) (by omega) with ⟨k, e⟩ | ⟨k, e⟩
  · exact Or.inl ⟨by omega, e⟩
  · exact Or.inr ⟨by omega, e⟩
theorem size_le (n i : Int) : 0 ≤ sizeZ n i ∧ sizeZ n i ≤ 16384 := by
  by_cases c : 0 ≤ i ∧ i < degZ n
  · have := size_bound c.1 c.2
    have := deg_pos (n := n) (by omega)
    omega
  · rw [size_none (by omega)]; omega

/-! ### From: the parts ahead -/
theorem ahead_zero {n : Int} (h : 0 < degZ n) : aheadZ n 0 = 0 := by
  have := split_eq h
  unfold aheadZ
  omega
theorem ahead_step {n i : Int} (h0 : 0 ≤ i) (h1 : i < degZ n) : aheadZ n (i + 1) = aheadZ n i + sizeZ n i := by
  have e : (i + 1) * eachZ n = i * eachZ n + eachZ n := by rw [Int.add_mul, Int.one_mul]
  unfold aheadZ
  rw [e]
  rcases size_cases h0 h1 with ⟨k, e⟩ | ⟨k, e⟩ <;> rw [e] <;> omega
theorem ahead_end {n : Int} (h : 0 < degZ n) : aheadZ n (degZ n) = n := by
  obtain ⟨s1, s2, s3⟩ := split_eq h
  unfold aheadZ
  omega
theorem ahead_bound {n i : Int} (h0 : 0 ≤ i) (h1 : i ≤ degZ n) (h : 0 < degZ n) : 0 ≤ i * eachZ n ∧ i * eachZ n ≤ 16384 ∧ 0 ≤ aheadZ n i ∧ aheadZ n i ≤ 16384 := by
  obtain ⟨s1, s2, s3⟩ := split_eq h
  have d := deg_pos h
  obtain ⟨e1, e2, e3, e4⟩ := each_bound h
  have a : 0 ≤ i * eachZ n := Int.mul_nonneg h0 (by omega)
  have b : i * eachZ n ≤ degZ n * eachZ n := Int.mul_le_mul_of_nonneg_right h1 (by omega)
  unfold aheadZ
  omega
theorem from_none {n i : Int} (h : i < 0 ∨ degZ n ≤ i) : fromZ n i = 0 := by
  unfold fromZ
  rw [if_neg (by omega)]
theorem from_some {n i : Int} (h0 : 0 ≤ i) (h1 : i < degZ n) : fromZ n i = aheadZ n i := by
  unfold fromZ
  rw [if_pos ⟨h0, h1⟩]

/-! ### Depth -/
theorem depF_more (f : Nat) : ∀ n : Int, n.toNat ≤ f → depF f n = depF n.toNat n := by
  induction f using Nat.strongRecOn with
  | _ f ih =>
    intro n hn
    have key : ∀ g : Nat, n.toNat ≤ g → (∀ m : Int, m.toNat < n.toNat → depF (g - 1) m = depZ m) → depF g n = if degZ n = 0 then 0 else 1 + max (depZ (sizeZ n 0)) (depZ (sizeZ n (degZ n - 1))) := by
      intro g hg hm
      cases g with
      | zero =>
        have e : degZ n = 0 := deg_none (by omega)
        rw [e]; rfl
      | succ g =>
        unfold depF
        by_cases c : degZ n = 0
        · rw [if_pos c, if_pos c]
        · have d := deg_nat n
          have p := deg_pos (n := n) (by omega)
          have b1 := size_bound (n := n) (i := 0) (by omega) (by omega)
          have b2 := size_bound (n := n) (i := degZ n - 1) (by omega) (by omega)
          rw [if_neg c, if_neg c]
          have m1 := hm (sizeZ n 0) (by omega)
          have m2 := hm (sizeZ n (degZ n - 1)) (by omega)
          simp only [Nat.add_sub_cancel] at m1 m2
          rw [m1, m2]
    rcases Nat.lt_or_ge n.toNat f with k | k
    · rw [key f hn (fun m hm => ih (f - 1) (by omega) m (by omega)), key n.toNat (Nat.le_refl _) (fun m hm => ih (n.toNat - 1) (by omega) m (by omega))]
    · have : n.toNat = f := by omega
      rw [this]
theorem dep_eq (n : Int) : depZ n = if degZ n = 0 then 0 else 1 + max (depZ (sizeZ n 0)) (depZ (sizeZ n (degZ n - 1))) := by
  by_cases c : degZ n = 0
  · rw [if_pos c]
    unfold depZ
    cases h : n.toNat with
    | zero => rfl
    | succ f => unfold depF; rw [if_pos c]
  · have d := deg_nat n
    have p := deg_pos (n := n) (by omega)
    have b1 := size_bound (n := n) (i := 0) (by omega) (by omega)
    have b2 := size_bound (n := n) (i := degZ n - 1) (by omega) (by omega)
    rw [if_neg c]
    obtain ⟨f, hf⟩ : ∃ f, n.toNat = f + 1 := ⟨n.toNat - 1, by omega⟩
    have e : depZ n = depF (f + 1) n := by unfold depZ; rw [hf]
    rw [e]
    unfold depF
    rw [if_neg c, depF_more f _ (by omega), depF_more f _ (by omega)]
    rfl
theorem dep_none {n : Int} (h : n < 2 ∨ 16384 < n) : depZ n = 0 := by
  rw [dep_eq, if_pos (deg_none h)]
theorem dep_some {n : Int} (h : 0 < degZ n) : depZ n = 1 + max (depZ (sizeZ n 0)) (depZ (eachZ n)) := by
  rw [dep_eq, if_neg (by omega), size_last h]
theorem dep_nat (n : Int) : 0 ≤ depZ n ∧ depZ n ≤ max 0 n := by
  suffices H : ∀ (f : Nat) (n : Int), n.toNat ≤ f → 0 ≤ depZ n ∧ depZ n ≤ max 0 n from H n.toNat n (Nat.le_refl _)
  intro f
  induction f with
  | zero => intro n hn; rw [dep_none (by omega)]; omega
  | succ f ih =>
    intro n hn
    by_cases c : degZ n = 0
    · rw [dep_eq, if_pos c]; omega
    · have d := deg_nat n
      have p := deg_pos (n := n) (by omega)
      have b1 := size_bound (n := n) (i := 0) (by omega) (by omega)
      have b2 := each_bound (n := n) (by omega)
      have i1 := ih (sizeZ n 0) (by omega)
      have i2 := ih (eachZ n) (by omega)
      rw [dep_some (by omega)]
      omega
theorem dep_le (n : Int) : depZ n ≤ 16384 := by
  by_cases c : n < 2 ∨ 16384 < n
  · rw [dep_none c]; omega
  · have := dep_nat n; omega

/-- the deepest of the first i parts -/
def mxZ (n i : Int) : Int := if i ≤ 0 then 0 else if i ≤ moreZ n then depZ (sizeZ n 0) else max (depZ (sizeZ n 0)) (depZ (eachZ n))
theorem mx_zero (n : Int) : mxZ n 0 = 0 := rfl
theorem mx_step {n i : Int} (h0 : 0 ≤ i) (h1 : i < degZ n) : mxZ n (i + 1) = max (mxZ n i) (depZ (sizeZ n i)) := by
  have k0 := dep_nat (sizeZ n 0)
  have k1 := dep_nat (eachZ n)
  have f := size_first (n := n) (by omega)
  unfold mxZ
  rw [if_neg (by omega)]
  by_cases c : i = 0
  · subst c
    rw [if_pos (Int.le_refl 0)]
    rcases f with ⟨f1, f2⟩ | ⟨f1, f2⟩
    · rw [if_pos (by omega)]; omega
    · rw [if_neg (by omega), f2]; omega
  · rw [if_neg (by omega : ¬ i ≤ 0)]
    rcases size_cases h0 h1 with ⟨k, e⟩ | ⟨k, e⟩
    · rw [if_pos (by omega), if_pos (by omega), e]
      rcases f with ⟨f1, f2⟩ | ⟨f1, f2⟩
      · rw [f2]; omega
      · omega
    · rw [if_neg (by omega), e]
      by_cases g : i ≤ moreZ n
      · rw [if_pos g]
      · rw [if_neg g]; omega
theorem mx_end {n : Int} (h : 0 < degZ n) : mxZ n (degZ n) = max (depZ (sizeZ n 0)) (depZ (eachZ n)) := by
  have := split_eq h
  unfold mxZ
  rw [if_neg (by omega), if_neg (by omega)]
theorem mx_bound (n i : Int) : 0 ≤ mxZ n i ∧ mxZ n i ≤ 16384 := by
  have k0 := dep_nat (sizeZ n 0)
  have k1 := dep_nat (eachZ n)
  have k2 := dep_le (sizeZ n 0)
  have k3 := dep_le (eachZ n)
  unfold mxZ
  split
  · omega
  · split <;> omega
theorem dep_mx {n : Int} (h : 0 < degZ n) : depZ n = 1 + mxZ n (degZ n) := by
  rw [dep_some h, mx_end h]

/-! ### Cells -/
theorem celF_more (f : Nat) : ∀ n : Int, n.toNat ≤ f → celF f n = celF n.toNat n := by
  induction f using Nat.strongRecOn with
  | _ f ih =>
    intro n hn
    have key : ∀ g : Nat, n.toNat ≤ g → (∀ m : Int, m.toNat < n.toNat → celF (g - 1) m = celZ m) → celF g n = if n < 0 ∨ 16384 < n then 0 else if n < 2 then n + 1 else
      4 + degZ n * 2 + (degZ n - moreZ n) * celZ (eachZ n) + (if moreZ n = 0 then 0 else moreZ n * celZ (eachZ n + 1)) := by
      intro g hg hm
      cases g with
      | zero =>
        unfold celF
        by_cases c : n = 0
        · rw [if_pos c, if_neg (by omega), if_pos (by omega), c]; rfl
        · rw [if_neg c, if_pos (by omega)]
      | succ g =>
        unfold celF
        by_cases c : n < 0 ∨ 16384 < n
        · rw [if_pos c, if_pos c]
        · by_cases c2 : n < 2
          · rw [if_neg c, if_neg c, if_pos c2, if_pos c2]
          · rw [if_neg c, if_neg c, if_neg c2, if_neg c2]
            have d := deg_bound (n := n) (by omega) (by omega)
            obtain ⟨e1, e2, e3, e4⟩ := each_bound (n := n) (by omega)
            have m1 := hm (eachZ n) (by omega)
            simp only [Nat.add_sub_cancel] at m1
            rw [m1]
            by_cases c3 : moreZ n = 0
            · rw [if_pos c3, c3, Int.zero_mul]
            · have s := split_eq (n := n) (by omega)
              have := e4 (by omega)
              have m2 := hm (eachZ n + 1) (by omega)
              simp only [Nat.add_sub_cancel] at m2
              rw [if_neg c3, m2]
    rcases Nat.lt_or_ge n.toNat f with k | k
    · rw [key f hn (fun m hm => ih (f - 1) (by omega) m (by omega)), key n.toNat (Nat.le_refl _) (fun m hm => ih (n.toNat - 1) (by omega) m (by omega))]
    · have : n.toNat = f := by omega
      rw [this]
theorem cel_none {n : Int} (h : n < 0 ∨ 16384 < n) : celZ n = 0 := by
  unfold celZ
  cases k : n.toNat with
  | zero => unfold celF; rw [if_neg (by omega)]
  | succ f => unfold celF; rw [if_pos h]
theorem cel_few {n : Int} (h : 0 ≤ n) (h' : n < 2) : celZ n = n + 1 := by
  unfold celZ
  cases k : n.toNat with
  | zero => unfold celF; rw [if_pos (by omega)]; omega
  | succ f => unfold celF; rw [if_neg (by omega), if_pos (by omega)]
theorem cel_some {n : Int} (h : 0 < degZ n) : celZ n = 4 + degZ n * 2 + (degZ n - moreZ n) * celZ (eachZ n) + moreZ n * celZ (eachZ n + 1) := by
  have p := deg_pos h
  obtain ⟨e1, e2, e3, e4⟩ := each_bound h
  obtain ⟨f, hf⟩ : ∃ f, n.toNat = f + 1 := ⟨n.toNat - 1, by omega⟩
  have e : celZ n = celF (f + 1) n := by unfold celZ; rw [hf]
  rw [e]
  unfold celF
  rw [if_neg (by omega), if_neg (by omega), celF_more f _ (by omega), show celF (eachZ n).toNat (eachZ n) = celZ (eachZ n) from rfl]
  by_cases c3 : moreZ n = 0
  · rw [c3, Int.zero_mul, Int.zero_mul]
  · have s := split_eq h
    have := e4 (by omega)
    rw [celF_more f _ (by omega)]
    rfl
theorem cel_bound {n : Int} (h : 1 ≤ n) : 0 ≤ celZ n ∧ celZ n ≤ 10 * n - 8 := by
  suffices H : ∀ (f : Nat) (n : Int), 1 ≤ n → n.toNat ≤ f → 0 ≤ celZ n ∧ celZ n ≤ 10 * n - 8 from H n.toNat n h (Nat.le_refl _)
  intro f
  induction f with
  | zero => intro n h hn; omega
  | succ f ih =>
    intro n h hn
    by_cases c : 16384 < n
    · rw [cel_none (Or.inr c)]; omega
    · by_cases c2 : n < 2
      · rw [cel_few (by omega) c2]; omega
      · have d := deg_bound (n := n) (by omega) (by omega)
        obtain ⟨e1, e2, e3, e4⟩ := each_bound (n := n) (by omega)
        obtain ⟨s1, s2, s3⟩ := split_eq (n := n) (by omega)
        have i1 := ih (eachZ n) (by omega) (by omega)
        have a1 : 0 ≤ (degZ n - moreZ n) * celZ (eachZ n) := Int.mul_nonneg (by omega) (by omega)
        have a2 : (degZ n - moreZ n) * celZ (eachZ n) ≤ (degZ n - moreZ n) * (10 * eachZ n - 8) := Int.mul_le_mul_of_nonneg_left (by omega) (by omega)
        have a3 : 0 ≤ moreZ n * celZ (eachZ n + 1) ∧ moreZ n * celZ (eachZ n + 1) ≤ moreZ n * (10 * (eachZ n + 1) - 8) := by
          by_cases c3 : moreZ n = 0
          · rw [c3, Int.zero_mul, Int.zero_mul]; omega
          · have := e4 (by omega)
            have i2 := ih (eachZ n + 1) (by omega) (by omega)
            exact ⟨Int.mul_nonneg (by omega) (by omega), Int.mul_le_mul_of_nonneg_left (by omega) (by omega)⟩
        have a4 : (degZ n - moreZ n) * (10 * eachZ n - 8) = 10 * (degZ n * eachZ n) - 8 * degZ n - 10 * (moreZ n * eachZ n) + 8 * moreZ n := by
          simp only [Int.sub_mul, Int.mul_sub, Int.mul_left_comm _ (10 : Int)]
          omega
        have a5 : moreZ n * (10 * (eachZ n + 1) - 8) = 10 * (moreZ n * eachZ n) + 2 * moreZ n := by
          have : 10 * (eachZ n + 1) - 8 = 10 * eachZ n + 2 := by omega
          rw [this, Int.mul_add, Int.mul_left_comm]
          omega
        rw [cel_some (by omega)]
        omega
theorem cel_nat (n : Int) : 0 ≤ celZ n ∧ celZ n ≤ 163832 := by
  by_cases c : n < 0 ∨ 16384 < n
  · rw [cel_none c]; omega
  · by_cases c2 : n < 2
    · rw [cel_few (by omega) c2]; omega
    · have := cel_bound (n := n) (by omega); omega

/-- the cells of the first i parts -/
def csZ (n i : Int) : Int := if i ≤ moreZ n then i * celZ (eachZ n + 1) else moreZ n * celZ (eachZ n + 1) + (i - moreZ n) * celZ (eachZ n)
theorem cs_zero {n : Int} (h : 0 < degZ n) : csZ n 0 = 0 := by
  have := split_eq h
  unfold csZ
  rw [if_pos (by omega), Int.zero_mul]
theorem cs_step {n i : Int} (h0 : 0 ≤ i) (h1 : i < degZ n) : csZ n (i + 1) = csZ n i + celZ (sizeZ n i) := by
  unfold csZ
  rcases size_cases h0 h1 with ⟨k, e⟩ | ⟨k, e⟩
  · rw [if_pos (by omega), if_pos (by omega), e, Int.add_mul, Int.one_mul]
  · rw [if_neg (by omega), e]
    by_cases g : i ≤ moreZ n
    · have : i = moreZ n := by omega
      have e2 : i + 1 - moreZ n = 1 := by omega
      rw [if_pos g, e2, Int.one_mul, this]
    · have e2 : i + 1 - moreZ n = (i - moreZ n) + 1 := by omega
      rw [if_neg g, e2, Int.add_mul, Int.one_mul]
      omega
theorem cs_end {n : Int} (h : 0 < degZ n) : celZ n = 4 + degZ n * 2 + csZ n (degZ n) := by
  have := split_eq h
  unfold csZ
  rw [if_neg (by omega), cel_some h]
  omega
theorem cs_nat {n i : Int} (h : 0 < degZ n) (h0 : 0 ≤ i) (h1 : i ≤ degZ n) : 0 ≤ csZ n i ∧ csZ n i ≤ 41940992 := by
  have k0 := cel_nat (eachZ n)
  have k1 := cel_nat (eachZ n + 1)
  have d := deg_nat n
  have m := split_eq h
  unfold csZ
  split
  · have a : 0 ≤ i * celZ (eachZ n + 1) := Int.mul_nonneg h0 k1.1
    have b : i * celZ (eachZ n + 1) ≤ 128 * 163832 := Int.mul_le_mul (by omega) k1.2 k1.1 (by omega)
    omega
  · have a : 0 ≤ moreZ n * celZ (eachZ n + 1) := Int.mul_nonneg (by omega) k1.1
    have b : moreZ n * celZ (eachZ n + 1) ≤ 128 * 163832 := Int.mul_le_mul (by omega) k1.2 k1.1 (by omega)
    have a' : 0 ≤ (i - moreZ n) * celZ (eachZ n) := Int.mul_nonneg (by omega) k0.1
    have b' : (i - moreZ n) * celZ (eachZ n) ≤ 128 * 163832 := Int.mul_le_mul (by omega) k0.2 k0.1 (by omega)
    omega
end Go.Proofs.Ytnhjedohbpbpgaa
