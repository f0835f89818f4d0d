/-
  What ordinatehand's Cut answers: the rest, from 0 on; no world is turned.
-/
import Derived.Test.YtfckphcbleodbaaRows
import Derived.Test.YtfckphcbleodbaaPlainD
import Derived.Test.YtfckphcbleodbaaPlainC
import Derived.WalkKit
import Derived.WalkSmall
import Derived.Lib.Hide
namespace Go.Proofs.Ytfckphcbleodbaa
open Go.RowKit

theorem cut_g (w : World) (x n : Int) (h0 : 0 < n) (h1 : n ≤ 100000) : Calls Try.prog 18 #[.int .i64 x, .int .i64 n] w fun e w' => e = .returned (.int .i64 (x % n)) ∧ w = w' := by
  have a1 : -n < x.tmod n := Int.lt_tmod_of_pos x h0
  have a2 : x.tmod n < n := Int.tmod_lt_of_pos x h0
  have a3 : x % n = if x.tmod n < 0 then x.tmod n + n else x.tmod n := by
    have e := Int.tmod_eq_emod (a := x) (b := n)
    have b1 := Int.emod_nonneg x (show n ≠ 0 by omega)
    have b2 := Int.emod_lt_of_pos x h0
    have hn : (n.natAbs : Int) = n := by omega
    by_cases hh : 0 ≤ x ∨ n ∣ x
    · rw [if_pos hh] at e
      rw [if_neg (by rw [e]; omega), e]
      omega
    · rw [if_neg hh] at e
      rw [if_pos (by rw [e]; omega), e]
      omega
  have n0 : (n == 0) = false := by simp only [beq_eq_false_iff_ne, ne_eq]; omega
  have n1 : (n == -1) = false := by simp only [beq_eq_false_iff_ne, ne_eq]; omega
  obtain ⟨t, ht⟩ : ∃ t, x.tmod n = t := ⟨_, rfl⟩
  rw [ht] at a1 a2 a3
  by_cases h : t < 0
  · rw [if_pos h] at a3
    have A3 := Lib.hid a3
    clear a3
    go_enter Try.func18, Try.ntmps18
    go_wp2
    go_ret
    exact ⟨by rw [A3.out]; rfl, rfl⟩
  · rw [if_neg h] at a3
    have A3 := Lib.hid a3
    clear a3
    go_enter Try.func18, Try.ntmps18
    go_wp2
    go_ret
    exact ⟨by rw [A3.out]; rfl, rfl⟩

/-- The map of these keys, each with its value. -/
def keysMap (f : Int → Int) (ks : List Int) : List (Int × Int) := ks.foldl (fun acc k => put ltI acc k (f k)) []
theorem keysMap_snoc (f : Int → Int) (ks : List Int) (k : Int) : keysMap f (ks ++ [k]) = put ltI (keysMap f ks) k (f k) := by simp [keysMap]
theorem keysMap_asc (f : Int → Int) (ks : List Int) : Asc ltI (keysMap f ks) := by
  rw [← ks.reverse_reverse]
  induction ks.reverse with
  | nil => exact List.Pairwise.nil
  | cons k l ih =>
    rw [List.reverse_cons, keysMap_snoc]
    exact asc_put linI ih
theorem keysMap_get (f : Int → Int) (ks : List Int) (j : Int) : get ltI (keysMap f ks) j = if j ∈ ks then some (f j) else none := by
  rw [← ks.reverse_reverse]
  induction ks.reverse with
  | nil => simp [keysMap, get]
  | cons k l ih =>
    rw [List.reverse_cons, keysMap_snoc]
    by_cases e : j = k
    · subst e
      rw [get_put_same linI, if_pos (by simp)]
    · rw [get_put_other linI e (keysMap_asc f _), ih]
      by_cases h : j ∈ l.reverse
      · rw [if_pos h, if_pos (by simp at h ⊢; exact .inl h)]
      · rw [if_neg h, if_neg (by simp at h ⊢; exact ⟨h, e⟩)]
theorem keysMap_ext (f : Int → Int) {ks ls : List Int} (h : ∀ j, j ∈ ks ↔ j ∈ ls) : keysMap f ks = keysMap f ls := by
  refine asc_ext linI (keysMap_asc f ks) (keysMap_asc f ls) fun j => ?_
  rw [keysMap_get, keysMap_get]
  by_cases e : j ∈ ks
  · rw [if_pos e, if_pos ((h j).1 e)]
  · rw [if_neg e, if_neg (fun e' => e ((h j).2 e'))]
theorem keysMap_length (f : Int → Int) (ks : List Int) : (keysMap f ks).length ≤ ks.length := by
  rw [← ks.reverse_reverse]
  induction ks.reverse with
  | nil => simp [keysMap]
  | cons k l ih =>
    rw [List.reverse_cons, keysMap_snoc]
    have := length_put_le (lt := ltI) (xs := keysMap f l.reverse) (k := k) (v := f k)
    simp at ih ⊢
    omega

/-- The keys at c, c - 1, c - 2, .. (going round), the first i of them. -/
def turned (zs : List Int) (c : Int) (n : Nat) (i : Nat) : List Int := (List.range i).map fun t : Nat => zs.getD ((c + n - t) % n).toNat 0
theorem turned_succ (zs : List Int) (c : Int) (n i : Nat) : turned zs c n (i + 1) = turned zs c n i ++ [zs.getD ((c + n - i) % n).toNat 0] := by
  simp [turned, List.range_succ]
theorem turned_mem (zs : List Int) (c : Int) (n : Nat) (hn : n ≤ zs.length) (j : Int) : j ∈ zs.take n ↔ j ∈ turned zs c n n := by
  by_cases h0 : n = 0
  · subst h0
    simp [turned]
  have hp : (0 : Int) < (n : Int) := by omega
  constructor
  · intro h
    obtain ⟨p, hp1, rfl⟩ := List.getElem_of_mem h
    rw [List.length_take] at hp1
    unfold turned
    rw [List.mem_map]
    have b1 := Int.emod_nonneg (c + n - p) (show (n : Int) ≠ 0 by omega)
    have b2 := Int.emod_lt_of_pos (c + n - p) hp
    refine ⟨((c + n - p) % n).toNat, List.mem_range.2 (by omega), ?_⟩
    have e : (c + n - (((c + n - p) % n).toNat : Int)) % n = p := by
      rw [Int.toNat_of_nonneg b1]
      have e1 : (c + n - (c + n - p) % n) % n = (c + n - (c + n - p)) % n := by
        rw [Int.sub_emod, Int.emod_emod_of_dvd _ (Int.dvd_refl _), ← Int.sub_emod]
      rw [e1]
      have : c + n - (c + n - p) = p := by omega
      rw [this]
      exact Int.emod_eq_of_lt (by omega) (by omega)
    rw [e, List.getD_eq_getElem?_getD, Int.toNat_natCast, List.getElem?_eq_getElem (by omega)]
    simp
  · intro h
    unfold turned at h
    rw [List.mem_map] at h
    obtain ⟨t, ht, rfl⟩ := h
    have b1 := Int.emod_nonneg (c + n - t) (show (n : Int) ≠ 0 by omega)
    have b2 := Int.emod_lt_of_pos (c + n - t) hp
    rw [List.getD_eq_getElem?_getD, List.getElem?_eq_getElem (by omega)]
    simp only [Option.getD_some]
    rw [List.mem_take_iff_getElem]
    exact ⟨((c + n - t) % n).toNat, by omega, rfl⟩
end Go.Proofs.Ytfckphcbleodbaa
