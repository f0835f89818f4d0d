/-
  What the calls of the program's memory that are no accesses answer (Count, Odd, Refused, Used, Size, Cells, Clone), slices.Clone, ordinateref1's Words, ordinatehand's Cut.
-/
import Derived.Test.YtejdgdpiddngiaaMakeP
import Derived.Lib.SliceRun
namespace Go.Proofs.Ytejdgdpiddngiaa
open Go.RowKit

theorem odd_c (w : World) (n₀ b : Nat) (v : Value) (s : Mst) (h : PMem w n₀ b v s) : Calls Try.prog 19 #[.pointer (some ⟨b, 0, none⟩)] w fun e w' => e = .returned (.int .i64 s.odd) ∧ w = w' := by
  obtain ⟨⟨c0, c1, c2, c3, c4⟩, _⟩ := h.opened
  clear h
  go_enter Try.func19, Try.ntmps19
  go_wp2
  go_ret
  exact ⟨rfl, rfl⟩
theorem size_c (w : World) (n₀ b : Nat) (v : Value) (s : Mst) (h : PMem w n₀ b v s) : Calls Try.prog 21 #[.pointer (some ⟨b, 0, none⟩)] w fun e w' => e = .returned (.int .i64 s.size) ∧ w = w' := by
  obtain ⟨⟨c0, c1, c2, c3, c4⟩, _⟩ := h.opened
  clear h
  go_enter Try.func21, Try.ntmps21
  go_wp2
  go_ret
  exact ⟨rfl, rfl⟩
theorem used_c (w : World) (n₀ b : Nat) (v : Value) (s : Mst) (h : PMem w n₀ b v s) : Calls Try.prog 20 #[.pointer (some ⟨b, 0, none⟩)] w fun e w' => e = .returned (.int .i64 (s.xs.length : Int)) ∧ w = w' := by
  obtain ⟨⟨c0, _⟩, _⟩ := h.opened
  obtain ⟨a0, cap, rfl, _⟩ := h.form
  clear h
  go_enter Try.func20, Try.ntmps20
  go_wp2
  go_ret
  exact ⟨rfl, rfl⟩

/-- What is answered: a slice of these numbers, in a row that is new; nothing that lay is turned. -/
def Fresh (zs : List Int) (w : World) (e : Ending) (w' : World) : Prop := ∃ v, e = .returned v ∧ Row w' w.heap.size 2 v zs ∧ Kept w w'

theorem cut_g (w : World) (x n : Int) (h0 : 0 < n) (h1 : n ≤ 100000) : Calls Try.prog 18 #[.int .i64 x, .int .i64 n] w fun e w' => e = .returned (.int .i64 (x % n)) ∧ w = w' := by
  have a1 : -n < x.tmod n := Int.lt_tmod_of_pos x h0
  have a2 : x.tmod n < n := Int.tmod_lt_of_pos x h0
  have a3 : x % n = if x.tmod n < 0 then x.tmod n + n else x.tmod n := by
    have e := Int.tmod_eq_emod (a := x) (b := n)
    have b1 := Int.emod_nonneg x (show n ≠ 0 by omega)
    have b2 := Int.emod_lt_of_pos x h0
    have hn : (n.natAbs : Int) = n := by omega
    by_cases hh : 0 ≤ x ∨ n ∣ x
    · rw [if_pos hh] at e
      rw [if_neg (by rw [e]; omega), e]
      omega
    · rw [if_neg hh] at e
      rw [if_pos (by rw [e]; omega), e]
      omega
  have n0 : (n == 0) = false := by simp only [beq_eq_false_iff_ne, ne_eq]; omega
  have n1 : (n == -1) = false := by simp only [beq_eq_false_iff_ne, ne_eq]; omega
  obtain ⟨t, ht⟩ : ∃ t, x.tmod n = t := ⟨_, rfl⟩
  rw [ht] at a1 a2 a3
  by_cases h : t < 0
  · rw [if_pos h] at a3
    have A3 := hide a3
    clear a3
    go_enter Try.func18, Try.ntmps18
    go_wp2
    go_ret
    exact ⟨by rw [A3.out]; rfl, rfl⟩
  · rw [if_neg h] at a3
    have A3 := hide a3
    clear a3
    go_enter Try.func18, Try.ntmps18
    go_wp2
    go_ret
    exact ⟨by rw [A3.out]; rfl, rfl⟩
end Go.Proofs.Ytejdgdpiddngiaa
