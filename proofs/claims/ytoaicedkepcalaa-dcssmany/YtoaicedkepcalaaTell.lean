/-
  What the calls of the program's memory that are no accesses answer (Count, Odd, Refused, Used, Size, Cells, Clone), slices.Clone, ordinateref1's Words, ordinatehand's Cut.
-/
import Derived.Test.YtoaicedkepcalaaMakeP
import Derived.Lib.SliceRun
namespace Go.Proofs.Ytoaicedkepcalaa
open Go.RowKit

theorem size_c (w : World) (n₀ b : Nat) (v : Value) (s : Mst) (h : PMem w n₀ b v s) : Calls Try.prog 29 #[.pointer (some ⟨b, 0, none⟩)] w fun e w' => e = .returned (.int .i64 s.size) ∧ w = w' := by
  obtain ⟨⟨c0, c1, c2, c3, c4⟩, _⟩ := h.opened
  clear h
  go_enter Try.func29, Try.ntmps29
  go_wp2
  go_ret
  exact ⟨rfl, rfl⟩
theorem used_c (w : World) (n₀ b : Nat) (v : Value) (s : Mst) (h : PMem w n₀ b v s) : Calls Try.prog 28 #[.pointer (some ⟨b, 0, none⟩)] w fun e w' => e = .returned (.int .i64 (s.xs.length : Int)) ∧ w = w' := by
  obtain ⟨⟨c0, _⟩, _⟩ := h.opened
  obtain ⟨a0, cap, rfl, _⟩ := h.form
  clear h
  go_enter Try.func28, Try.ntmps28
  go_wp2
  go_ret
  exact ⟨rfl, rfl⟩

/-- What is answered: a slice of these numbers, in a row that is new; nothing that lay is turned. -/
def Fresh (zs : List Int) (w : World) (e : Ending) (w' : World) : Prop := ∃ v, e = .returned v ∧ Row w' w.heap.size 2 v zs ∧ Kept w w'

/-- slices.Clone of numbers -/
theorem clone_s (w : World) (a : Option Addr) (zs : List Int) (cap : Nat) (hr : Reads w a zs) (hl : zs.length ≤ 1000000) :
    Calls Try.prog 47 #[.slice a zs.length cap] w (Fresh zs w) := by
  obtain ⟨i0, hi, hz0, hz1, hz2⟩ := info_parts info2_p
  have r0 : (w.alloc (.cells #[] 2)).ownsRow w.heap.size 2 1 (.slice (some ⟨w.heap.size, 0, none⟩) 0 0) 0 [] := ⟨rfl, .inr ⟨w.heap.size, 0, #[], rfl, Nat.le_refl _, heap_new w _, Nat.le_refl _, Nat.zero_le _, rfl, rfl⟩⟩
  have KK : Hid (Kept w (w.alloc (.cells #[] 2))) := hide (Turned.alloc _ _ _)
  have qn : ∀ (W : World) n c, (binOp .eql 45 (.slice none n c) (.slice none 0 0)).run Try.prog W = .ok (.bool true) W := fun W n c => Lib.run_eql_slice_nil W 45 2 none n c 0 0 Try.underlying45
  have qs : ∀ (W : World) ad n c, (binOp .eql 45 (.slice (some ad) n c) (.slice none 0 0)).run Try.prog W = .ok (.bool false) W := fun W ad n c => Lib.run_eql_slice_nil W 45 2 (some ad) n c 0 0 Try.underlying45
  cases a with
  | none =>
    have h0 : zs = [] := by
      rcases hr with e | ⟨_, _, e, _⟩
      · exact e
      · cases e
    subst h0
    clear hr r0
    go_enter Try.func47, Try.ntmps47
    go_wp2
    go_ret
    exact ⟨_, rfl, World.ownsRow_nil _ _ _ _, Kept.refl _⟩
  | some ad =>
    by_cases h0 : zs = []
    · subst h0
      clear hr
      go_enter Try.func47, Try.ntmps47
      go_wp2_with (at_builtin; refine Stop.out ?_)
      refine ⟨?_⟩
      refine wpList_append_own_at _ rfl _ _ 45 rfl w.heap.size 2 i0 (.int .i64 0) 1 8 Try.underlying45 hi hz0 hz1 hz2 rfl (by decide) _ _ _ rfl r0 _ _ _ [] rfl rfl (by simp) (by simp) (by decide) (by decide) (by simp) ?_
      intro v1 w1 hown hg hni _
      clear hni
      have HO := hide hown
      have hg' : (w.alloc (.cells #[] 2)).grownBy w1 (some w.heap.size) := hg
      have K1 := hide (KK.out.did (Nat.le_refl _) (Turned.of_grownBy (R := fun i => i = w.heap.size) hg' (fun k hk => (Option.some.inj hk).symm)))
      clear hown hg hg' r0
      go_wp2
      go_ret
      exact ⟨_, rfl, HO.out, K1.out⟩
    · have hp : 0 < zs.length := List.length_pos_iff.2 h0
      obtain ⟨bl, off, e, hrow⟩ : ∃ bl off, some ad = some ⟨bl, off, none⟩ ∧ ∀ j z, zs[j]? = some z → w.cell? ⟨bl, off + j, none⟩ = some (.int .i64 z) := by
        rcases hr with e | h
        · exact (h0 e).elim
        · exact h
      obtain rfl : ad = ⟨bl, off, none⟩ := Option.some.inj e
      have hrow1 : ∀ j z, zs[j]? = some z → (w.alloc (.cells #[] 2)).cell? ⟨bl, off + j, none⟩ = some (.int .i64 z) := fun j z hz => KK.out.cell (hrow j z hz) id
      clear hr hrow h0
      go_enter Try.func47, Try.ntmps47
      go_wp2_with (at_builtin; refine Stop.out ?_)
      refine ⟨?_⟩
      refine wpList_append_own_at _ rfl _ _ 45 rfl w.heap.size 2 i0 (.int .i64 0) 1 8 Try.underlying45 hi hz0 hz1 hz2 rfl (by decide) _ _ _ rfl r0 ⟨bl, off, none⟩ zs.length cap (cellsOf zs) rfl (by simp) (news_p hrow1) (ints_oneCell _ _) (by unfold maxLen; omega) (by omega) (by simp) ?_
      intro v1 w1 hown hg hni _
      clear hni
      have HO : Hid (Row w1 w.heap.size 2 v1 zs) := hide (by simpa using hown)
      have hg' : (w.alloc (.cells #[] 2)).grownBy w1 (some w.heap.size) := hg
      have K1 := hide (KK.out.did (Nat.le_refl _) (Turned.of_grownBy (R := fun i => i = w.heap.size) hg' (fun k hk => (Option.some.inj hk).symm)))
      clear hown hg hg' r0 hrow1
      go_wp2
      go_ret
      exact ⟨_, rfl, HO.out, K1.out⟩

/-- Cells -/
theorem cells_c (w : World) (n₀ b : Nat) (v : Value) (s : Mst) (h : PMem w n₀ b v s) : Calls Try.prog 25 #[.pointer (some ⟨b, 0, none⟩)] w (Fresh s.xs w) := by
  obtain ⟨⟨c0, _⟩, _⟩ := h.opened
  have hl := h.len
  obtain ⟨a0, cap, rfl, hr, _, _⟩ := h.form
  have HC := hide (clone_s w a0 s.xs cap hr (by omega))
  clear h hr
  go_enter Try.func25, Try.ntmps25
  go_wp2_with (fail)
  refine HC.out.mono ?_
  rintro e w1 ⟨v1, rfl, hrow, hk⟩
  have HR := hide hrow
  have HK := hide hk
  clear hrow hk
  go_wp2
  go_ret
  exact ⟨_, rfl, HR.out, HK.out⟩

/-- Two slices that read alike are alike. -/
theorem words_c (w : World) (a b : Option Addr) (q : List Int) (cap cap' : Nat) (hr : Reads w a q) (hr' : Reads w b q) (hc : q.length ≤ cap) (hc' : q.length ≤ cap') (hm : cap ≤ maxLen) :
    Calls Try.prog 26 #[.slice a q.length cap, .slice b q.length cap'] w fun e w' => e = .returned (.bool true) ∧ ∃ m, w' = w.drewN m := by
  have HR := hide hr
  have HR' := hide hr'
  have hm' : (q.length : Int) ≤ 9223372036854775807 := by unfold maxLen at hm; omega
  clear hr hm hr'
  go_enter Try.func26, Try.ntmps26
  go_wp2
  go_loopw [5] (fun i wr => ∃ t d : Nat, t ≤ q.length ∧ i = .int .i64 (t : Int) ∧ wr = w.drewN d) (fun i _ => q.length - (intOf i).toNat)
  case atStart => exact ⟨0, 0, Nat.zero_le _, rfl, rfl⟩
  case round =>
    obtain ⟨t, d, ht, rfl, rfl⟩ := hrel
    by_cases hlt : t < q.length
    · obtain ⟨z, hz⟩ : ∃ p, q[t]? = some p := ⟨_, List.getElem?_eq_getElem hlt⟩
      obtain ⟨bl, off, rfl, hbl, g1⟩ := HR.out.at hz
      obtain ⟨bl', off', rfl, hbl', g2⟩ := HR'.out.at hz
      have i1 : (t : Int) < (q.length : Int) := by omega
      have i3 : t < cap := by omega
      have i4 : t < cap' := by omega
      clear hz
      go_wp2
      go_quiet (fail)
      go_wp2
      exact ⟨⟨t + 1, _, by omega, by simp, rfl⟩, by simp [intOf]; omega⟩
    · have i1 : ¬ ((t : Int) < (q.length : Int)) := by omega
      go_wp2
      go_ret
      exact ⟨rfl, _, rfl⟩

theorem cut_g (w : World) (x n : Int) (h0 : 0 < n) (h1 : n ≤ 100000) : Calls Try.prog 17 #[.int .i64 x, .int .i64 n] w fun e w' => e = .returned (.int .i64 (x % n)) ∧ w = w' := by
  have a1 : -n < x.tmod n := Int.lt_tmod_of_pos x h0
  have a2 : x.tmod n < n := Int.tmod_lt_of_pos x h0
  have a3 : x % n = if x.tmod n < 0 then x.tmod n + n else x.tmod n := by
    have e := Int.tmod_eq_emod (a := x) (b := n)
    have b1 := Int.emod_nonneg x (show n ≠ 0 by omega)
    have b2 := Int.emod_lt_of_pos x h0
    have hn : (n.natAbs : Int) = n := by omega
    by_cases hh : 0 ≤ x ∨ n ∣ x
    · rw [if_pos hh] at e
      rw [if_neg (by rw [e]; omega), e]
      omega
    · rw [if_neg hh] at e
      rw [if_pos (by rw [e]; omega), e]
      omega
  have n0 : (n == 0) = false := by simp only [beq_eq_false_iff_ne, ne_eq]; omega
  have n1 : (n == -1) = false := by simp only [beq_eq_false_iff_ne, ne_eq]; omega
  obtain ⟨t, ht⟩ : ∃ t, x.tmod n = t := ⟨_, rfl⟩
  rw [ht] at a1 a2 a3
  by_cases h : t < 0
  · rw [if_pos h] at a3
    have A3 := hide a3
    clear a3
    go_enter Try.func17, Try.ntmps17
    go_wp2
    go_ret
    exact ⟨by rw [A3.out]; rfl, rfl⟩
  · rw [if_neg h] at a3
    have A3 := hide a3
    clear a3
    go_enter Try.func17, Try.ntmps17
    go_wp2
    go_ret
    exact ⟨by rw [A3.out]; rfl, rfl⟩
end Go.Proofs.Ytoaicedkepcalaa
