/-
  What Push, Pop, Top and Len of package stack answer, and what they turn, at a stack of strings as it lies ('Stk').
-/
import Derived.Test.YteolopbklmbcmaaPop
namespace Go.Proofs.Yteolopbklmbcmaa
open Go.RowKit
theorem info9 : (Try.prog.info? 9).map (fun i => (i.zero, i.size, i.bytes)) = some (some (.string ⟨#[]⟩), 1, 16) := by kernel_rfl

/-- (*Stack[string]).Len -/
theorem len_s (w : World) (n₀ b : Nat) (v : Value) (xs : List Value) (h : Stk w 26 9 n₀ b v xs) :
    Calls Try.prog 13 #[.pointer (some ⟨b, 0, none⟩)] w fun e w' => e = .returned (.int .i64 xs.length) ∧ w = w' := by
  have hc := h.box.cell
  obtain ⟨a, cap, rfl⟩ := ownsRow_form h.row
  clear h
  go_enter Try.func13, Try.ntmps13
  go_wp2
  go_ret
  exact ⟨rfl, rfl⟩

/-- (*Stack[string]).Top, of an empty one. -/
theorem top0_s (w : World) (n₀ b : Nat) (v : Value) (h : Stk w 26 9 n₀ b v []) :
    Calls Try.prog 9 #[.pointer (some ⟨b, 0, none⟩)] w fun e w' => e = .returned (.tuple #[.string ⟨#[]⟩, .bool false]) ∧ w = w' := by
  have hc := h.box.cell
  obtain ⟨a, cap, rfl⟩ := ownsRow_form h.row
  clear h
  go_enter Try.func9, Try.ntmps9
  go_wp2
  go_ret2
  exact ⟨rfl, rfl⟩

/-- (*Stack[string]).Top, of one that has a top. -/
theorem top1_s (w : World) (n₀ b : Nat) (v : Value) (xs : List Value) (x : ByteArray) (h : Stk w 26 9 n₀ b v (xs ++ [.string x])) :
    Calls Try.prog 9 #[.pointer (some ⟨b, 0, none⟩)] w fun e w' => e = .returned (.tuple #[.string x, .bool true]) ∧ ∃ k, w' = w.drewN k := by
  have hc := h.box.cell
  have hr := h.row
  have hl : (xs ++ [Value.string x]).length = xs.length + 1 := by simp
  rw [hl] at hr
  obtain ⟨g, cap, rfl⟩ := ownsRow_succ hr
  have hx : w.cell? ⟨g, xs.length, none⟩ = some (.string x) := by rw [hr.cellAt xs.length (by omega)]; simp
  have hm : xs.length + 1 ≤ maxLen := by
    rcases hr.2 with ⟨h', _⟩ | ⟨g', cap', cur, h', _, _, hnc, hcm, _⟩
    · cases h'
    · cases h'
      omega
  unfold maxLen at hm
  have n0 : (((xs.length + 1 : Nat) : Int) == 0) = false := by simp only [beq_eq_false_iff_ne, ne_eq]; omega
  clear h hr hl
  go_enter Try.func9, Try.ntmps9
  go_wp2
  go_quiet (fail)
  go_wp2
  go_ret2
  exact ⟨rfl, _, rfl⟩

/-- (*Stack[string]).Push -/
theorem push_s (w : World) (n₀ b : Nat) (v : Value) (xs : List Value) (x : ByteArray) (hn : n₀ ≤ w.heap.size) (hl : xs.length ≤ 1000) (h : Stk w 26 9 n₀ b v xs) :
    Calls Try.prog 11 #[.pointer (some ⟨b, 0, none⟩), .string x] w fun e w' => e = .returned (.tuple #[]) ∧ Pushed 26 9 n₀ b v (xs ++ [.string x]) w w' := by
  have hc := h.box.cell
  have hlt := h.box.lt
  have hr := h.row.alloc (.cells #[.string x] 9)
  have hm : xs.length + 1 ≤ maxLen := by unfold maxLen; omega
  obtain ⟨i0, hi, hz0, hz1, hz2⟩ := info_parts info9
  have H := Lib.hid h
  clear h
  go_enter Try.func11, Try.ntmps11
  go_wp2_with (at_builtin; refine wpList_append_lies _ rfl _ _ 24 rfl n₀ 9 i0 (.string ⟨#[]⟩) 1 16 Try.underlying24 hi hz0 hz1 hz2 rfl (by decide) v xs.length xs rfl hr ⟨w.heap.size, 0, none⟩ 1 1 [.string x] rfl rfl (cell_one_new _ _ _) (by simp [Value.oneCell']) (by decide) hm (by omega) (by simp; omega) (w.heap.size + 1) (by simp) ?_; intro g cap w1 hown hgrow hat hlt; obtain ⟨hb1, hp⟩ := pushed_of (tmp := .cells #[.string x] 9) (v' := .slice (some ⟨g, 0, none⟩) (xs.length + 1) cap) (ys := xs ++ [.string x]) (by decide) hn H.out (by simpa using hown) hgrow (push_new hat); have hc1 := hb1.cell; have hf1 := hb1.frozen; clear hc)
  go_end0
  exact ⟨rfl, hp⟩

/-- (*Stack[string]).Pop, of an empty one. -/
theorem pop0_s (w : World) (n₀ b : Nat) (v : Value) (h : Stk w 26 9 n₀ b v []) :
    Calls Try.prog 12 #[.pointer (some ⟨b, 0, none⟩)] w fun e w' => e = .returned (.tuple #[.string ⟨#[]⟩, .bool false]) ∧ w = w' := by
  have H := Lib.hid h
  clear h
  go_enter Try.func12, Try.ntmps12
  go_wp2_with (go_at_call 9; refine (top0_s w n₀ b v H.out).mono ?_; rintro e w' ⟨rfl, rfl⟩)
  go_ret2
  exact ⟨rfl, rfl⟩

/-- (*Stack[string]).Pop, of one that has a top. -/
theorem pop1_s (w : World) (n₀ b : Nat) (v : Value) (xs : List Value) (x : ByteArray) (h : Stk w 26 9 n₀ b v (xs ++ [.string x])) :
    Calls Try.prog 12 #[.pointer (some ⟨b, 0, none⟩)] w fun e w' => e = .returned (.tuple #[.string x, .bool true]) ∧ Popped 26 9 n₀ b v xs w w' := by
  have hc := h.box.cell
  have hfb := h.box.frozen
  have hr := h.row
  have hl : (xs ++ [Value.string x]).length = xs.length + 1 := by simp
  rw [hl] at hr
  obtain ⟨g, cap, rfl⟩ := ownsRow_succ hr
  have hx : w.cell? ⟨g, xs.length, none⟩ = some (.string x) := by rw [hr.cellAt xs.length (by omega)]; simp
  have hfx : w.frozen? ⟨g, xs.length, none⟩ = false := hr.frozenAt _
  have hm : xs.length + 1 ≤ cap ∧ cap ≤ maxLen := by
    rcases hr.2 with ⟨h', _⟩ | ⟨g', cap', cur, h', _, _, hnc, hcm, _⟩
    · cases h'
    · cases h'
      omega
  obtain ⟨hm1, hm2⟩ := hm
  unfold maxLen at hm2
  obtain ⟨i0, hi, hz0, hz1, hz2⟩ := info_parts info9
  have hclr := fun k => run_clear_one (P := Try.prog) (ty := 0) Try.underlying24 hi hz0 rfl rfl (w.drewN k) g xs.length (cap - xs.length) hx hfx
  have hne : g ≠ b := fun e' => (h.box.not_row (by decide) hr) (by simp [Value.ownBlock, e'])
  have hc2 : ∀ k, ((w.drewN k).setCell ⟨g, xs.length, none⟩ (.string ⟨#[]⟩)).cell? ⟨b, 0, none⟩ = some (.slice (some ⟨g, 0, none⟩) (xs.length + 1) cap) := fun k => (World.cell?_setCell_far _ _ _ _ hne).trans hc
  have H := Lib.hid h
  clear h hr hl hne hi hz0 hz1 hz2
  go_enter Try.func12, Try.ntmps12
  go_wp2_with (go_at_call 9; refine (top1_s _ n₀ b _ xs x H.out).mono ?_; rintro e w' ⟨rfl, k, rfl⟩)
  go_ret2
  exact ⟨rfl, popped_of _ (by decide) H.out k⟩

end Go.Proofs.Yteolopbklmbcmaa
