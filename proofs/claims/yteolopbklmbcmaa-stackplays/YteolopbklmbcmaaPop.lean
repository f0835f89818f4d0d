/-
  What Pop of package stack answers, and what it turns, at a stack of ints as it lies ('Stk').
-/
import Derived.Test.YteolopbklmbcmaaCon
import Derived.Deep.RegionHeld
namespace Go.Proofs.Yteolopbklmbcmaa
open Go.RowKit

/-- 'clear' of a slice of one element, of one cell. -/
theorem run_clear_one {P : Program} {t e ty : TypeId} {i : TypeInfo} {z u : Value} (ht : P.underlying t = some (.slice e)) (hi : P.info? e = some i) (hz : i.zero = some z) (hz1 : z.cells = #[z]) (hz2 : z.oneCell' = true) (w : World) (g j c : Nat)
    (hc : w.cell? ⟨g, j, none⟩ = some u) (hf : w.frozen? ⟨g, j, none⟩ = false) :
    (Builtin.clear_ #[t] ty #[.slice (some ⟨g, j, none⟩) 1 c]).run P w = .ok (.tuple #[]) (w.setCell ⟨g, j, none⟩ z) := by
  have hzc : (Builtin.zeroCells z.cells 1).toList = [z] := by rw [hz1]; simp [Builtin.zeroCells]
  have hadd : (⟨g, j, none⟩ : Addr).add 0 = ⟨g, j, none⟩ := by unfold Addr.add; split <;> simp_all
  have hst : (storeCells ⟨g, j, none⟩ [z]).run P w = .ok () (w.setCell ⟨g, j, none⟩ z) := by simp [storeCells, hadd, run_store _ _ _ _ _ hz2, hc, hf]
  simp [Builtin.clear_, run_underlying ht, zeroValue, typeInfo, hi, hz, hzc, hst]

/-- (*Stack[int]).Pop, of an empty one. -/
theorem pop0_i (w : World) (n₀ b : Nat) (v : Value) (h : Stk w 37 3 n₀ b v []) :
    Calls Try.prog 15 #[.pointer (some ⟨b, 0, none⟩)] w fun e w' => e = .returned (.tuple #[.int .i64 0, .bool false]) ∧ w = w' := by
  have H := Lib.hid h
  clear h
  go_enter Try.func15, Try.ntmps15
  go_wp2_with (go_at_call 21; refine (top0_i w n₀ b v H.out).mono ?_; rintro e w' ⟨rfl, rfl⟩)
  go_ret2
  exact ⟨rfl, rfl⟩

/-- What a Pop leaves: the stack without its top; of what lay, its own blocks alone have turned; it has no block that it had not. -/
def Popped (t e : TypeId) (n₀ b : Nat) (v : Value) (ys : List Value) (w w' : World) : Prop :=
  ∃ v', Stk w' t e n₀ b v' ys ∧ Turned (Foot b v) w w' ∧ ∀ k, Foot b v' k → Foot b v k

/-- The blocks behind a 'clear' of the top's place and the store of the shorter slice into the box. -/
theorem popped_of {t e : TypeId} {w : World} {n₀ b g cap : Nat} {xs : List Value} {x : Value} (z : Value) (hte : t ≠ e) (h : Stk w t e n₀ b (.slice (some ⟨g, 0, none⟩) (xs.length + 1) cap) (xs ++ [x])) (k : Nat) :
    Popped t e n₀ b (.slice (some ⟨g, 0, none⟩) (xs.length + 1) cap) xs w (((w.drewN k).setCell ⟨g, xs.length, none⟩ z).setCell ⟨b, 0, none⟩ (.slice (some ⟨g, 0, none⟩) xs.length cap)) := by
  have hr : (w.drewN k).ownsRow n₀ e 1 (.slice (some ⟨g, 0, none⟩) (xs.length + 1) cap) (xs.length + 1) (xs ++ [x]) := by have hr' := h.row; rw [show (xs ++ [x]).length = xs.length + 1 by simp] at hr'; exact hr'
  have hb : Boxed (w.drewN k) b t (.slice (some ⟨g, 0, none⟩) (xs.length + 1) cap) := h.box
  have hne : g ≠ b := fun e' => (hb.not_row hte hr) (by simp [Value.ownBlock, e'])
  obtain ⟨hs, hg⟩ := hr.stored xs.length z
  have he : (xs ++ [x]).set xs.length z = xs ++ [z] := by simp
  rw [he] at hs
  have hp := ownsRow_pop (by simp) hs
  have hb1 := hb.kept hg (fun e' => hne (by cases e'; rfl))
  refine ⟨_, ⟨h.le, hb1.set _, hp.kept (grownBy_setCell' _ b _) (.inr (fun e' => hne (by simpa [Value.ownBlock] using e')))⟩, ?_, ?_⟩
  · exact (Turned.drewN _ w k).trans ((Turned.setCell (R := Foot b (.slice (some ⟨g, 0, none⟩) (xs.length + 1) cap)) _ ⟨g, xs.length, none⟩ z (.inr rfl)).trans (Turned.setCell (R := Foot b (.slice (some ⟨g, 0, none⟩) (xs.length + 1) cap)) _ ⟨b, 0, none⟩ _ (.inl rfl)) (fun _ h => h) (fun _ _ h => h)) (fun _ h => h) (fun _ _ h => h)
  · rintro j (rfl | hj)
    · exact .inl rfl
    · exact .inr hj

/-- (*Stack[int]).Pop, of one that has a top. -/
theorem pop1_i (w : World) (n₀ b : Nat) (v : Value) (xs : List Value) (x : Int) (h : Stk w 37 3 n₀ b v (xs ++ [.int .i64 x])) :
    Calls Try.prog 15 #[.pointer (some ⟨b, 0, none⟩)] w fun e w' => e = .returned (.tuple #[.int .i64 x, .bool true]) ∧ Popped 37 3 n₀ b v xs w w' := by
  have hc := h.box.cell
  have hfb := h.box.frozen
  have hr := h.row
  have hl : (xs ++ [Value.int .i64 x]).length = xs.length + 1 := by simp
  rw [hl] at hr
  obtain ⟨g, cap, rfl⟩ := ownsRow_succ hr
  have hx : w.cell? ⟨g, xs.length, none⟩ = some (.int .i64 x) := by rw [hr.cellAt xs.length (by omega)]; simp
  have hfx : w.frozen? ⟨g, xs.length, none⟩ = false := hr.frozenAt _
  have hm : xs.length + 1 ≤ cap ∧ cap ≤ maxLen := by
    rcases hr.2 with ⟨h', _⟩ | ⟨g', cap', cur, h', _, _, hnc, hcm, _⟩
    · cases h'
    · cases h'
      omega
  obtain ⟨hm1, hm2⟩ := hm
  unfold maxLen at hm2
  obtain ⟨i0, hi, hz0, hz1, hz2⟩ := info_parts info3
  have hclr := fun k => run_clear_one (P := Try.prog) (ty := 0) Try.underlying34 hi hz0 rfl rfl (w.drewN k) g xs.length (cap - xs.length) hx hfx
  have hne : g ≠ b := fun e' => (h.box.not_row (by decide) hr) (by simp [Value.ownBlock, e'])
  have hc2 : ∀ k, ((w.drewN k).setCell ⟨g, xs.length, none⟩ (.int .i64 0)).cell? ⟨b, 0, none⟩ = some (.slice (some ⟨g, 0, none⟩) (xs.length + 1) cap) := fun k => (World.cell?_setCell_far _ _ _ _ hne).trans hc
  have H := Lib.hid h
  clear h hr hl hne hi hz0 hz1 hz2
  go_enter Try.func15, Try.ntmps15
  go_wp2_with (go_at_call 21; refine (top1_i _ n₀ b _ xs x H.out).mono ?_; rintro e w' ⟨rfl, k, rfl⟩)
  go_ret2
  exact ⟨rfl, popped_of _ (by decide) H.out k⟩
end Go.Proofs.Yteolopbklmbcmaa
