/-
  What Push, Pop, Top and Len of package stack answer, and what they turn, at a stack of ints as it lies ('Stk').
-/
import Derived.Test.YteolopbklmbcmaaRows
import Derived.Test.YteolopbklmbcmaaMem
import Derived.WalkKit
import Derived.WalkSmall
import Derived.BigQuiet
import Derived.Deep.QuietTactic
import Derived.Lib.Hide
import Derived.Maps.AppendAt
import Derived.Deep.AppendLies
namespace Go.Proofs.Yteolopbklmbcmaa
open Go.RowKit

theorem info3 : (Try.prog.info? 3).map (fun i => (i.zero, i.size, i.bytes)) = some (some (.int .i64 0), 1, 8) := by kernel_rfl

/-- (*Stack[int]).Len -/
theorem len_i (w : World) (n₀ b : Nat) (v : Value) (xs : List Value) (h : Stk w 37 3 n₀ b v xs) :
    Calls Try.prog 20 #[.pointer (some ⟨b, 0, none⟩)] w fun e w' => e = .returned (.int .i64 xs.length) ∧ w = w' := by
  have hc := h.box.cell
  obtain ⟨a, cap, rfl⟩ := ownsRow_form h.row
  clear h
  go_enter Try.func20, Try.ntmps20
  go_wp2
  go_ret
  exact ⟨rfl, rfl⟩

/-- (*Stack[int]).Top, of an empty one. -/
theorem top0_i (w : World) (n₀ b : Nat) (v : Value) (h : Stk w 37 3 n₀ b v []) :
    Calls Try.prog 21 #[.pointer (some ⟨b, 0, none⟩)] w fun e w' => e = .returned (.tuple #[.int .i64 0, .bool false]) ∧ w = w' := by
  have hc := h.box.cell
  obtain ⟨a, cap, rfl⟩ := ownsRow_form h.row
  clear h
  go_enter Try.func21, Try.ntmps21
  go_wp2
  go_ret2
  exact ⟨rfl, rfl⟩

/-- (*Stack[int]).Top, of one that has a top. -/
theorem top1_i (w : World) (n₀ b : Nat) (v : Value) (xs : List Value) (x : Int) (h : Stk w 37 3 n₀ b v (xs ++ [.int .i64 x])) :
    Calls Try.prog 21 #[.pointer (some ⟨b, 0, none⟩)] w fun e w' => e = .returned (.tuple #[.int .i64 x, .bool true]) ∧ ∃ k, w' = w.drewN k := by
  have hc := h.box.cell
  have hr := h.row
  have hl : (xs ++ [Value.int .i64 x]).length = xs.length + 1 := by simp
  rw [hl] at hr
  obtain ⟨g, cap, rfl⟩ := ownsRow_succ hr
  have hx : w.cell? ⟨g, xs.length, none⟩ = some (.int .i64 x) := by rw [hr.cellAt xs.length (by omega)]; simp
  have hm : xs.length + 1 ≤ maxLen := by
    rcases hr.2 with ⟨h', _⟩ | ⟨g', cap', cur, h', _, _, hnc, hcm, _⟩
    · cases h'
    · cases h'
      omega
  unfold maxLen at hm
  have n0 : (((xs.length + 1 : Nat) : Int) == 0) = false := by simp only [beq_eq_false_iff_ne, ne_eq]; omega
  clear h hr hl
  go_enter Try.func21, Try.ntmps21
  go_wp2
  go_quiet (fail)
  go_wp2
  go_ret2
  exact ⟨rfl, _, rfl⟩

/-- What a Push leaves: the stack with one more on its top; of what lay, its own blocks alone have turned; a block of it that was none is new. -/
def Pushed (t e : TypeId) (n₀ b : Nat) (v : Value) (ys : List Value) (w w' : World) : Prop :=
  ∃ v', Stk w' t e n₀ b v' ys ∧ Turned (Foot b v) w w' ∧ ∀ k, Foot b v' k → Foot b v k ∨ w.heap.size ≤ k

/-- The blocks behind an append, and the store of its slice into the box. -/
theorem pushed_of {t e : TypeId} {w w1 : World} {n₀ b : Nat} {v v' : Value} {xs ys : List Value} {tmp : Obj} (hte : t ≠ e) (hn : n₀ ≤ w.heap.size) (h : Stk w t e n₀ b v xs)
    (hown : w1.ownsRow n₀ e 1 v' ys.length ys) (hgrow : (w.alloc tmp).grownBy w1 v.ownBlock) (hnew : ∀ k, v'.ownBlock = some k → v.ownBlock = some k ∨ w.heap.size ≤ k) :
    Boxed w1 b t v ∧ Pushed t e n₀ b v ys w (w1.setCell ⟨b, 0, none⟩ v') := by
  obtain ⟨hv1, hv2, hr2, hk2, hb2⟩ := h.box.appended hte h.row hn h.le hown hgrow
  refine ⟨hv1, v', ⟨h.le, hv2, hr2⟩, ?_, ?_⟩
  · have h1 : Turned (Foot b v) w (w.alloc tmp) := Turned.alloc _ _ _
    have h2 : Turned (Foot b v) (w.alloc tmp) w1 := Turned.of_grownBy hgrow (fun k hk => .inr hk)
    have h3 : Turned (Foot b v) w1 (w1.setCell ⟨b, 0, none⟩ v') := Turned.setCell _ _ _ (.inl rfl)
    exact (h1.trans h2 (fun _ h => h) (fun _ _ h => h)).trans h3 (fun _ h => h) (fun _ _ h => h)
  · rintro k (rfl | hk)
    · exact .inl (.inl rfl)
    · exact (hnew k hk).imp .inr id

theorem push_new {v : Value} {g H n cap : Nat} (hat : v.ownBlock = some g ∨ g = H + 1) : ∀ k, (Value.slice (some ⟨g, 0, none⟩) n cap).ownBlock = some k → v.ownBlock = some k ∨ H ≤ k := by
  intro k hk
  obtain rfl : g = k := by simpa [Value.ownBlock] using hk
  exact hat.imp id (fun e => by omega)

/-- (*Stack[int]).Push -/
theorem push_i (w : World) (n₀ b : Nat) (v : Value) (xs : List Value) (x : Int) (hn : n₀ ≤ w.heap.size) (hl : xs.length ≤ 1000) (h : Stk w 37 3 n₀ b v xs) :
    Calls Try.prog 14 #[.pointer (some ⟨b, 0, none⟩), .int .i64 x] w fun e w' => e = .returned (.tuple #[]) ∧ Pushed 37 3 n₀ b v (xs ++ [.int .i64 x]) w w' := by
  have hc := h.box.cell
  have hlt := h.box.lt
  have hr := h.row.alloc (.cells #[.int .i64 x] 3)
  have hm : xs.length + 1 ≤ maxLen := by unfold maxLen; omega
  obtain ⟨i0, hi, hz0, hz1, hz2⟩ := info_parts info3
  have H := Lib.hid h
  clear h
  go_enter Try.func14, Try.ntmps14
  go_wp2_with (at_builtin; refine wpList_append_lies _ rfl _ _ 34 rfl n₀ 3 i0 (.int .i64 0) 1 8 Try.underlying34 hi hz0 hz1 hz2 rfl (by decide) v xs.length xs rfl hr ⟨w.heap.size, 0, none⟩ 1 1 [.int .i64 x] rfl rfl (cell_one_new _ _ _) (by simp [Value.oneCell']) (by decide) hm (by omega) (by simp; omega) (w.heap.size + 1) (by simp) ?_; intro g cap w1 hown hgrow hat hlt; obtain ⟨hb1, hp⟩ := pushed_of (tmp := .cells #[.int .i64 x] 3) (v' := .slice (some ⟨g, 0, none⟩) (xs.length + 1) cap) (ys := xs ++ [.int .i64 x]) (by decide) hn H.out (by simpa using hown) hgrow (push_new hat); have hc1 := hb1.cell; have hf1 := hb1.frozen; clear hc)
  go_end0
  exact ⟨rfl, hp⟩
end Go.Proofs.Yteolopbklmbcmaa
