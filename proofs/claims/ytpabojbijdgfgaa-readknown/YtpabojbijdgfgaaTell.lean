/-
  What the calls of the program's memory that are no accesses answer (Count, Odd, Refused, Used, Size, Cells, Clone), slices.Clone, ordinateref1's Words, ordinatehand's Cut.
-/
import Derived.Test.YtpabojbijdgfgaaMakeP
import Derived.Lib.SliceRun
namespace Go.Proofs.Ytpabojbijdgfgaa
open Go.RowKit

theorem size_c (w : World) (n₀ b : Nat) (v : Value) (s : Mst) (h : PMem w n₀ b v s) : Calls Try.prog 16 #[.pointer (some ⟨b, 0, none⟩)] w fun e w' => e = .returned (.int .i64 s.size) ∧ w = w' := by
  obtain ⟨⟨c0, c1, c2, c3, c4⟩, _⟩ := h.opened
  clear h
  go_enter Try.func16, Try.ntmps16
  go_wp2
  go_ret
  exact ⟨rfl, rfl⟩
theorem used_c (w : World) (n₀ b : Nat) (v : Value) (s : Mst) (h : PMem w n₀ b v s) : Calls Try.prog 15 #[.pointer (some ⟨b, 0, none⟩)] w fun e w' => e = .returned (.int .i64 (s.xs.length : Int)) ∧ w = w' := by
  obtain ⟨⟨c0, _⟩, _⟩ := h.opened
  obtain ⟨a0, cap, rfl, _⟩ := h.form
  clear h
  go_enter Try.func15, Try.ntmps15
  go_wp2
  go_ret
  exact ⟨rfl, rfl⟩

/-- What is answered: a slice of these numbers, in a row that is new; nothing that lay is turned. -/
def Fresh (zs : List Int) (w : World) (e : Ending) (w' : World) : Prop := ∃ v, e = .returned v ∧ Row w' w.heap.size 2 v zs ∧ Kept w w'

end Go.Proofs.Ytpabojbijdgfgaa
