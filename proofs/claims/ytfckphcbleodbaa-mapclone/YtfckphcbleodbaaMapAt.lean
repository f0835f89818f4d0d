/-
  A map's box as it lies ('MapAt': two cells: the root, how many), and how tall the tree at a pointer is, as its cell says. No number of the program in it. No conditions beyond each theorem's own.
-/
import Derived.Test.YtfckphcbleodbaaTree
namespace Go.Proofs.Ytfckphcbleodbaa
open Go.RowKit
variable {α β : Type}

/-- The height in the cell of the node at a pointer. -/
def tallOf (w : World) : Value → Nat
  | .pointer (some a) => match w.cell? ⟨a.block, 4, none⟩ with | some (.int _ h) => h.toNat | _ => 0
  | _ => 0
theorem tallOf_lies {T : TypeId} {ek : α → Value} {ev : β → Value} {w : World} : {t : Tr α β} → {p : Value} → Lies T ek ev w t p → tallOf w p = t.ht
  | .nil, _, h => by
    obtain rfl := h
    rfl
  | .node _ _ _ _, _, h => by
    obtain ⟨b, pl, pr, rfl, hn, _, _⟩ := h
    simp [tallOf, hn.cells.2.2.2.2]

theorem tallOf_drewN (w : World) (n : Nat) (p : Value) : tallOf (w.drewN n) p = tallOf w p := rfl

/-- A map's box. -/
def MapAt (M : TypeId) (w : World) (b : Nat) (p : Value) (n : Int) : Prop := w.heap[b]? = some (.cells #[p, .int .i64 n] M)
namespace MapAt
variable {M : TypeId} {w w' : World} {b : Nat} {p : Value} {n : Int}
theorem lt (h : MapAt M w b p n) : b < w.heap.size := (Array.getElem?_eq_some_iff.1 h).1
theorem cells (h : MapAt M w b p n) : w.cell? ⟨b, 0, none⟩ = some p ∧ w.cell? ⟨b, 1, none⟩ = some (.int .i64 n) := by
  unfold MapAt at h
  simp [World.cell?, h]
theorem opened (h : MapAt M w b p n) : w.cell? ⟨b, 0, none⟩ = some p ∧ w.cell? ⟨b, 1, none⟩ = some (.int .i64 n) ∧ w.frozen? ⟨b, 0, none⟩ = false ∧ w.frozen? ⟨b, 1, none⟩ = false := by
  unfold MapAt at h
  simp [World.cell?, World.frozen?, h]
theorem turned (h : MapAt M w b p n) {R : Nat → Prop} (ht : Turned R w w') (hR : ¬ R b) : MapAt M w' b p n := ht.heap h hR
theorem kept (h : MapAt M w b p n) (ht : Kept w w') : MapAt M w' b p n := ht.heap h id
theorem set0 (h : MapAt M w b p n) (q : Value) : MapAt M (w.setCell ⟨b, 0, none⟩ q) b q n := by
  unfold MapAt at *
  simp [World.setCell, Array.getElem?_modify, h]
theorem set1 (h : MapAt M w b p n) (m : Int) : MapAt M (w.setCell ⟨b, 1, none⟩ (.int .i64 m)) b p m := by
  unfold MapAt at *
  simp [World.setCell, Array.getElem?_modify, h]
theorem notNode (h : MapAt M w b p n) {T : TypeId} (hne : M ≠ T) : ¬ IsNode T w b := by
  rintro ⟨cs, hc⟩
  rw [show w.heap[b]? = _ from h] at hc
  cases hc
  exact hne rfl
end MapAt
end Go.Proofs.Ytfckphcbleodbaa
