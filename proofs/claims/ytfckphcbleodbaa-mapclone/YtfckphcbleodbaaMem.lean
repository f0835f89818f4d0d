/-
  Memory: what a step has turned ('Turned R w w'': of the blocks that lay, those of R alone), and a stack as it lies ('Stk': a box that holds a slice that owns its row). No conditions beyond each theorem's own.
-/
import Derived.RangeFuncNested
import Derived.RangeFuncBound
import Derived.WalkKit
import Derived.WalkSmall
import Derived.Maps.AppendAt
import Derived.OwnWalk
namespace Go.Proofs.Ytfckphcbleodbaa
open Go.RowKit

/-- Of the blocks that lay, those of R alone may have turned. -/
structure Turned (R : Nat → Prop) (w w' : World) : Prop where
  os : w'.os = w.os
  tape : w'.tape = w.tape
  output : w'.output = w.output
  size : w.heap.size ≤ w'.heap.size
  block : ∀ k, k < w.heap.size → ¬ R k → w'.heap[k]? = w.heap[k]?

namespace Turned
theorem refl (R : Nat → Prop) (w : World) : Turned R w w := ⟨rfl, rfl, rfl, Nat.le_refl _, fun _ _ _ => rfl⟩
theorem trans {R R' R'' : Nat → Prop} {a b c : World} (h : Turned R a b) (k : Turned R' b c) (h1 : ∀ i, R i → R'' i) (h2 : ∀ i, i < a.heap.size → R' i → R'' i) : Turned R'' a c :=
  ⟨k.os.trans h.os, k.tape.trans h.tape, k.output.trans h.output, Nat.le_trans h.size k.size,
   fun i hi hn => (k.block i (Nat.lt_of_lt_of_le hi h.size) (fun e => hn (h2 i hi e))).trans (h.block i hi (fun e => hn (h1 i e)))⟩
theorem mono {R R' : Nat → Prop} {a b : World} (h : Turned R a b) (h1 : ∀ i, i < a.heap.size → R i → R' i) : Turned R' a b :=
  ⟨h.os, h.tape, h.output, h.size, fun i hi hn => h.block i hi (fun e => hn (h1 i hi e))⟩
theorem below {R : Nat → Prop} {B : Nat} {a b : World} (h : Turned R a b) (hB : B ≤ a.heap.size) (hR : ∀ k, R k → B ≤ k) : Below B a b :=
  ⟨h.os, h.tape, h.output, h.size, fun k hk => h.block k (by omega) (fun e => by have := hR k e; omega)⟩
theorem drewN (R : Nat → Prop) (w : World) (n : Nat) : Turned R w (w.drewN n) := ⟨rfl, rfl, rfl, Nat.le_refl _, fun _ _ _ => rfl⟩
theorem alloc (R : Nat → Prop) (w : World) (o : Obj) : Turned R w (w.alloc o) :=
  ⟨rfl, rfl, rfl, by simp, fun k hk _ => Below.heap_alloc w o k hk⟩
theorem setCell (w : World) (a : Addr) (v : Value) {R : Nat → Prop} (h : R a.block) : Turned R w (w.setCell a v) :=
  ⟨rfl, rfl, rfl, (KeepsWalks.setCell w a v).size, fun k _ hn => Below.heap_setCell w a v k (fun e => hn (by rw [e]; exact h))⟩
theorem putObj (w : World) (l : Nat) (o : Obj) {R : Nat → Prop} (h : R l) : Turned R w (w.putObj l o) :=
  ⟨rfl, rfl, rfl, by simp, fun k _ hn => World.putObj_heap_other (fun e => hn (by rw [e]; exact h))⟩
theorem of_grownBy {w w' : World} {row : Option Nat} {R : Nat → Prop} (h : w.grownBy w' row) (hR : ∀ k, row = some k → R k) : Turned R w w' :=
  ⟨h.os, h.tape, h.output, h.size, fun k hk hn => h.block k hk (fun e => hn (hR k e.symm))⟩
theorem heap {R : Nat → Prop} {a b : World} (h : Turned R a b) {k : Nat} {o : Obj} (hk : a.heap[k]? = some o) (hn : ¬ R k) : b.heap[k]? = some o :=
  (h.block k (Array.getElem?_eq_some_iff.1 hk).1 hn).trans hk
theorem cell {R : Nat → Prop} {a b : World} (h : Turned R a b) {p : Addr} {v : Value} (hc : a.cell? p = some v) (hn : ¬ R p.block) : b.cell? p = some v :=
  (World.cell?_of_block (h.block p.block (World.block_lt_of_cell? a p hc) hn)).trans hc
theorem boxed {R : Nat → Prop} {a b : World} (h : Turned R a b) {B : Nat} {t : TypeId} {v : Value} (hb : Boxed a B t v) (hn : ¬ R B) : Boxed b B t v := h.heap hb hn
end Turned

/-- The blocks of a stack: its box, and the row of the slice that lies there. -/
def Foot (b : Nat) (v : Value) : Nat → Prop := fun k => k = b ∨ v.ownBlock = some k

/-- A stack lies at b: a box (of type t) that holds the slice v, which owns a row of xs (elements of type e, one cell each); all from n₀ on. -/
structure Stk (w : World) (t e : TypeId) (n₀ b : Nat) (v : Value) (xs : List Value) : Prop where
  le : n₀ ≤ b
  box : Boxed w b t v
  row : w.ownsRow n₀ e 1 v xs.length xs

theorem ownsRow_turned {w w' : World} {n₀ : Nat} {e : TypeId} {v : Value} {k : Nat} {xs : List Value} {R : Nat → Prop} (h : w.ownsRow n₀ e 1 v k xs) (ht : Turned R w w') (hn : ∀ g, v.ownBlock = some g → ¬ R g) : w'.ownsRow n₀ e 1 v k xs := by
  obtain ⟨h1, h2⟩ := h
  refine ⟨h1, ?_⟩
  rcases h2 with h2 | ⟨g, cap, cur, rfl, hg, hh, r⟩
  · exact .inl h2
  · exact .inr ⟨g, cap, cur, rfl, hg, ht.heap hh (hn g rfl), r⟩

namespace Stk
variable {w w' : World} {t e : TypeId} {n₀ b : Nat} {v : Value} {xs : List Value}
theorem turned (h : Stk w t e n₀ b v xs) {R : Nat → Prop} (ht : Turned R w w') (hn : ∀ k, Foot b v k → ¬ R k) : Stk w' t e n₀ b v xs :=
  ⟨h.le, ht.boxed h.box (hn b (.inl rfl)), ownsRow_turned h.row ht (fun g hg => hn g (.inr hg))⟩
theorem lt (h : Stk w t e n₀ b v xs) : ∀ k, Foot b v k → n₀ ≤ k ∧ k < w.heap.size := by
  rintro k (rfl | hk)
  · exact ⟨h.le, h.box.lt⟩
  · exact h.row.lt k hk
theorem cells (h : Stk w t e n₀ b v xs) : ∀ (k : Nat) (o : Obj), Foot b v k → w.heap[k]? = some o → o.isCells = true := by
  rintro k o (rfl | hk) ho
  · rw [show w.heap[k]? = _ from h.box] at ho
    cases ho
    rfl
  · rcases h.row.2 with ⟨rfl, _⟩ | ⟨g, cap, cur, rfl, _, hgb, _⟩
    · simp [Value.ownBlock] at hk
    · obtain rfl : g = k := by simpa [Value.ownBlock] using hk
      rw [hgb] at ho
      cases ho
      rfl
/-- A stack lies as it lay behind whatever turns blocks that are no cells. -/
theorem grown (h : Stk w t e n₀ b v xs) {row : Option Nat} (hg : w.grownBy w' row) (hr : ∀ r, row = some r → ∃ o : Obj, w.heap[r]? = some o ∧ o.isCells = false) : Stk w' t e n₀ b v xs := by
  have key : ∀ k, Foot b v k → some k ≠ row := by
    intro k hk e'
    obtain ⟨o, ho, hc⟩ := hr k e'.symm
    rw [h.cells k o hk ho] at hc
    cases hc
  refine ⟨h.le, h.box.kept hg (key b (.inl rfl)), h.row.kept hg ?_⟩
  cases hv : v.ownBlock with
  | none => exact .inl rfl
  | some g => exact .inr (key g (.inr hv))
end Stk

/-- A slice that is empty or not: how it is written out. -/
theorem ownsRow_form {w : World} {n₀ : Nat} {e : TypeId} {v : Value} {k : Nat} {xs : List Value} (h : w.ownsRow n₀ e 1 v k xs) : ∃ a cap, v = .slice a k cap := by
  rcases h.2 with ⟨rfl, rfl⟩ | ⟨g, cap, _, rfl, _⟩
  · exact ⟨_, _, rfl⟩
  · exact ⟨_, _, rfl⟩

theorem stk_new (w : World) (t e : TypeId) (n₀ : Nat) (h : n₀ ≤ w.heap.size) : Stk (w.alloc (.cells #[.slice none 0 0] t)) t e n₀ w.heap.size (.slice none 0 0) [] :=
  ⟨h, Boxed.new w t _, World.ownsRow_nil _ _ _ _⟩

end Go.Proofs.Ytfckphcbleodbaa
