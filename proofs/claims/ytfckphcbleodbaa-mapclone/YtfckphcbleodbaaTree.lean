/-
  Search trees as they lie ('Lies'): a node is a block of five cells: key, value, two sides, height; what they hold, in order ('Tr.list'). No number of the program in it, but for T, the nodes' type. No conditions beyond each theorem's own.
-/
import Derived.Test.YtfckphcbleodbaaMem
import Derived.Test.YtfckphcbleodbaaHeld
namespace Go.Proofs.Ytfckphcbleodbaa
open Go.RowKit

/-- Of what lay nothing has turned. -/
abbrev Kept (w w' : World) : Prop := Turned (fun _ => False) w w'
theorem Kept.refl (w : World) : Kept w w := Turned.refl _ w
theorem Kept.trans {a b c : World} (h : Kept a b) (k : Kept b c) : Kept a c := Turned.trans h k (fun _ e => e) (fun _ _ e => e)
theorem Kept.drew (w : World) : Kept w w.drew := ⟨rfl, rfl, rfl, Nat.le_refl _, fun _ _ _ => rfl⟩
theorem Kept.then {R : Nat → Prop} {a b c : World} (h : Kept a b) (k : Turned R b c) : Turned R a c := Turned.trans h k (fun _ e => e.elim) (fun _ _ e => e)
theorem Kept.behind {R : Nat → Prop} {a b c : World} (h : Turned R a b) (k : Kept b c) : Turned R a c := Turned.trans h k (fun _ e => e) (fun _ _ e => e.elim)

/-- A search tree. -/
inductive Tr (α β : Type) where
  | nil
  | node (l : Tr α β) (k : α) (v : β) (r : Tr α β)

variable {α β : Type}
namespace Tr
def list : Tr α β → List (α × β)
  | nil => []
  | node l k v r => l.list ++ (k, v) :: r.list
def ht : Tr α β → Nat
  | nil => 0
  | node l _ _ r => 1 + max l.ht r.ht
theorem ht_le : (t : Tr α β) → t.ht ≤ t.list.length
  | nil => Nat.le_refl _
  | node l k v r => by
    have := ht_le l
    have := ht_le r
    simp only [ht, list, List.length_append, List.length_cons]
    omega
theorem length_node (l : Tr α β) (k : α) (v : β) (r : Tr α β) : (node l k v r).list.length = l.list.length + r.list.length + 1 := by
  simp only [list, List.length_append, List.length_cons]
  omega
end Tr

/-- A node's block. -/
def NodeAt (T : TypeId) (w : World) (b : Nat) (k v pl pr : Value) (h : Int) : Prop := w.heap[b]? = some (.cells #[k, v, pl, pr, .int .i64 h] T)

/-- A tree lies at a pointer. -/
def Lies (T : TypeId) (ek : α → Value) (ev : β → Value) (w : World) : Tr α β → Value → Prop
  | .nil, p => p = .pointer none
  | .node l k v r, p => ∃ b pl pr, p = .pointer (some ⟨b, 0, none⟩) ∧ NodeAt T w b (ek k) (ev v) pl pr ((Tr.node l k v r).ht : Int) ∧ Lies T ek ev w l pl ∧ Lies T ek ev w r pr

theorem NodeAt.lt {T : TypeId} {w : World} {b : Nat} {k v pl pr : Value} {h : Int} (hn : NodeAt T w b k v pl pr h) : b < w.heap.size := (Array.getElem?_eq_some_iff.1 hn).1
theorem NodeAt.cells {T : TypeId} {w : World} {b : Nat} {k v pl pr : Value} {h : Int} (hn : NodeAt T w b k v pl pr h) :
    w.cell? ⟨b, 0, none⟩ = some k ∧ w.cell? ⟨b, 1, none⟩ = some v ∧ w.cell? ⟨b, 2, none⟩ = some pl ∧ w.cell? ⟨b, 3, none⟩ = some pr ∧ w.cell? ⟨b, 4, none⟩ = some (.int .i64 h) := by
  unfold NodeAt at hn
  simp [World.cell?, hn]
theorem NodeAt.turned {T : TypeId} {w w' : World} {b : Nat} {k v pl pr : Value} {h : Int} (hn : NodeAt T w b k v pl pr h) {R : Nat → Prop} (ht : Turned R w w') (hR : ¬ R b) : NodeAt T w' b k v pl pr h := ht.heap hn hR
theorem NodeAt.kept {T : TypeId} {w w' : World} {b : Nat} {k v pl pr : Value} {h : Int} (hn : NodeAt T w b k v pl pr h) (ht : Kept w w') : NodeAt T w' b k v pl pr h := ht.heap hn id

/-- The blocks that are nodes. -/
def IsNode (T : TypeId) (w : World) (k : Nat) : Prop := ∃ cs, w.heap[k]? = some (.cells cs T)
theorem NodeAt.is {T : TypeId} {w : World} {b : Nat} {k v pl pr : Value} {h : Int} (hn : NodeAt T w b k v pl pr h) : IsNode T w b := ⟨_, hn⟩

theorem Lies.turned {T : TypeId} {ek : α → Value} {ev : β → Value} {w w' : World} {R : Nat → Prop} (ht : Turned R w w') (hR : ∀ k, IsNode T w k → ¬ R k) : {t : Tr α β} → {p : Value} → Lies T ek ev w t p → Lies T ek ev w' t p
  | .nil, _, h => h
  | .node _ _ _ _, _, ⟨b, pl, pr, e, hn, hl, hr⟩ => ⟨b, pl, pr, e, hn.turned ht (hR b hn.is), Lies.turned ht hR hl, Lies.turned ht hR hr⟩
theorem Lies.kept {T : TypeId} {ek : α → Value} {ev : β → Value} {w w' : World} {t : Tr α β} {p : Value} (h : Lies T ek ev w t p) (ht : Kept w w') : Lies T ek ev w' t p := h.turned ht (fun _ _ e => e)

theorem Lies.pointer {T : TypeId} {ek : α → Value} {ev : β → Value} {w : World} : {t : Tr α β} → {p : Value} → Lies T ek ev w t p → ∃ a, p = .pointer a
  | .nil, _, h => ⟨none, h⟩
  | .node _ _ _ _, _, ⟨_, _, _, e, _⟩ => ⟨_, e⟩

/-- A tree that lies behind a step, of which nothing that lay has turned. -/
def Made (T : TypeId) (ek : α → Value) (ev : β → Value) (xs : List (α × β)) (w : World) (e : Ending) (w' : World) : Prop :=
  ∃ p t, e = .returned p ∧ Lies T ek ev w' t p ∧ t.list = xs ∧ Kept w w'

end Go.Proofs.Ytfckphcbleodbaa
