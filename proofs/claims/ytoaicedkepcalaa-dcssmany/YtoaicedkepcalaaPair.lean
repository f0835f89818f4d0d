/-
  Two memories that lie apart ('Pair': both were made since w, no block is both's, nothing that lay at w has turned); a region that draws its order, walked once in an order handed in, in the plain walk ('region_wide'). No conditions beyond each theorem's own.
-/
import Derived.Test.YtoaicedkepcalaaNow
import Derived.Test.YtoaicedkepcalaaHeld
import Derived.ControlIn
import Derived.TacticsInMore
import Derived.OwnWalkIn
namespace Go.Proofs.Ytoaicedkepcalaa
open Go.RowKit

/-- **A REGION THAT DRAWS ITS ORDER**, walked in the order 'is', in the plain walk. -/
theorem region_wide {P : Program} {ops : Array Oper} {Q : Exit → Act → World → Prop} {id : Nat} {a : Act} {w : World} (is : List Nat) (S : World → Prop) (hm : P.follows .mixedOrders = true)
    (hB : (Region.noSelect ops && is.length == ops.size && permB .any ops is (Array.replicate ops.size false)) = true)
    (hS : S w.drew) (h : Nonempty (Wd S) → wpPerm P ops (calm Q) (fun w' => ∃ x : Wd S, w' = x.w) 10 is a w.drew) : (Code.region id ops true).wp P Q a w :=
  (wpIn_wide (n := 10)).1 (region_calm is S hm hB hS h)

section
variable {T1 T2 : TypeId} {lay1 lay2 : Value → Int → Int → Int → Int → Array Value}
/-- Two memories made since w, that lie apart. -/
def Pair (T1 : TypeId) (lay1 : Value → Int → Int → Int → Int → Array Value) (T2 : TypeId) (lay2 : Value → Int → Int → Int → Int → Array Value) (w W : World) (b1 : Nat) (s1 : Mst) (b2 : Nat) (s2 : Mst) : Prop :=
  ∃ v1 v2, MemAt T1 lay1 W w.heap.size b1 v1 s1 ∧ MemAt T2 lay2 W w.heap.size b2 v2 s2 ∧ (∀ k, Foot b1 v1 k → ¬ Foot b2 v2 k) ∧ Kept w W

namespace Pair
variable {w W W' : World} {b1 b2 : Nat} {s1 s2 : Mst}
theorem swap (h : Pair T1 lay1 T2 lay2 w W b1 s1 b2 s2) : Pair T2 lay2 T1 lay1 w W b2 s2 b1 s1 := by
  obtain ⟨v1, v2, h1, h2, d, k⟩ := h
  exact ⟨v2, v1, h2, h1, fun i e e' => d i e' e, k⟩
theorem kept (h : Pair T1 lay1 T2 lay2 w W b1 s1 b2 s2) : Kept w W := by
  obtain ⟨_, _, _, _, _, k⟩ := h
  exact k
/-- What neither has may turn. -/
theorem turned (h : Pair T1 lay1 T2 lay2 w W b1 s1 b2 s2) {R : Nat → Prop} (t : Turned R W W') (hR : ∀ i, i < W.heap.size → R i → w.heap.size ≤ i) (hn : ∀ v1 v2, MemAt T1 lay1 W w.heap.size b1 v1 s1 → MemAt T2 lay2 W w.heap.size b2 v2 s2 → ∀ i, R i → ¬ Foot b1 v1 i ∧ ¬ Foot b2 v2 i) : Pair T1 lay1 T2 lay2 w W' b1 s1 b2 s2 := by
  obtain ⟨v1, v2, h1, h2, d, k⟩ := h
  exact ⟨v1, v2, h1.turned t (fun i e e' => (hn v1 v2 h1 h2 i e').1 e), h2.turned t (fun i e e' => (hn v1 v2 h1 h2 i e').2 e), d, Turned.trans k t (fun _ e => e) (fun i hi e => by have := hR i (Nat.lt_of_lt_of_le hi k.size) e; omega)⟩
theorem on (h : Pair T1 lay1 T2 lay2 w W b1 s1 b2 s2) (k' : Kept W W') : Pair T1 lay1 T2 lay2 w W' b1 s1 b2 s2 := by
  obtain ⟨v1, v2, h1, h2, d, k⟩ := h
  exact ⟨v1, v2, h1.kept k', h2.kept k', d, k.trans k'⟩
/-- A step of the first one. -/
theorem fst (h : Pair T1 lay1 T2 lay2 w W b1 s1 b2 s2) : ∃ v1, MemAt T1 lay1 W w.heap.size b1 v1 s1 ∧ ∀ W' s', Does T1 lay1 w.heap.size b1 v1 s' W W' → Pair T1 lay1 T2 lay2 w W' b1 s' b2 s2 := by
  obtain ⟨v1, v2, h1, h2, d, k⟩ := h
  refine ⟨v1, h1, fun W' s' hd => ?_⟩
  obtain ⟨v', h', t, hf⟩ := hd
  refine ⟨v', v2, h', h2.turned t (fun i e e' => d i e' e), fun i e e' => ?_, k.own (fun i e => (h1.lt i e).1) t⟩
  rcases hf i e with hi | hi
  · exact d i hi e'
  · have := (h2.lt i e').2
    omega
/-- A step of the second one. -/
theorem snd (h : Pair T1 lay1 T2 lay2 w W b1 s1 b2 s2) : ∃ v2, MemAt T2 lay2 W w.heap.size b2 v2 s2 ∧ ∀ W' s', Does T2 lay2 w.heap.size b2 v2 s' W W' → Pair T1 lay1 T2 lay2 w W' b1 s1 b2 s' := by
  obtain ⟨v2, h2, hs⟩ := h.swap.fst
  exact ⟨v2, h2, fun W' s' hd => (hs W' s' hd).swap⟩
/-- A second one, all of it new. -/
theorem of (h : ∃ v, MemAt T1 lay1 W w.heap.size b1 v s1) (hk : Kept w W) (h2 : ∃ v, MemAt T2 lay2 W' W.heap.size b2 v s2) (k : Kept W W') : Pair T1 lay1 T2 lay2 w W' b1 s1 b2 s2 := by
  obtain ⟨v1, h1⟩ := h
  obtain ⟨v2, h2⟩ := h2
  refine ⟨v1, v2, h1.kept k, h2.low hk.size, fun i e e' => ?_, hk.trans k⟩
  have a1 := (h1.lt i e).2
  have a2 := (h2.lt i e').1
  omega
theorem now1 (h : Pair 50 layP T2 lay2 w W b1 s1 b2 s2) : Now w W b1 s1 := by
  obtain ⟨v1, v2, h1, h2, d, k⟩ := h
  exact ⟨⟨v1, h1⟩, k⟩
theorem now2 (h : Pair T1 lay1 50 layP w W b1 s1 b2 s2) : Now w W b2 s2 := h.swap.now1
end Pair
end
end Go.Proofs.Ytoaicedkepcalaa
