/-
  Loops over iterators, once more: the frame that a round begins with is found by the walk ('wp_range2'); a function that leaves with marks of such loops ('leave_marks'). Conditions: each theorem's own.
-/
import Derived.Test.YtfckphcbleodbaaIter
import Derived.Test.YtfckphcbleodbaaTree
namespace Go.Proofs.Ytfckphcbleodbaa
open Go.RowKit

theorem wp_range2 {P : Program} {α : Type} {g : Operand} {ps : Array Tmp} {assign body : Code} {Q : Exit → Act → World → Prop} {a : Act} {w : World}
    {gf : Nat} {lb : Array Value} (hg : a.eval g = .func (.func gf) #[] lb) (eg : ∀ args w, (callFunc gf args).run P w = .ok (.enter gf args) w)
    {encs : α → Array Value} {xs : List α} {R : Nat → Prop} (hit : ∀ W, Turned (fun _ => False) w W → Iter P gf lb encs xs R W) (hps : ∀ x, (encs x).size = ps.size)
    (O₀ : Nat → Prop) (I : Inv α) (Ix : Code → Inv α) (hR : ∀ k, R k → k < w.heap.size ∧ ¬ O₀ k) (hI : Good I) (hIx : ∀ c, Good (Ix c)) (h0 : I O₀ [] w)
    (hab : ∃ a₁ : α → Act, (∀ (l : Nat) (x : α) (W : World) (K : Act → World → Prop), K (a₁ x) W →
        assign.wpIn (Fence.wide.inRound l) 9 P (Exit.then K (fun _ _ _ => False)) { tmps := (ps.zip (encs x)).foldl (fun t (p, v) => t.setIfInBounds p v) a.tmps, defers := [] } W) ∧
      (∀ (l : Nat) (O : Nat → Prop) (pre : List α) (x : α) (rest : List α) (W : World), xs = pre ++ x :: rest → Turned O₀ w W → Sub O O₀ w.heap.size → I O pre W →
        body.wpIn (Fence.wide.inRound l) 9 P (BodyEnds I Ix O (pre ++ [x]) W) (a₁ x) W))
    (hdone : ∀ (D : Nat) (O : Nat → Prop) (W : World), w.heap.size ≤ D → ¬ O D → Turned O₀ w W → Sub O O₀ w.heap.size → I O xs W → W.heap[D]? = some (.deferred (some [])) →
      Q .normal { a with defers := { target := .collected D, args := #[] } :: a.defers } W)
    (hstop : ∀ (D : Nat) (O : Nat → Prop) (c : Code) (pre rest : List α) (W : World), w.heap.size ≤ D → ¬ O D → Turned O₀ w W → Sub O O₀ w.heap.size → xs = pre ++ rest → Ix c O pre W → W.heap[D]? = some (.deferred (some [])) →
      c.wp P Q { a with defers := { target := .collected D, args := #[] } :: a.defers } W) :
    (Code.rangeFunc g ps assign body).wp P Q a w := by
  obtain ⟨a₁, h1, h2⟩ := hab
  exact wp_range' hg eg hit hps O₀ I Ix hR hI hIx h0 a₁ h1 h2 hdone hstop

/-- A mark of a loop over an iterator. -/
abbrev markOf (D : Nat) : Deferred := { target := .collected D, args := #[] }

theorem leave_marks {F : Fence} {n : Nat} {P : Program} {fn : Func} {tmps : Array Value} {R : Ending → World → Prop} : ∀ (Ds : List Nat) (X : World), (∀ D ∈ Ds, X.heap[D]? = some (.deferred (some []))) → Ds.Nodup →
    (∀ X', Turned (fun k => k ∈ Ds) X X' → ∃ v, (results fn tmps).run P X' = .ok v X' ∧ R (.returned v) X') → LeavesInM F n P fn tmps R (Ds.map markOf) .returning X
  | [], X, _, _, h => h X (Turned.refl _ _)
  | D :: Ds, X, hD, hn, h => by
    have h1 := hD D (List.mem_cons_self ..)
    obtain ⟨hn1, hn2⟩ := List.nodup_cons.1 hn
    refine ⟨by simp, .inl ⟨D, _, rfl, run_takeDeferred h1, leave_marks Ds _ (fun E hE => ?_) hn2 (fun X' hX' => h X' ?_)⟩⟩
    · exact (World.putObj_heap_other (fun e => hn1 (by rw [← e]; exact hE))).trans (hD E (List.mem_cons_of_mem _ hE))
    · exact (Turned.putObj (R := fun k => k = D) X D _ rfl).trans hX' (fun _ e => List.mem_cons.2 (.inl e)) (fun _ _ e => List.mem_cons_of_mem _ e)

/-- What lay at w0 stays behind a step that turns a later block. -/
theorem Kept.did {w0 w w' : World} {b : Nat} (k : Kept w0 w) (hb : w0.heap.size ≤ b) (h : Turned (fun i => i = b) w w') : Kept w0 w' :=
  Turned.trans k h (fun _ e => e) (fun i hi e => by omega)
theorem Kept.own {w0 w w' : World} {O : Nat → Prop} (k : Kept w0 w) (hb : ∀ i, O i → w0.heap.size ≤ i) (h : Turned O w w') : Kept w0 w' :=
  Turned.trans k h (fun _ e => e) (fun i hi e => by have := hb i e; omega)
end Go.Proofs.Ytfckphcbleodbaa
