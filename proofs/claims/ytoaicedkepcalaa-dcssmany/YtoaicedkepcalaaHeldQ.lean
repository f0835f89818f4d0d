/-
  A region that draws its order and whose operations keep to a class of worlds, calls too: walked once, in the order of its text. Conditions: each theorem's own.
-/
import Derived.Test.YtoaicedkepcalaaHeld
import Derived.BigQuiet
import Derived.Deep.QuietTactic
namespace Go.Proofs.Ytoaicedkepcalaa
theorem region_quiet {P : Program} {l : List Oper} {Q : Exit → Act → World → Prop} {id : Nat} {a : Act} {w : World} (S : World → Prop) (hm : P.follows .mixedOrders = true) (hB : Region.lexB .any l.toArray = true) (hS : S w.drew)
    (h : Nonempty (Wd S) → wpQuiet P l.toArray (fun w' => ∃ x : Wd S, w' = x.w) (fun a' => ∀ x : Wd S, Q .normal a' x.w) l a) : (Code.region id l.toArray true).wp P Q a w := by
  refine wp_region_quiet (C := fun w' => ∃ x : Wd S, w' = x.w) hm hB (Wd.mem hS) ?_
  have := h ⟨⟨_, hS⟩⟩
  have e : ∀ (l : List Oper) (a : Act), wpQuiet P l.toArray (fun w' => ∃ x : Wd S, w' = x.w) (fun a' => ∀ x : Wd S, Q .normal a' x.w) l a → True := fun _ _ _ => trivial
  have q : (fun a' => ∀ x : Wd S, Q .normal a' x.w) = (fun a' => ∀ w', (∃ x : Wd S, w' = x.w) → Q .normal a' w') := by
    funext a'
    exact propext ⟨fun h w' ⟨x, e⟩ => by rw [e]; exact h x, fun h x => h _ ⟨x, rfl⟩⟩
  rw [q] at this
  simpa using this
end Go.Proofs.Ytoaicedkepcalaa
