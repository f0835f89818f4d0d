/-
  A region that draws its order and whose last operations alone write: its head walked once, by the cheap quiet step.
-/
import Derived.StillTailTactics
import Derived.BigQuiet
import Derived.Deep.QuietTactic
namespace Go.Proofs.Ytfckphcbleodbaa

theorem still_of_quiet {P : Program} {ops : Array Oper} {w : World} {Q : Act → Prop} : ∀ (l : List Oper) (a : Act), wpQuiet P ops (fun w' => w' = w) Q l a → wpStill P ops w Q l a
  | [], _, h => h
  | o :: rest, a, h => by
    unfold wpQuiet at h
    unfold wpStill
    by_cases hw : Region.wanted o (yielded ops a.tmps) = true
    · rw [if_pos hw] at h ⊢
      obtain ⟨v, hv, hk⟩ := h
      have hq := hv w rfl
      unfold Oper.quietAt at hq
      unfold Oper.still
      generalize (execOp a.eval o).run P w = r at hq ⊢
      cases r with
      | ok n w' =>
        cases n <;> simp only [Oper.quietUpon] at hq <;> simp only [Oper.stillUpon]
        case value u =>
          obtain ⟨e1, rfl⟩ := hq
          exact ⟨e1, still_of_quiet rest _ hk⟩
        case skip =>
          obtain ⟨e1, rfl⟩ := hq
          exact ⟨e1, still_of_quiet rest _ hk⟩
        case enter f args =>
          obtain ⟨e1, hc⟩ := hq
          exact ⟨e1, v, hc, still_of_quiet rest _ hk⟩
      | _ => exact hq.elim
    · rw [if_neg hw] at h ⊢
      exact still_of_quiet rest _ h

theorem region_tail {P : Program} {id : Nat} {Q : Exit → Act → World → Prop} {a : Act} {w : World} {l : List Oper} (n : Nat) (hm : P.follows .mixedOrders = true) (hB : Region.lexTailB .any l.toArray n = true)
    (h : wpQuiet P l.toArray (fun w' => w' = w.drew) (fun a' => wpList P l.toArray Q (l.drop n) a' w.drew) (l.take n) a) : (Code.region id l.toArray true).wp P Q a w :=
  wp_region_still_tail n hm hB (still_of_quiet _ _ h)
end Go.Proofs.Ytfckphcbleodbaa
