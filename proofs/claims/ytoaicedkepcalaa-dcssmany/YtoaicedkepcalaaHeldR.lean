/-
  A region that draws its order, within a round of a loop over an iterator: walked as outside of it ('region_round'). Conditions: each theorem's own.
-/
import Derived.Test.YtoaicedkepcalaaHeld
namespace Go.Proofs.Ytoaicedkepcalaa

/-- No operation defers. -/
def noDefer (ops : Array Oper) : Bool := ops.all (fun o => match o.op with | .defer _ => false | _ => true)
theorem noDefer_at {ops : Array Oper} (h : noDefer ops = true) {i : Nat} {o : Oper} (ho : ops[i]? = some o) (c : Call) : o.op ≠ .defer c := by
  intro e
  obtain ⟨hi, e2⟩ := Array.getElem?_eq_some_iff.1 ho
  have := (Array.all_eq_true.1 h) i hi
  rw [e2, e] at this
  cases this
section
variable {P : Program} {ops : Array Oper} {Q : Exit → Act → World → Prop} {md : Region.Mode} {n : Nat}
theorem wpOpIn_inRound {l i : Nat} {K : Act → World → Prop} {a : Act} {w : World} (hd : noDefer ops = true) (h : wpOpIn Fence.wide n P ops Q i K a w) : wpOpIn (Fence.wide.inRound l) n P ops Q i K a w := by
  unfold wpOpIn at *
  cases ho : ops[i]? with
  | none => simpa [ho] using h
  | some o =>
    simp only [ho] at h ⊢
    split
    · rename_i hw
      rw [if_pos hw] at h
      unfold Oper.wpIn at *
      refine ⟨h.1, ?_⟩
      have h2 := h.2
      rw [show Fence.wide.round = none from rfl, Oper.semAt_none] at h2
      rw [Fence.inRound_round, Oper.semAt_some l _ o (noDefer_at hd ho)]
      generalize (execOp a.eval o).run P w = r at *
      cases r with
      | ok x w' => cases x <;> exact h2
      | halt x w' => cases x <;> exact h2
    · rename_i hw
      rw [if_neg hw] at h
      exact h
theorem wpAnyIn_inRound {l : Nat} (hd : noDefer ops = true) : ∀ (fuel : Nat) (listed : Array Bool) (a : Act) (w : World), wpAnyIn Fence.wide n P md ops Q fuel listed a w → wpAnyIn (Fence.wide.inRound l) n P md ops Q fuel listed a w
  | 0, _, _, _, h => h
  | fuel + 1, _, _, _, h => ⟨h.1, fun i hi => wpOpIn_mono (fun a' w' h' => wpAnyIn_inRound hd fuel _ a' w' h') (wpOpIn_inRound hd (h.2 i hi))⟩
theorem region_perm_round {l id : Nat} {a : Act} {w : World} (is : List Nat) (C : World → Prop) (hm : P.follows .mixedOrders = true) (hd : noDefer ops = true)
    (hB : (Region.noSelect ops && is.length == ops.size && permB .any ops is (Array.replicate ops.size false)) = true) (hQ : ∀ c a d v w, Q (.panic c) (Act.put a d v) w → Q (.panic c) a w)
    (hC : C w.drew) (h : wpPerm P ops Q C n is a w.drew) : (Code.region id ops true).wpIn (Fence.wide.inRound l) n P Q a w := by
  simp only [Bool.and_eq_true, beq_iff_eq] at hB
  have := perm_any (md := .any) hB.1.1 hQ is _ a _ hC hB.2 h
  rw [hB.1.2] at this
  exact wpIn_region_any hm (wpAnyIn_inRound hd _ _ _ _ (wpAnyIn_of_anyC _ _ _ _ this))
end
/-- **A REGION THAT DRAWS ITS ORDER**, in a round, walked in the order 'is'. -/
theorem region_round {P : Program} {ops : Array Oper} {Q : Exit → Act → World → Prop} {n l id : Nat} {a : Act} {w : World} (is : List Nat) (S : World → Prop) (hm : P.follows .mixedOrders = true) (hd : noDefer ops = true)
    (hB : (Region.noSelect ops && is.length == ops.size && permB .any ops is (Array.replicate ops.size false)) = true)
    (hS : S w.drew) (h : Nonempty (Wd S) → wpPerm P ops (calm Q) (fun w' => ∃ x : Wd S, w' = x.w) n is a w.drew) : (Code.region id ops true).wpIn (Fence.wide.inRound l) n P Q a w :=
  Go.wpIn_mono (region_perm_round is _ hm hd hB (fun _ _ _ _ _ h => h) (Wd.mem hS) (h ⟨⟨_, hS⟩⟩)) (fun _ _ _ h => calm_imp h)
end Go.Proofs.Ytoaicedkepcalaa
