/-
  A region that draws its order and ends in one operation that waits for all others (a store): its class of worlds need not hold behind that one ('region_last': in the plain walk; 'region_last_round': within a round). Conditions: each theorem's own.
-/
import Derived.Test.YtoaicedkepcalaaTwo
import Derived.Test.YtoaicedkepcalaaHeldR
namespace Go.Proofs.Ytoaicedkepcalaa
section
variable {P : Program} {ops : Array Oper} {Q : Exit → Act → World → Prop} {md : Region.Mode} {C : World → Prop} {n : Nat}
/-- The walk: those ahead ('ps'), then the last one, i. -/
def wpLast (P : Program) (ops : Array Oper) (Q : Exit → Act → World → Prop) (C : World → Prop) (n i : Nat) : List Nat → Act → World → Prop
  | [], a, w => wpOpIn Fence.wide n P ops Q i (fun a' w' => Q .normal a' w') a w
  | p :: ps, a, w => match ops[p]? with
    | none => False
    | some o => if plainOp o.op then (∃ v, YieldsIf P ops C o v a ∧ wpLast P ops Q C n i ps (a.put o.dst v) w) else wpOpIn Fence.wide n P ops Q p (fun a' w' => C w' ∧ wpLast P ops Q C n i ps a' w') a w
def lastB (md : Region.Mode) (ops : Array Oper) (i : Nat) : List Nat → Array Bool → Bool
  | [], listed => Region.ready md ops listed == [i] && (Region.ready md ops (listed.setIfInBounds i true)).isEmpty
  | p :: ps, listed => (match ops[p]? with | none => false | some o => if plainOp o.op then (Region.ready md ops listed).contains p && Region.free md ops listed p && ancB md ops ops.size p i else Region.ready md ops listed == [p]) && p != i && lastB md ops i ps (listed.setIfInBounds p true)
theorem last_any {i : Nat} (hs : Region.noSelect ops = true) (hQ : ∀ c a d v w, Q (.panic c) (Act.put a d v) w → Q (.panic c) a w) : ∀ (ps : List Nat) (listed : Array Bool) (a : Act) (w : World), C w → Closed md ops listed → lastB md ops i ps listed = true → wpLast P ops Q C n i ps a w → anyB P md ops Q C n i (ps.length + 1) listed a w
  | [], listed, a, w, _, _, hB, h => by
    simp only [lastB, Bool.and_eq_true, beq_iff_eq] at hB
    obtain ⟨hr, hB2⟩ := hB
    refine ⟨fun h0 => (by rw [hr] at h0; cases h0), fun j hj => ?_⟩
    rw [hr] at hj
    obtain rfl : j = i := by simpa using hj
    refine wpOpIn_mono (fun a' w' h' => ?_) h
    rw [if_pos rfl]
    exact ⟨by simpa using hB2, h'⟩
  | p :: ps, listed, a, w, hC, hcl, hB, h => by
    simp only [lastB, Bool.and_eq_true, bne_iff_ne, ne_eq] at hB
    obtain ⟨⟨hB1, hpi⟩, hB2⟩ := hB
    unfold wpLast at h
    cases ho : ops[p]? with
    | none => simp [ho] at hB1
    | some o =>
      simp only [ho] at hB1 h
      by_cases hp : plainOp o.op = true
      · simp only [hp, if_true, Bool.and_eq_true] at hB1 h
        obtain ⟨⟨hr, hf⟩, hanc⟩ := hB1
        obtain ⟨v, hy, hk⟩ := h
        have hr' : p ∈ Region.ready md ops listed := by simpa using hr
        exact anyB_first ho hpi (ancB_sound _ _ _ hanc) (Region.noSelect_spec hs) (fun c a w => hQ c a _ v w) _ listed a w hcl (Region.free_spec ho hf) hr' hy hC (last_any hs hQ ps _ _ _ hC (closed_step hcl hr') hB2 hk)
      · simp only [hp, Bool.false_eq_true, if_false] at hB1 h
        have hr : Region.ready md ops listed = [p] := by simpa using hB1
        refine ⟨fun h0 => (by rw [hr] at h0; cases h0), fun j hj => ?_⟩
        rw [hr] at hj
        obtain rfl : j = p := by simpa using hj
        have hj' : j ∈ Region.ready md ops listed := by rw [hr]; simp
        refine wpOpIn_mono (fun a' w' h' => ?_) h
        rw [if_neg hpi]
        exact ⟨h'.1, last_any hs hQ ps _ _ _ h'.1 (closed_step hcl hj') hB2 h'.2⟩
end
section
variable {P : Program} {l : List Oper} {Q : Exit → Act → World → Prop} {C : World → Prop} {n : Nat} {i p : Nat} {ps : List Nat} {o : Oper} {a : Act} {w : World}
/-- The next operation is plain. -/
theorem lq (ho : nth l p = some o) (hp : plainOp o.op = true) (h : wpQuiet P l.toArray C (fun a' => wpLast P l.toArray Q C n i ps a' w) [o] a) : wpLast P l.toArray Q C n i (p :: ps) a w := by
  have ho' := (nth_eq l p).trans ho
  unfold wpLast
  simp only [ho', hp, if_true]
  unfold wpQuiet at h
  by_cases hw : Region.wanted o (yielded l.toArray a.tmps) = true
  · rw [if_pos hw] at h
    obtain ⟨v, hv, hk⟩ := h
    refine ⟨v, .inl ⟨hw, fun w1 hC => ?_⟩, hk⟩
    have h1 := hv w1 hC
    unfold Oper.quietAt at h1
    cases hr : (execOp a.eval o).run P w1 with
    | ok x w' =>
      rw [hr] at h1
      obtain ⟨u, rfl⟩ := plain_value hp hr
      simp only [Oper.quietUpon] at h1
      rw [h1.1, h1.2]
    | halt x w' => rw [hr] at h1; exact h1.elim
  · rw [if_neg hw] at h
    exact ⟨undef, .inr ⟨by simpa using hw, rfl⟩, h⟩
/-- The next operation is loud. -/
theorem ll (ho : nth l p = some o) (hp : plainOp o.op = false) (h : wpListIn Fence.wide n P l.toArray (Exit.then (fun a' w' => C w' ∧ wpLast P l.toArray Q C n i ps a' w') Q) [o] a w) : wpLast P l.toArray Q C n i (p :: ps) a w := by
  unfold wpLast
  simp only [(nth_eq l p).trans ho, hp, Bool.false_eq_true, if_false]
  exact loud_list ho h
/-- The last one. -/
theorem lz (ho : nth l i = some o) (h : wpListIn Fence.wide n P l.toArray (Exit.then (fun a' w' => Q .normal a' w') Q) [o] a w) : wpLast P l.toArray Q C n i [] a w := by
  unfold wpLast
  exact loud_list ho h
end
/-- **A REGION THAT DRAWS ITS ORDER AND ENDS IN ONE OPERATION**, in the plain walk. -/
theorem region_last {P : Program} {ops : Array Oper} {Q : Exit → Act → World → Prop} {id : Nat} {a : Act} {w : World} (ps : List Nat) (i : Nat) (S : World → Prop) (hm : P.follows .mixedOrders = true)
    (hB : (Region.noSelect ops && ps.length + 1 == ops.size && lastB .any ops i ps (Array.replicate ops.size false)) = true)
    (hS : S w.drew) (h : Nonempty (Wd S) → wpLast P ops (calm Q) (fun w' => ∃ x : Wd S, w' = x.w) 10 i ps a w.drew) : (Code.region id ops true).wp P Q a w := by
  simp only [Bool.and_eq_true, beq_iff_eq] at hB
  have := last_any (md := .any) hB.1.1 (Q := calm Q) (fun _ _ _ _ _ h => h) ps _ a _ (Wd.mem hS) (closed_start _) hB.2 (h ⟨⟨_, hS⟩⟩)
  rw [hB.1.2] at this
  exact (wpIn_wide (n := 10)).1 (Go.wpIn_mono (wpIn_region_any hm (wpAnyIn_of_anyB _ _ _ _ this)) (fun _ _ _ h => calm_imp h))
/-- .. within a round. -/
theorem region_last_round {P : Program} {ops : Array Oper} {Q : Exit → Act → World → Prop} {n l id : Nat} {a : Act} {w : World} (ps : List Nat) (i : Nat) (S : World → Prop) (hm : P.follows .mixedOrders = true) (hd : noDefer ops = true)
    (hB : (Region.noSelect ops && ps.length + 1 == ops.size && lastB .any ops i ps (Array.replicate ops.size false)) = true)
    (hS : S w.drew) (h : Nonempty (Wd S) → wpLast P ops (calm Q) (fun w' => ∃ x : Wd S, w' = x.w) n i ps a w.drew) : (Code.region id ops true).wpIn (Fence.wide.inRound l) n P Q a w := by
  simp only [Bool.and_eq_true, beq_iff_eq] at hB
  have := last_any (md := .any) hB.1.1 (Q := calm Q) (fun _ _ _ _ _ h => h) ps _ a _ (Wd.mem hS) (closed_start _) hB.2 (h ⟨⟨_, hS⟩⟩)
  rw [hB.1.2] at this
  exact Go.wpIn_mono (wpIn_region_any hm (wpAnyIn_inRound hd _ _ _ _ (wpAnyIn_of_anyB _ _ _ _ this))) (fun _ _ _ h => calm_imp h)
theorem last_done {Q : Exit → Act → World → Prop} {a : Act} {w : World} (h : Q .normal a w) : calm Q .normal a w := h
end Go.Proofs.Ytoaicedkepcalaa
