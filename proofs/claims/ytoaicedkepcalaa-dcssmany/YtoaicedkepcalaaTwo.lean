/-
  A region that draws its order, in two parts: plain operations that all stand ahead of one loud one (a call that turns the world), and what comes behind it, walked in another class of worlds ('region_two': the order and the barrier are handed in). Conditions: each theorem's own.
-/
import Derived.Test.YtoaicedkepcalaaPair
namespace Go.Proofs.Ytoaicedkepcalaa
open Go.RowKit

section
variable {P : Program} {ops : Array Oper} {Q : Exit → Act → World → Prop} {md : Region.Mode} {C : World → Prop} {n : Nat}

/-- What is done has all done that it waits for. -/
def Closed (md : Region.Mode) (ops : Array Oper) (listed : Array Bool) : Prop :=
  ∀ (j : Nat) (o : Oper), ops[j]? = some o → listed.getD j false = true → ∀ e ∈ o.after, Region.binds md e = true → listed.getD e.on false = true
theorem closed_start (m : Nat) : Closed md ops (Array.replicate m false) := fun j o _ h => by
  exfalso
  rcases Nat.lt_or_ge j m with h' | h'
  · simp [h'] at h
  · simp [Nat.not_lt.2 h'] at h
theorem closed_step {listed : Array Bool} {j : Nat} (h : Closed md ops listed) (hj : j ∈ Region.ready md ops listed) : Closed md ops (listed.setIfInBounds j true) := by
  intro k o hk hl e he hb
  by_cases hkj : j = k
  · subst hkj
    obtain ⟨_, o', ho', hall⟩ := mem_ready.1 hj
    rw [hk] at ho'
    cases ho'
    exact getD_set_true (hall e he hb)
  · rw [getD_set_ne false hkj] at hl
    exact getD_set_true (h k o hk hl e he hb)

/-- p stands ahead of i. -/
inductive Anc (md : Region.Mode) (ops : Array Oper) : Nat → Nat → Prop
  | direct {i : Nat} {o : Oper} {e : Edge} : ops[i]? = some o → e ∈ o.after → Region.binds md e = true → Anc md ops e.on i
  | trans {p q i : Nat} : Anc md ops p q → Anc md ops q i → Anc md ops p i
theorem anc_done {listed : Array Bool} (hc : Closed md ops listed) {p i : Nat} (h : Anc md ops p i) : (∀ o, ops[i]? = some o → ∀ e ∈ o.after, Region.binds md e = true → listed.getD e.on false = true) → listed.getD p false = true := by
  induction h with
  | direct ho he hb => exact fun h => h _ ho _ he hb
  | trans _ _ ih1 ih2 => exact fun h => ih1 (fun o ho e he hb => hc _ o ho (ih2 h) e he hb)
def ancB (md : Region.Mode) (ops : Array Oper) : Nat → Nat → Nat → Bool
  | 0, _, _ => false
  | f + 1, p, i => match ops[i]? with
    | none => false
    | some o => o.after.any fun e => Region.binds md e && (e.on == p || ancB md ops f p e.on)
theorem ancB_sound : ∀ (f p i : Nat), ancB md ops f p i = true → Anc md ops p i
  | 0, _, _, h => by cases h
  | f + 1, p, i, h => by
    unfold ancB at h
    cases ho : ops[i]? with
    | none => rw [ho] at h; cases h
    | some o =>
      rw [ho] at h
      obtain ⟨e, he, hb⟩ := Array.any_eq_true'.1 h
      simp only [Bool.and_eq_true, Bool.or_eq_true, beq_iff_eq] at hb
      obtain ⟨h1, h2⟩ := hb
      have hd : Anc md ops e.on i := .direct ho he h1
      rcases h2 with h2 | h2
      · rw [← h2]
        exact hd
      · exact .trans (ancB_sound f p e.on h2) hd
theorem not_ready {listed : Array Bool} (hc : Closed md ops listed) {p i : Nat} (h : Anc md ops p i) (hp : p ∈ Region.ready md ops listed) : i ∉ Region.ready md ops listed := by
  intro hi
  obtain ⟨_, o, ho, hall⟩ := mem_ready.1 hi
  have h1 := anc_done hc h (fun o' ho' => by rw [ho] at ho'; cases ho'; exact hall)
  have h0 := (mem_ready.1 hp).1
  rcases Nat.lt_or_ge p listed.size with h' | h'
  · simp [h'] at h0 h1
    rw [h0] at h1
    cases h1
  · simp [Array.getElem?_eq_none h'] at h1

/-- Whatever order is picked, up to the barrier i; C holding behind every operation ahead of it. -/
def anyB (P : Program) (md : Region.Mode) (ops : Array Oper) (Q : Exit → Act → World → Prop) (C : World → Prop) (n i : Nat) : Nat → Array Bool → Act → World → Prop
  | 0, _, _, _ => False
  | fuel + 1, listed, a, w =>
    (Region.ready md ops listed = [] → Q .normal a w) ∧
    ∀ j ∈ Region.ready md ops listed, wpOpIn Fence.wide n P ops Q j (fun a' w' => if j = i then wpAnyIn Fence.wide n P md ops Q fuel (listed.setIfInBounds j true) a' w' else C w' ∧ anyB P md ops Q C n i fuel (listed.setIfInBounds j true) a' w') a w

theorem wpAnyIn_of_anyB {i : Nat} : ∀ (fuel : Nat) (listed : Array Bool) (a : Act) (w : World), anyB P md ops Q C n i fuel listed a w → wpAnyIn Fence.wide n P md ops Q fuel listed a w
  | 0, _, _, _, h => h.elim
  | fuel + 1, _, _, _, h => ⟨h.1, fun j hj => wpOpIn_mono (fun a' w' h' => by
      by_cases e : j = i
      · rw [if_pos e] at h'
        exact h'
      · rw [if_neg e] at h'
        exact wpAnyIn_of_anyB fuel _ a' w' h'.2) (h.2 j hj)⟩

theorem anyB_first {p i : Nat} {oi : Oper} {v : Value} (hi : ops[p]? = some oi) (hpi : p ≠ i) (hanc : Anc md ops p i) (hsel : ∀ (j : Nat) (o : Oper) cs b, ops[j]? = some o → o.op ≠ .select cs b)
    (hQ : ∀ c a w, Q (.panic c) (a.put oi.dst v) w → Q (.panic c) a w) :
    ∀ (fuel : Nat) (listed : Array Bool) (a : Act) (w : World), Closed md ops listed →
      (∀ j oj, ops[j]? = some oj → j ≠ p → listed.getD j true = false → (∀ e ∈ oj.after, Region.binds md e = true → e.on ≠ p) → oi.apart ops oj = true) →
      p ∈ Region.ready md ops listed → YieldsIf P ops C oi v a → C w →
      anyB P md ops Q C n i fuel (listed.setIfInBounds p true) (a.put oi.dst v) w → anyB P md ops Q C n i (fuel + 1) listed a w := by
  intro fuel
  induction fuel with
  | zero =>
    intro listed a w _ _ _ _ _ H
    exact H.elim
  | succ fuel ih =>
    intro listed a w hcl hfree hr hy hS H
    refine ⟨fun h => (by rw [h] at hr; cases hr), fun j hj => ?_⟩
    by_cases hjp : j = p
    · subst hjp
      refine yieldsIf_wpOpIn hi hy hS ?_
      rw [if_neg hpi]
      exact ⟨hS, H⟩
    · have hji : j ≠ i := fun e => not_ready hcl hanc hr (e ▸ hj)
      have h1 := H.2 j (ready_mono hj hjp)
      simp only [if_neg hji] at h1 ⊢
      obtain ⟨hjun, oj, hoj, hall⟩ := mem_ready.1 hj
      have hnot : ∀ e ∈ oj.after, Region.binds md e = true → e.on ≠ p := fun e he hb heq => by
        have h1 := hall e he hb
        have h0 := (mem_ready.1 hr).1
        rw [heq] at h1
        rcases Nat.lt_or_ge p listed.size with h' | h'
        · simp [h'] at h0 h1; rw [h0] at h1; cases h1
        · simp [Array.getElem?_eq_none h'] at h1
      have h2 := wpOpIn_putIf hoj (hfree j oj hoj hjp hjun hnot) (fun cs b => hsel p oi cs b hi) (fun cs b => hsel j oj cs b hoj) hQ hy h1
      have hfree' : ∀ k ok, ops[k]? = some ok → k ≠ p → (listed.setIfInBounds j true).getD k true = false →
          (∀ e ∈ ok.after, Region.binds md e = true → e.on ≠ p) → oi.apart ops ok = true := fun k ok hk hki hun hno => by
        refine hfree k ok hk hki ?_ hno
        by_cases hjk : j = k
        · subst hjk; exact hjun
        · rw [getD_set_ne true hjk] at hun; exact hun
      refine wpOpIn_mono (fun a' w' h3 => ⟨h3.2.1, ih (listed.setIfInBounds j true) a' w' (closed_step hcl hj) hfree' (ready_mono hr (Ne.symm hjp)) h3.1 h3.2.1 ?_⟩) h2
      rw [Array.setIfInBounds_comm _ _ hjp]
      exact h3.2.2

/-- The walk: the plain ones 'ps', the barrier i, then 'is' in the class C2. -/
def wpTwo (P : Program) (ops : Array Oper) (Q : Exit → Act → World → Prop) (C : World → Prop) (n i : Nat) (is : List Nat) : List Nat → Act → World → Prop
  | [], a, w => wpOpIn Fence.wide n P ops Q i (fun a' w' => ∃ S2 : World → Prop, S2 w' ∧ wpPerm P ops Q (fun V => ∃ x : Wd S2, V = x.w) n is a' w') a w
  | p :: ps, a, w => match ops[p]? with
    | none => False
    | some o => ∃ v, YieldsIf P ops C o v a ∧ wpTwo P ops Q C n i is ps (a.put o.dst v) w
def twoB (md : Region.Mode) (ops : Array Oper) (i : Nat) (is : List Nat) : List Nat → Array Bool → Bool
  | [], listed => Region.ready md ops listed == [i] && permB md ops is (listed.setIfInBounds i true)
  | p :: ps, listed => (match ops[p]? with | none => false | some o => plainOp o.op && (Region.ready md ops listed).contains p && Region.free md ops listed p) && p != i && ancB md ops ops.size p i && twoB md ops i is ps (listed.setIfInBounds p true)

theorem two_any {i : Nat} {is : List Nat} (hs : Region.noSelect ops = true) (hQ : ∀ c a d v w, Q (.panic c) (Act.put a d v) w → Q (.panic c) a w) : ∀ (ps : List Nat) (listed : Array Bool) (a : Act) (w : World), C w → Closed md ops listed → twoB md ops i is ps listed = true → wpTwo P ops Q C n i is ps a w → anyB P md ops Q C n i (ps.length + (is.length + 1)) listed a w
  | [], listed, a, w, _, _, hB, h => by
    simp only [twoB, Bool.and_eq_true, beq_iff_eq] at hB
    obtain ⟨hr, hB2⟩ := hB
    simp only [List.length_nil, Nat.zero_add]
    refine ⟨fun h0 => (by rw [hr] at h0; cases h0), fun j hj => ?_⟩
    rw [hr] at hj
    obtain rfl : j = i := by simpa using hj
    refine wpOpIn_mono (fun a' w' h' => ?_) h
    rw [if_pos rfl]
    obtain ⟨S2, h1, h2⟩ := h'
    exact wpAnyIn_of_anyC _ _ _ _ (perm_any hs hQ is _ _ _ (Wd.mem h1) hB2 h2)
  | p :: ps, listed, a, w, hC, hcl, hB, h => by
    simp only [twoB, Bool.and_eq_true, bne_iff_ne, ne_eq] at hB
    obtain ⟨⟨⟨hB1, hpi⟩, hanc⟩, hB2⟩ := hB
    unfold wpTwo at h
    cases ho : ops[p]? with
    | none => simp [ho] at hB1
    | some o =>
      simp only [ho, Bool.and_eq_true] at hB1 h
      obtain ⟨⟨hp, hr⟩, hf⟩ := hB1
      obtain ⟨v, hy, hk⟩ := h
      have hr' : p ∈ Region.ready md ops listed := by simpa using hr
      rw [List.length_cons, Nat.add_right_comm]
      exact anyB_first ho hpi (ancB_sound _ _ _ hanc) (Region.noSelect_spec hs) (fun c a w => hQ c a _ v w) _ listed a w hcl (Region.free_spec ho hf) hr' hy hC (two_any hs hQ ps _ _ _ hC (closed_step hcl hr') hB2 hk)
end

section
variable {P : Program} {l : List Oper} {Q : Exit → Act → World → Prop} {C : World → Prop} {n : Nat} {i p : Nat} {is ps : List Nat} {o : Oper} {a : Act} {w : World}
/-- The next operation is plain. -/
theorem tq (ho : nth l p = some o) (hp : plainOp o.op = true) (h : wpQuiet P l.toArray C (fun a' => wpTwo P l.toArray Q C n i is ps a' w) [o] a) : wpTwo P l.toArray Q C n i is (p :: ps) a w := by
  unfold wpTwo
  simp only [(nth_eq l p).trans ho]
  unfold wpQuiet at h
  by_cases hw : Region.wanted o (yielded l.toArray a.tmps) = true
  · rw [if_pos hw] at h
    obtain ⟨v, hv, hk⟩ := h
    refine ⟨v, .inl ⟨hw, fun w1 hC => ?_⟩, hk⟩
    have h1 := hv w1 hC
    unfold Oper.quietAt at h1
    cases hr : (execOp a.eval o).run P w1 with
    | ok x w' =>
      rw [hr] at h1
      obtain ⟨u, rfl⟩ := plain_value hp hr
      simp only [Oper.quietUpon] at h1
      rw [h1.1, h1.2]
    | halt x w' => rw [hr] at h1; exact h1.elim
  · rw [if_neg hw] at h
    exact ⟨undef, .inr ⟨by simpa using hw, rfl⟩, h⟩
/-- A loud operation alone. -/
theorem loud_list {K : Act → World → Prop} (ho : nth l i = some o) (h : wpListIn Fence.wide n P l.toArray (Exit.then K Q) [o] a w) : wpOpIn Fence.wide n P l.toArray Q i K a w := by
  unfold wpOpIn
  simp only [(nth_eq l i).trans ho]
  unfold wpListIn at h
  split
  · rename_i hw
    rw [if_pos hw] at h
    unfold Oper.wpIn at h ⊢
    refine ⟨h.1, ?_⟩
    have h := h.2
    generalize (o.semAt Fence.wide.round a.eval).run P w = r at h ⊢
    cases r with
    | ok x w' =>
      cases x <;> simp only [Oper.uponIn, wpListIn, Exit.then] at h ⊢ <;> exact h
    | halt x w' => cases x <;> simp only [Oper.uponIn, Exit.then] at h ⊢ <;> exact h
  · rename_i hw
    rw [if_neg hw] at h
    exact h
/-- The barrier. -/
theorem tl (ho : nth l i = some o) (h : wpListIn Fence.wide n P l.toArray (Exit.then (fun a' w' => ∃ S2 : World → Prop, S2 w' ∧ wpPerm P l.toArray Q (fun V => ∃ x : Wd S2, V = x.w) n is a' w') Q) [o] a w) : wpTwo P l.toArray Q C n i is [] a w := by
  unfold wpTwo
  exact loud_list ho h
end

/-- **A REGION THAT DRAWS ITS ORDER, IN TWO PARTS**, in the plain walk. -/
theorem region_two {P : Program} {ops : Array Oper} {Q : Exit → Act → World → Prop} {id : Nat} {a : Act} {w : World} (ps : List Nat) (i : Nat) (is : List Nat) (S : World → Prop) (hm : P.follows .mixedOrders = true)
    (hB : (Region.noSelect ops && ps.length + (is.length + 1) == ops.size && twoB .any ops i is ps (Array.replicate ops.size false)) = true)
    (hS : S w.drew) (h : Nonempty (Wd S) → wpTwo P ops (calm Q) (fun w' => ∃ x : Wd S, w' = x.w) 10 i is ps a w.drew) : (Code.region id ops true).wp P Q a w := by
  simp only [Bool.and_eq_true, beq_iff_eq] at hB
  have := two_any (md := .any) hB.1.1 (fun _ _ _ _ _ h => h) ps _ a _ (Wd.mem hS) (closed_start _) hB.2 (h ⟨⟨_, hS⟩⟩)
  rw [hB.1.2] at this
  exact (wpIn_wide (n := 10)).1 (Go.wpIn_mono (wpIn_region_any hm (wpAnyIn_of_anyB _ _ _ _ this)) (fun _ _ _ h => calm_imp h))
end Go.Proofs.Ytoaicedkepcalaa
