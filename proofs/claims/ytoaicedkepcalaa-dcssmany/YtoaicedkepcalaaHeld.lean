/-
  A region that draws its order, holds loads, and calls that turn the world: walked once, in an order that is handed in ('region_perm'): its plain operations (loads, addresses, arithmetic) yield one value in every world of a class C; its loud ones (calls, boxes, stores) come up alone, and leave a world of C. Conditions: each theorem's own.
-/
import Derived.OrdersHeld
import Derived.OrdersIn
import Derived.Deep.Quiet
import Derived.TacticsIn
namespace Go.Proofs.Ytoaicedkepcalaa

/-- An operation that, where it comes to its end, yields a value. -/
def plainOp : Op → Bool
  | .move _ | .assign _ | .pick .. | .build .. | .load .. | .nilCheck _ | .binOp .. | .unOp .. | .convert .. | .slice .. | .fieldAddr .. | .field .. | .indexAddr .. | .index .. | .extract .. => true
  | .call { callee := .builtin .len, .. } => true
  | _ => false

theorem andThen_ok' {α β : Type} {r : Result α} {f : α → World → Result β} {b : β} {w' : World} (h : r.andThen f = .ok b w') : ∃ a w1, r = .ok a w1 ∧ f a w1 = .ok b w' := by
  cases r with
  | ok a w1 => exact ⟨a, w1, rfl, h⟩
  | halt x w1 => cases h

theorem value_of_then {P : Program} {w w' : World} {s : Sem Value} {n : Next} (h : (do pure (.value (← s)) : Sem Next).run P w = .ok n w') : ∃ u, n = .value u := by
  simp only [Sem.run_bind, Sem.run_pure] at h
  obtain ⟨u, w1, _, h2⟩ := andThen_ok' h
  cases h2
  exact ⟨u, rfl⟩

theorem plain_value {P : Program} {o : Oper} {ρ : Operand → Value} {w w' : World} {n : Next} (hp : plainOp o.op = true) (h : (execOp ρ o).run P w = .ok n w') : ∃ u, n = .value u := by
  unfold execOp at h
  cases ho : o.op
  case call c =>
    obtain ⟨callee, as, ts⟩ := c
    rw [ho] at hp h
    unfold plainOp at hp
    split at hp
    all_goals try (rename_i heq; simp at heq; done)
    all_goals try (cases hp; done)
    rename_i heq
    simp only [Op.call.injEq, Call.mk.injEq] at heq
    obtain ⟨rfl, rfl, rfl⟩ := heq
    simp only [resolve, invoke, builtin, Sem.run_bind, Sem.run_pure, Result.andThen_ok] at h
    obtain ⟨u, w1, _, h2⟩ := andThen_ok' h
    cases h2
    exact ⟨_, rfl⟩
  all_goals simp only [ho, plainOp, Bool.false_eq_true] at hp h
  case move => simp only [Sem.run_pure] at h; cases h; exact ⟨_, rfl⟩
  case assign => simp only [Sem.run_pure] at h; cases h; exact ⟨_, rfl⟩
  case pick =>
    simp only [Sem.run_bind, Sem.run_pure] at h
    obtain ⟨u, w1, _, h2⟩ := andThen_ok' h
    cases h2
    exact ⟨_, rfl⟩
  case nilCheck =>
    split at h
    all_goals try (simp [go_sem] at h; done)
    · split at h
      · simp [go_sem] at h
      · simp only [Sem.run_bind] at h
        obtain ⟨u, w1, _, h2⟩ := andThen_ok' h
        obtain ⟨u2, w2, _, h3⟩ := andThen_ok' h2
        split at h3
        · simp only [Sem.run_bind, Sem.run_pure] at h3
          obtain ⟨u4, w4, h4, h5⟩ := andThen_ok' h3
          cases h5
          exact ⟨_, rfl⟩
        · simp only [Sem.run_pure] at h3
          cases h3
          exact ⟨_, rfl⟩
      · simp only [Sem.run_pure] at h; cases h; exact ⟨_, rfl⟩
    · simp only [Sem.run_pure] at h; cases h; exact ⟨_, rfl⟩
  all_goals exact value_of_then h

section
variable {P : Program} {ops : Array Oper} {Q : Exit → Act → World → Prop} {md : Region.Mode} {C : World → Prop} {n : Nat}

theorem yieldsIf_wpOpIn {i : Nat} {o : Oper} {v : Value} {a : Act} (hi : ops[i]? = some o) (hy : YieldsIf P ops C o v a)
    {K : Act → World → Prop} {w : World} (hC : C w) (h : K (a.put o.dst v) w) : wpOpIn Fence.wide n P ops Q i K a w := by
  unfold Go.wpOpIn
  simp only [hi]
  rcases hy with ⟨hw, hv⟩ | ⟨hw, rfl⟩
  · simp only [hw, if_true, Oper.wpIn, show Fence.wide.round = none from rfl, Oper.semAt_none, hv w hC, Oper.uponIn]; exact ⟨fun _ _ => trivial, h⟩
  · simp only [hw, Bool.false_eq_true, if_false]; exact ⟨fun _ _ => trivial, h⟩

theorem wpOpIn_putIf {j : Nat} {oi oj : Oper} {v : Value} (hj : ops[j]? = some oj) (hap : oi.apart ops oj = true)
    (hsi : ∀ cs b, oi.op ≠ .select cs b) (hsj : ∀ cs b, oj.op ≠ .select cs b)
    (hQ : ∀ c a w, Q (.panic c) (a.put oi.dst v) w → Q (.panic c) a w) {K : Act → World → Prop} {a : Act} {w : World}
    (hy : YieldsIf P ops C oi v a) (h : wpOpIn Fence.wide n P ops Q j K (a.put oi.dst v) w) :
    wpOpIn Fence.wide n P ops Q j (fun a' w' => YieldsIf P ops C oi v a' ∧ K (a'.put oi.dst v) w') a w := by
  obtain ⟨h1, h2, h3⟩ := Oper.apart_spec hap
  have hro : Fence.wide.round = none := rfl
  have keep : ∀ (a : Act), YieldsIf P ops C oi v a → ∀ u, YieldsIf P ops C oi v (a.put oj.dst u) := fun a hy u =>
    hy.of_same (execOp_put oi hsi a oj.dst u h3) (wanted_put oi a oj.dst u h3)
  have keepD : ∀ d, YieldsIf P ops C oi v { a with defers := d :: a.defers } := fun d => hy.of_same rfl rfl
  unfold wpOpIn at *
  simp only [hj] at *
  rw [wanted_put oj a oi.dst v h1, about_put oj w a oi.dst v h1] at h
  split
  · rename_i hw
    simp only [hw, if_true] at h
    unfold Oper.wpIn at *
    rw [about_put oj w a oi.dst v h1] at h
    refine ⟨h.1, ?_⟩
    have h := h.2
    rw [hro, Oper.semAt_none, execOp_put oj hsj a oi.dst v h1] at h
    rw [hro, Oper.semAt_none]
    generalize (execOp a.eval oj).run P w = r at *
    cases r with
    | ok x w' =>
      cases x <;> simp only [Oper.uponIn] at h ⊢
      case value u => exact ⟨keep a hy u, by rw [← Act.put_comm a v u h2]; exact h⟩
      case skip => exact ⟨keep a hy _, by rw [← Act.put_comm a v undef h2]; exact h⟩
      case defer d =>
        refine ⟨keep _ (keepD d) _, ?_⟩
        rw [← Act.put_comm _ v undef h2, ← Act.put_defers]
        exact h
      case enter f args =>
        refine ⟨h.1, CallsIn.mono h.2 fun e w'' he => ?_⟩
        cases e with
        | returned u => exact ⟨keep a hy u, by rw [← Act.put_comm a v u h2]; exact he⟩
        | panicked c => exact hQ _ _ _ he
        | outgrown => exact he
      case row row args => exact ⟨h.1, RowsIn.mono h.2 fun u w'' he => ⟨keep a hy u, by rw [← Act.put_comm a v u h2]; exact he⟩⟩
      case round l f tmps assign body =>
        refine ⟨h.1, RoundIn.mono h.2 fun e w'' he => ?_⟩
        cases e with
        | returned u => exact ⟨keep a hy u, by rw [← Act.put_comm a v u h2]; exact he⟩
        | panicked c => exact hQ _ _ _ he
        | outgrown => exact he
    | halt x w' =>
      cases x <;> simp only [Oper.uponIn] at h ⊢
      case panic u => exact hQ _ _ _ h
  · rename_i hw
    simp only [hw] at h
    exact ⟨h.1, keep a hy _, by rw [← Act.put_comm a v undef h2]; exact h.2⟩

/-- Whatever order is picked from here on, C holding behind every operation. -/
def anyC (P : Program) (md : Region.Mode) (ops : Array Oper) (Q : Exit → Act → World → Prop) (C : World → Prop) (n : Nat) : Nat → Array Bool → Act → World → Prop
  | 0, listed, a, w => Region.ready md ops listed = [] ∧ Q .normal a w
  | fuel + 1, listed, a, w =>
    (Region.ready md ops listed = [] → Q .normal a w) ∧
    ∀ i ∈ Region.ready md ops listed, wpOpIn Fence.wide n P ops Q i (fun a' w' => C w' ∧ anyC P md ops Q C n fuel (listed.setIfInBounds i true) a' w') a w

theorem wpAnyIn_of_anyC : ∀ (fuel : Nat) (listed : Array Bool) (a : Act) (w : World), anyC P md ops Q C n fuel listed a w → wpAnyIn Fence.wide n P md ops Q fuel listed a w
  | 0, _, _, _, h => h
  | fuel + 1, _, _, _, h => ⟨h.1, fun i hi => wpOpIn_mono (fun a' w' h' => wpAnyIn_of_anyC fuel _ a' w' h'.2) (h.2 i hi)⟩

theorem anyC_first {i : Nat} {oi : Oper} {v : Value} (hi : ops[i]? = some oi) (hsel : ∀ (j : Nat) (o : Oper) cs b, ops[j]? = some o → o.op ≠ .select cs b)
    (hQ : ∀ c a w, Q (.panic c) (a.put oi.dst v) w → Q (.panic c) a w) :
    ∀ (fuel : Nat) (listed : Array Bool) (a : Act) (w : World),
      (∀ j oj, ops[j]? = some oj → j ≠ i → listed.getD j true = false → (∀ e ∈ oj.after, Region.binds md e = true → e.on ≠ i) → oi.apart ops oj = true) →
      i ∈ Region.ready md ops listed → YieldsIf P ops C oi v a → C w →
      anyC P md ops Q C n fuel (listed.setIfInBounds i true) (a.put oi.dst v) w → anyC P md ops Q C n (fuel + 1) listed a w := by
  intro fuel
  induction fuel with
  | zero =>
    intro listed a w _ hr hy hS H
    refine ⟨fun h => (by rw [h] at hr; cases hr), fun j hj => ?_⟩
    by_cases hji : j = i
    · subst hji; exact yieldsIf_wpOpIn hi hy hS ⟨hS, H⟩
    · have := ready_mono hj hji
      rw [H.1] at this
      cases this
  | succ fuel ih =>
    intro listed a w hfree hr hy hS H
    refine ⟨fun h => (by rw [h] at hr; cases hr), fun j hj => ?_⟩
    by_cases hji : j = i
    · subst hji; exact yieldsIf_wpOpIn hi hy hS ⟨hS, H⟩
    · have h1 := H.2 j (ready_mono hj hji)
      obtain ⟨hjun, oj, hoj, hall⟩ := mem_ready.1 hj
      have hnot : ∀ e ∈ oj.after, Region.binds md e = true → e.on ≠ i := fun e he hb heq => by
        have h1 := hall e he hb
        have h0 := (mem_ready.1 hr).1
        rw [heq] at h1
        rcases Nat.lt_or_ge i listed.size with h' | h'
        · simp [h'] at h0 h1; rw [h0] at h1; cases h1
        · simp [Array.getElem?_eq_none h'] at h1
      have h2 := wpOpIn_putIf hoj (hfree j oj hoj hji hjun hnot) (fun cs b => hsel i oi cs b hi) (fun cs b => hsel j oj cs b hoj) hQ hy h1
      have hfree' : ∀ k ok, ops[k]? = some ok → k ≠ i → (listed.setIfInBounds j true).getD k true = false →
          (∀ e ∈ ok.after, Region.binds md e = true → e.on ≠ i) → oi.apart ops ok = true := fun k ok hk hki hun hno => by
        refine hfree k ok hk hki ?_ hno
        by_cases hjk : j = k
        · subst hjk; exact hjun
        · rw [getD_set_ne true hjk] at hun; exact hun
      refine wpOpIn_mono (fun a' w' h3 => ⟨h3.2.1, ih (listed.setIfInBounds j true) a' w' hfree' (ready_mono hr (Ne.symm hji)) h3.1 h3.2.1 ?_⟩) h2
      rw [Array.setIfInBounds_comm _ _ hji]
      exact h3.2.2

/-- The walk, in the order handed in. -/
def wpPerm (P : Program) (ops : Array Oper) (Q : Exit → Act → World → Prop) (C : World → Prop) (n : Nat) : List Nat → Act → World → Prop
  | [], a, w => Q .normal a w
  | i :: is, a, w => match ops[i]? with
    | none => False
    | some o => if plainOp o.op then (∃ v, YieldsIf P ops C o v a ∧ wpPerm P ops Q C n is (a.put o.dst v) w) else wpOpIn Fence.wide n P ops Q i (fun a' w' => C w' ∧ wpPerm P ops Q C n is a' w') a w

def permB (md : Region.Mode) (ops : Array Oper) : List Nat → Array Bool → Bool
  | [], listed => (Region.ready md ops listed).isEmpty
  | i :: is, listed => (match ops[i]? with | none => false | some o => if plainOp o.op then (Region.ready md ops listed).contains i && Region.free md ops listed i else Region.ready md ops listed == [i]) && permB md ops is (listed.setIfInBounds i true)

theorem perm_any (hs : Region.noSelect ops = true) (hQ : ∀ c a d v w, Q (.panic c) (Act.put a d v) w → Q (.panic c) a w) : ∀ (is : List Nat) (listed : Array Bool) (a : Act) (w : World), C w → permB md ops is listed = true → wpPerm P ops Q C n is a w → anyC P md ops Q C n is.length listed a w
  | [], listed, a, w, _, hB, h => ⟨by simpa [permB] using hB, h⟩
  | i :: is, listed, a, w, hC, hB, h => by
    simp only [permB, Bool.and_eq_true] at hB
    obtain ⟨hB1, hB2⟩ := hB
    unfold wpPerm at h
    cases ho : ops[i]? with
    | none => simp [ho] at hB1
    | some o =>
      simp only [ho] at hB1 h
      by_cases hp : plainOp o.op = true
      · simp only [hp, if_true, Bool.and_eq_true] at hB1 h
        obtain ⟨v, hy, hk⟩ := h
        exact anyC_first ho (Region.noSelect_spec hs) (fun c a w => hQ c a _ v w) is.length listed a w (Region.free_spec ho hB1.2) (by simpa using hB1.1) hy hC (perm_any hs hQ is _ _ _ hC hB2 hk)
      · simp only [hp, Bool.false_eq_true, if_false] at hB1 h
        have hr : Region.ready md ops listed = [i] := by simpa using hB1
        refine ⟨fun h0 => (by rw [hr] at h0; cases h0), fun j hj => ?_⟩
        rw [hr] at hj
        obtain rfl : j = i := by simpa using hj
        exact wpOpIn_mono (fun a' w' h' => ⟨h'.1, perm_any hs hQ is _ _ _ h'.1 hB2 h'.2⟩) h

/-- **A REGION THAT DRAWS ITS ORDER**, walked in the order 'is'. -/
theorem region_perm {id : Nat} {a : Act} {w : World} (is : List Nat) (C : World → Prop) (hm : P.follows .mixedOrders = true)
    (hB : (Region.noSelect ops && is.length == ops.size && permB .any ops is (Array.replicate ops.size false)) = true) (hQ : ∀ c a d v w, Q (.panic c) (Act.put a d v) w → Q (.panic c) a w)
    (hC : C w.drew) (h : wpPerm P ops Q C n is a w.drew) : (Code.region id ops true).wpIn Fence.wide n P Q a w := by
  simp only [Bool.and_eq_true, beq_iff_eq] at hB
  have := perm_any (md := .any) hB.1.1 hQ is _ a _ hC hB.2 h
  rw [hB.1.2] at this
  exact wpIn_region_any hm (wpAnyIn_of_anyC _ _ _ _ this)

/-- The next operation is plain. -/
theorem perm_q {i : Nat} {is : List Nat} {o : Oper} {a : Act} {w : World} (ho : ops[i]? = some o) (hp : plainOp o.op = true) (h : wpQuiet P ops C (fun a' => wpPerm P ops Q C n is a' w) [o] a) : wpPerm P ops Q C n (i :: is) a w := by
  unfold wpPerm
  simp only [ho, hp, if_true]
  unfold wpQuiet at h
  by_cases hw : Region.wanted o (yielded ops a.tmps) = true
  · rw [if_pos hw] at h
    obtain ⟨v, hv, hk⟩ := h
    refine ⟨v, .inl ⟨hw, fun w1 hC => ?_⟩, hk⟩
    have h1 := hv w1 hC
    unfold Oper.quietAt at h1
    cases hr : (execOp a.eval o).run P w1 with
    | ok x w' =>
      rw [hr] at h1
      obtain ⟨u, rfl⟩ := plain_value hp hr
      simp only [Oper.quietUpon] at h1
      rw [h1.1, h1.2]
    | halt x w' => rw [hr] at h1; exact h1.elim
  · rw [if_neg hw] at h
    exact ⟨undef, .inr ⟨by simpa using hw, rfl⟩, h⟩

/-- The next operation is loud. -/
theorem perm_l {i : Nat} {is : List Nat} {o : Oper} {a : Act} {w : World} (ho : ops[i]? = some o) (hp : plainOp o.op = false) (h : wpListIn Fence.wide n P ops (Exit.then (fun a' w' => C w' ∧ wpPerm P ops Q C n is a' w') Q) [o] a w) : wpPerm P ops Q C n (i :: is) a w := by
  unfold wpPerm
  simp only [ho, hp, Bool.false_eq_true, if_false]
  unfold wpOpIn
  simp only [ho]
  unfold wpListIn at h
  split
  · rename_i hw
    rw [if_pos hw] at h
    unfold Oper.wpIn at h ⊢
    refine ⟨h.1, ?_⟩
    have h := h.2
    generalize (o.semAt Fence.wide.round a.eval).run P w = r at h ⊢
    cases r with
    | ok x w' =>
      cases x <;> simp only [Oper.uponIn, wpListIn, Exit.then] at h ⊢ <;> exact h
    | halt x w' => cases x <;> simp only [Oper.uponIn, Exit.then] at h ⊢ <;> exact h
  · rename_i hw
    rw [if_neg hw] at h
    exact h
theorem perm_nil {a : Act} {w : World} (h : Q .normal a w) : wpPerm P ops Q C n [] a w := h
end

/-- The i-th of a list, written out. -/
def nth : List Oper → Nat → Option Oper
  | [], _ => none
  | o :: _, 0 => some o
  | _ :: l, i + 1 => nth l i
theorem nth_eq : (l : List Oper) → (i : Nat) → l.toArray[i]? = nth l i
  | [], _ => by simp [nth]
  | o :: l, 0 => by simp [nth]
  | o :: l, i + 1 => by
    have := nth_eq l i
    simp only [nth, ← this]
    simp
section
variable {P : Program} {l : List Oper} {Q : Exit → Act → World → Prop} {C : World → Prop} {n : Nat} {i : Nat} {is : List Nat} {o : Oper} {a : Act} {w : World}
theorem pq (ho : nth l i = some o) (hp : plainOp o.op = true) (h : wpQuiet P l.toArray C (fun a' => wpPerm P l.toArray Q C n is a' w) [o] a) : wpPerm P l.toArray Q C n (i :: is) a w := perm_q ((nth_eq l i).trans ho) hp h
/-- The next operation is loud, and passed over. -/
theorem ps (ho : nth l i = some o) (hp : plainOp o.op = false) (hw : Region.wanted o (yielded l.toArray a.tmps) = false) (hC : C w) (h : wpQuiet P l.toArray C (fun a' => wpPerm P l.toArray Q C n is a' w) [o] a) : wpPerm P l.toArray Q C n (i :: is) a w := by
  unfold wpPerm
  simp only [(nth_eq l i).trans ho, hp, Bool.false_eq_true, if_false]
  unfold wpOpIn
  simp only [(nth_eq l i).trans ho]
  unfold wpQuiet at h
  rw [if_neg (by rw [hw]; exact Bool.false_ne_true)] at h ⊢
  exact ⟨fun _ _ => trivial, hC, h⟩
theorem pl (ho : nth l i = some o) (hp : plainOp o.op = false) (h : wpListIn Fence.wide n P l.toArray (Exit.then (fun a' w' => C w' ∧ wpPerm P l.toArray Q C n is a' w') Q) [o] a w) : wpPerm P l.toArray Q C n (i :: is) a w := perm_l ((nth_eq l i).trans ho) hp h
end

/-- A world that keeps S. -/
structure Wd (S : World → Prop) where
  w : World
  ok : S w
theorem Wd.mem {S : World → Prop} {w : World} (h : S w) : ∃ x : Wd S, w = x.w := ⟨⟨w, h⟩, rfl⟩

/-- **A REGION THAT DRAWS ITS ORDER**, walked in the order 'is'; the class of worlds that keep S written out as the walk reads it. -/
theorem region_held {P : Program} {ops : Array Oper} {Q : Exit → Act → World → Prop} {n id : Nat} {a : Act} {w : World} (is : List Nat) (S : World → Prop) (hm : P.follows .mixedOrders = true)
    (hB : (Region.noSelect ops && is.length == ops.size && permB .any ops is (Array.replicate ops.size false)) = true) (hQ : ∀ c a d v w, Q (.panic c) (Act.put a d v) w → Q (.panic c) a w)
    (hS : S w.drew) (h : Nonempty (Wd S) → wpPerm P ops Q (fun w' => ∃ x : Wd S, w' = x.w) n is a w.drew) : (Code.region id ops true).wpIn Fence.wide n P Q a w :=
  region_perm is _ hm hB hQ (Wd.mem hS) (h ⟨⟨_, hS⟩⟩)

/-- A post that no panic meets. -/
def calm (Q : Exit → Act → World → Prop) : Exit → Act → World → Prop
  | .panic _, _, _ => False
  | e, a, w => Q e a w
theorem calm_imp {Q : Exit → Act → World → Prop} {e : Exit} {a : Act} {w : World} (h : calm Q e a w) : Q e a w := by
  cases e <;> first | exact h | exact h.elim
/-- The same, of a region that does not panic, whatever is behind it. -/
theorem region_calm {P : Program} {ops : Array Oper} {Q : Exit → Act → World → Prop} {n id : Nat} {a : Act} {w : World} (is : List Nat) (S : World → Prop) (hm : P.follows .mixedOrders = true)
    (hB : (Region.noSelect ops && is.length == ops.size && permB .any ops is (Array.replicate ops.size false)) = true)
    (hS : S w.drew) (h : Nonempty (Wd S) → wpPerm P ops (calm Q) (fun w' => ∃ x : Wd S, w' = x.w) n is a w.drew) : (Code.region id ops true).wpIn Fence.wide n P Q a w :=
  Go.wpIn_mono (region_held is S hm hB (fun _ _ _ _ _ h => h) hS h) (fun _ _ _ h => calm_imp h)
theorem perm_done {P : Program} {ops : Array Oper} {Q : Exit → Act → World → Prop} {C : World → Prop} {n : Nat} {a : Act} {w : World} (h : Q .normal a w) : wpPerm P ops (calm Q) C n [] a w := h

end Go.Proofs.Ytoaicedkepcalaa
