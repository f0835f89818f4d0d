/-
  What the proof of YtgialpjdfeldeaaPlantTellsProof goes by, part 2 of 4: contracts and plain facts; each part begins with its own sentence. No conditions beyond each theorem's own.
-/
import Derived.Test.YtgialpjdfeldeaaTc1
import Derived.OrdersHeld
import Derived.OrdersIn
import Derived.Deep.Quiet
import Derived.TacticsIn
import Derived.ControlIn
import Derived.TacticsInMore
import Derived.OwnWalkIn
import Derived.Lib.AppendZerosOnto
import Derived.Maps.OwnIn
import Derived.Test.YtgialpjdfeldeaaRows
import Derived.WalkKit
import Derived.ProofKit
import Derived.OpenShut
import Derived.ShutString
import Derived.Laws.MakeOwn
import Derived.RegionTactic
import Derived.Lib.BitFns
import Derived.Lib.ItoaNum
import Derived.WalkSmall
import Derived.BigQuiet
import Derived.Deep.QuietTactic
import Derived.Deep.OwnRows
/-! A region that draws its order, holds loads, and calls that turn the world: walked once, in an order that is handed in ('region_perm'): its plain operations (loads, addresses, arithmetic) yield one value in every world of a class C; its loud ones (calls, boxes, stores) come up alone, and leave a world of C. Conditions: each theorem's own. -/
namespace Go.Proofs.Ytgialpjdfeldeaa

/-- An operation that, where it comes to its end, yields a value. -/
def plainOp : Op → Bool
  | .move _ | .assign _ | .pick .. | .build .. | .load .. | .nilCheck _ | .binOp .. | .unOp .. | .convert .. | .slice .. | .fieldAddr .. | .field .. | .indexAddr .. | .index .. | .extract .. => true
  | .call { callee := .builtin .len, .. } => true
  | _ => false

theorem andThen_ok' {α β : Type} {r : Result α} {f : α → World → Result β} {b : β} {w' : World} (h : r.andThen f = .ok b w') : ∃ a w1, r = .ok a w1 ∧ f a w1 = .ok b w' := by
  cases r with
  | ok a w1 => exact ⟨a, w1, rfl, h⟩
  | halt x w1 => cases h

theorem value_of_then {P : Program} {w w' : World} {s : Sem Value} {n : Next} (h : (do pure (.value (← s)) : Sem Next).run P w = .ok n w') : ∃ u, n = .value u := by
  simp only [Sem.run_bind, Sem.run_pure] at h
  obtain ⟨u, w1, _, h2⟩ := andThen_ok' h
  cases h2
  exact ⟨u, rfl⟩

theorem plain_value {P : Program} {o : Oper} {ρ : Operand → Value} {w w' : World} {n : Next} (hp : plainOp o.op = true) (h : (execOp ρ o).run P w = .ok n w') : ∃ u, n = .value u := by
  unfold execOp at h
  cases ho : o.op
  case call c =>
    obtain ⟨callee, as1, ts⟩ := c
    rw [ho] at hp h
    unfold plainOp at hp
    split at hp
    all_goals try (rename_i heq; simp at heq; done)
    all_goals try (cases hp; done)
    rename_i heq
    simp only [Op.call.injEq, Call.mk.injEq] at heq
    obtain ⟨rfl, rfl, rfl⟩ := heq
    simp only [resolve, invoke, builtin, Sem.run_bind, Sem.run_pure, Result.andThen_ok] at h
    obtain ⟨u, w1, _, h2⟩ := andThen_ok' h
    cases h2
    exact ⟨_, rfl⟩
  all_goals simp only [ho, plainOp, Bool.false_eq_true] at hp h
  case move => simp only [Sem.run_pure] at h; cases h; exact ⟨_, rfl⟩
  case assign => simp only [Sem.run_pure] at h; cases h; exact ⟨_, rfl⟩
  case pick =>
    simp only [Sem.run_bind, Sem.run_pure] at h
    obtain ⟨u, w1, _, h2⟩ := andThen_ok' h
    cases h2
    exact ⟨_, rfl⟩
  case nilCheck =>
    split at h
    all_goals try (simp [go_sem] at h; done)
    · split at h
      · simp [go_sem] at h
      · simp only [Sem.run_bind] at h
        obtain ⟨u, w1, _, h2⟩ := andThen_ok' h
        obtain ⟨u2, w2, _, h3⟩ := andThen_ok' h2
        split at h3
        · simp only [Sem.run_bind, Sem.run_pure] at h3
          obtain ⟨u4, w4, h4, h5⟩ := andThen_ok' h3
          cases h5
          exact ⟨_, rfl⟩
        · simp only [Sem.run_pure] at h3
          cases h3
          exact ⟨_, rfl⟩
      · simp only [Sem.run_pure] at h; cases h; exact ⟨_, rfl⟩
    · simp only [Sem.run_pure] at h; cases h; exact ⟨_, rfl⟩
  all_goals exact value_of_then h

section
variable {P : Program} {ops : Array Oper} {Q : Exit → Act → World → Prop} {md : Region.Mode} {C : World → Prop} {n : Nat}

theorem yieldsIf_wpOpIn {i : Nat} {o : Oper} {v : Value} {a : Act} (hi : ops[i]? = some o) (hy : YieldsIf P ops C o v a)
    {K : Act → World → Prop} {w : World} (hC : C w) (h : K (a.put o.dst v) w) : wpOpIn Fence.wide n P ops Q i K a w := by
  unfold Go.wpOpIn
  simp only [hi]
  rcases hy with ⟨hw, hv⟩ | ⟨hw, rfl⟩
  · simp only [hw, if_true, Oper.wpIn, show Fence.wide.round = none from rfl, Oper.semAt_none, hv w hC, Oper.uponIn]; exact ⟨fun _ _ => trivial, h⟩
  · simp only [hw, Bool.false_eq_true, if_false]; exact ⟨fun _ _ => trivial, h⟩

theorem wpOpIn_putIf {j : Nat} {oi oj : Oper} {v : Value} (hj : ops[j]? = some oj) (hap : oi.apart ops oj = true)
    (hsi : ∀ cs b, oi.op ≠ .select cs b) (hsj : ∀ cs b, oj.op ≠ .select cs b)
    (hQ : ∀ c a w, Q (.panic c) (a.put oi.dst v) w → Q (.panic c) a w) {K : Act → World → Prop} {a : Act} {w : World}
    (hy : YieldsIf P ops C oi v a) (h : wpOpIn Fence.wide n P ops Q j K (a.put oi.dst v) w) :
    wpOpIn Fence.wide n P ops Q j (fun a' w' => YieldsIf P ops C oi v a' ∧ K (a'.put oi.dst v) w') a w := by
  obtain ⟨h1, h2, h3⟩ := Oper.apart_spec hap
  have hro : Fence.wide.round = none := rfl
  have keep : ∀ (a : Act), YieldsIf P ops C oi v a → ∀ u, YieldsIf P ops C oi v (a.put oj.dst u) := fun a hy u =>
    hy.of_same (execOp_put oi hsi a oj.dst u h3) (wanted_put oi a oj.dst u h3)
  have keepD : ∀ d, YieldsIf P ops C oi v { a with defers := d :: a.defers } := fun d => hy.of_same rfl rfl
  unfold wpOpIn at *
  simp only [hj] at *
  rw [wanted_put oj a oi.dst v h1, about_put oj w a oi.dst v h1] at h
  split
  · rename_i hw
    simp only [hw, if_true] at h
    unfold Oper.wpIn at *
    rw [about_put oj w a oi.dst v h1] at h
    refine ⟨h.1, ?_⟩
    have h := h.2
    rw [hro, Oper.semAt_none, execOp_put oj hsj a oi.dst v h1] at h
    rw [hro, Oper.semAt_none]
    generalize (execOp a.eval oj).run P w = r at *
    cases r with
    | ok x w' =>
      cases x <;> simp only [Oper.uponIn] at h ⊢
      case value u => exact ⟨keep a hy u, by rw [← Act.put_comm a v u h2]; exact h⟩
      case skip => exact ⟨keep a hy _, by rw [← Act.put_comm a v undef h2]; exact h⟩
      case defer d =>
        refine ⟨keep _ (keepD d) _, ?_⟩
        rw [← Act.put_comm _ v undef h2, ← Act.put_defers]
        exact h
      case enter f args =>
        refine ⟨h.1, CallsIn.mono h.2 fun e w'' he => ?_⟩
        cases e with
        | returned u => exact ⟨keep a hy u, by rw [← Act.put_comm a v u h2]; exact he⟩
        | panicked c => exact hQ _ _ _ he
        | outgrown => exact he
      case row row args => exact ⟨h.1, RowsIn.mono h.2 fun u w'' he => ⟨keep a hy u, by rw [← Act.put_comm a v u h2]; exact he⟩⟩
      case round l f tmps assign body =>
        refine ⟨h.1, RoundIn.mono h.2 fun e w'' he => ?_⟩
        cases e with
        | returned u => exact ⟨keep a hy u, by rw [← Act.put_comm a v u h2]; exact he⟩
        | panicked c => exact hQ _ _ _ he
        | outgrown => exact he
    | halt x w' =>
      cases x <;> simp only [Oper.uponIn] at h ⊢
      case panic u => exact hQ _ _ _ h
  · rename_i hw
    simp only [hw] at h
    exact ⟨h.1, keep a hy _, by rw [← Act.put_comm a v undef h2]; exact h.2⟩

/-- Whatever order is picked from here on, C holding behind every operation. -/
def anyC (P : Program) (md : Region.Mode) (ops : Array Oper) (Q : Exit → Act → World → Prop) (C : World → Prop) (n : Nat) : Nat → Array Bool → Act → World → Prop
  | 0, listed, a, w => Region.ready md ops listed = [] ∧ Q .normal a w
  | fuel + 1, listed, a, w =>
    (Region.ready md ops listed = [] → Q .normal a w) ∧
    ∀ i ∈ Region.ready md ops listed, wpOpIn Fence.wide n P ops Q i (fun a' w' => C w' ∧ anyC P md ops Q C n fuel (listed.setIfInBounds i true) a' w') a w

theorem wpAnyIn_of_anyC : ∀ (fuel : Nat) (listed : Array Bool) (a : Act) (w : World), anyC P md ops Q C n fuel listed a w → wpAnyIn Fence.wide n P md ops Q fuel listed a w
  | 0, _, _, _, h => h
  | fuel + 1, _, _, _, h => ⟨h.1, fun i hi => wpOpIn_mono (fun a' w' h' => wpAnyIn_of_anyC fuel _ a' w' h'.2) (h.2 i hi)⟩

theorem anyC_first {i : Nat} {oi : Oper} {v : Value} (hi : ops[i]? = some oi) (hsel : ∀ (j : Nat) (o : Oper) cs b, ops[j]? = some o → o.op ≠ .select cs b)
    (hQ : ∀ c a w, Q (.panic c) (a.put oi.dst v) w → Q (.panic c) a w) :
    ∀ (fuel : Nat) (listed : Array Bool) (a : Act) (w : World),
      (∀ j oj, ops[j]? = some oj → j ≠ i → listed.getD j true = false → (∀ e ∈ oj.after, Region.binds md e = true → e.on ≠ i) → oi.apart ops oj = true) →
      i ∈ Region.ready md ops listed → YieldsIf P ops C oi v a → C w →
      anyC P md ops Q C n fuel (listed.setIfInBounds i true) (a.put oi.dst v) w → anyC P md ops Q C n (fuel + 1) listed a w := by
  intro fuel
  induction fuel with
  | zero =>
    intro listed a w _ hr hy hS H
    refine ⟨fun h => (by rw [h] at hr; cases hr), fun j hj => ?_⟩
    by_cases hji : j = i
    · subst hji; exact yieldsIf_wpOpIn hi hy hS ⟨hS, H⟩
    · have := ready_mono hj hji
      rw [H.1] at this
      cases this
  | succ fuel ih =>
    intro listed a w hfree hr hy hS H
    refine ⟨fun h => (by rw [h] at hr; cases hr), fun j hj => ?_⟩
    by_cases hji : j = i
    · subst hji; exact yieldsIf_wpOpIn hi hy hS ⟨hS, H⟩
    · have h1 := H.2 j (ready_mono hj hji)
      obtain ⟨hjun, oj, hoj, hall⟩ := mem_ready.1 hj
      have hnot : ∀ e ∈ oj.after, Region.binds md e = true → e.on ≠ i := fun e he hb heq => by
        have h1 := hall e he hb
        have h0 := (mem_ready.1 hr).1
        rw [heq] at h1
        rcases Nat.lt_or_ge i listed.size with h' | h'
        · simp [h'] at h0 h1; rw [h0] at h1; cases h1
        · simp [Array.getElem?_eq_none h'] at h1
      have h2 := wpOpIn_putIf hoj (hfree j oj hoj hji hjun hnot) (fun cs b => hsel i oi cs b hi) (fun cs b => hsel j oj cs b hoj) hQ hy h1
      have hfree' : ∀ k ok, ops[k]? = some ok → k ≠ i → (listed.setIfInBounds j true).getD k true = false →
          (∀ e ∈ ok.after, Region.binds md e = true → e.on ≠ i) → oi.apart ops ok = true := fun k ok hk hki hun hno => by
        refine hfree k ok hk hki ?_ hno
        by_cases hjk : j = k
        · subst hjk; exact hjun
        · rw [getD_set_ne true hjk] at hun; exact hun
      refine wpOpIn_mono (fun a' w' h3 => ⟨h3.2.1, ih (listed.setIfInBounds j true) a' w' hfree' (ready_mono hr (Ne.symm hji)) h3.1 h3.2.1 ?_⟩) h2
      rw [Array.setIfInBounds_comm _ _ hji]
      exact h3.2.2

/-- The walk, in the order handed in. -/
def wpPerm (P : Program) (ops : Array Oper) (Q : Exit → Act → World → Prop) (C : World → Prop) (n : Nat) : List Nat → Act → World → Prop
  | [], a, w => Q .normal a w
  | i :: is, a, w => match ops[i]? with
    | none => False
    | some o => if plainOp o.op then (∃ v, YieldsIf P ops C o v a ∧ wpPerm P ops Q C n is (a.put o.dst v) w) else wpOpIn Fence.wide n P ops Q i (fun a' w' => C w' ∧ wpPerm P ops Q C n is a' w') a w

def permB (md : Region.Mode) (ops : Array Oper) : List Nat → Array Bool → Bool
  | [], listed => (Region.ready md ops listed).isEmpty
  | i :: is, listed => (match ops[i]? with | none => false | some o => if plainOp o.op then (Region.ready md ops listed).contains i && Region.free md ops listed i else Region.ready md ops listed == [i]) && permB md ops is (listed.setIfInBounds i true)

theorem perm_any (hs : Region.noSelect ops = true) (hQ : ∀ c a d v w, Q (.panic c) (Act.put a d v) w → Q (.panic c) a w) : ∀ (is : List Nat) (listed : Array Bool) (a : Act) (w : World), C w → permB md ops is listed = true → wpPerm P ops Q C n is a w → anyC P md ops Q C n is.length listed a w
  | [], listed, a, w, _, hB, h => ⟨by simpa [permB] using hB, h⟩
  | i :: is, listed, a, w, hC, hB, h => by
    simp only [permB, Bool.and_eq_true] at hB
    obtain ⟨hB1, hB2⟩ := hB
    unfold wpPerm at h
    cases ho : ops[i]? with
    | none => simp [ho] at hB1
    | some o =>
      simp only [ho] at hB1 h
      by_cases hp : plainOp o.op = true
      · simp only [hp, if_true, Bool.and_eq_true] at hB1 h
        obtain ⟨v, hy, hk⟩ := h
        exact anyC_first ho (Region.noSelect_spec hs) (fun c a w => hQ c a _ v w) is.length listed a w (Region.free_spec ho hB1.2) (by simpa using hB1.1) hy hC (perm_any hs hQ is _ _ _ hC hB2 hk)
      · simp only [hp, Bool.false_eq_true, if_false] at hB1 h
        have hr : Region.ready md ops listed = [i] := by simpa using hB1
        refine ⟨fun h0 => (by rw [hr] at h0; cases h0), fun j hj => ?_⟩
        rw [hr] at hj
        obtain rfl : j = i := by simpa using hj
        exact wpOpIn_mono (fun a' w' h' => ⟨h'.1, perm_any hs hQ is _ _ _ h'.1 hB2 h'.2⟩) h

/-- **A REGION THAT DRAWS ITS ORDER**, walked in the order 'is'. -/
theorem region_perm {id : Nat} {a : Act} {w : World} (is : List Nat) (C : World → Prop) (hm : P.follows .mixedOrders = true)
    (hB : (Region.noSelect ops && is.length == ops.size && permB .any ops is (Array.replicate ops.size false)) = true) (hQ : ∀ c a d v w, Q (.panic c) (Act.put a d v) w → Q (.panic c) a w)
    (hC : C w.drew) (h : wpPerm P ops Q C n is a w.drew) : (Code.region id ops true).wpIn Fence.wide n P Q a w := by
  simp only [Bool.and_eq_true, beq_iff_eq] at hB
  have := perm_any (md := .any) hB.1.1 hQ is _ a _ hC hB.2 h
  rw [hB.1.2] at this
  exact wpIn_region_any hm (wpAnyIn_of_anyC _ _ _ _ this)

/-- The next operation is plain. -/
theorem perm_q {i : Nat} {is : List Nat} {o : Oper} {a : Act} {w : World} (ho : ops[i]? = some o) (hp : plainOp o.op = true) (h : wpQuiet P ops C (fun a' => wpPerm P ops Q C n is a' w) [o] a) : wpPerm P ops Q C n (i :: is) a w := by
  unfold wpPerm
  simp only [ho, hp, if_true]
  unfold wpQuiet at h
  by_cases hw : Region.wanted o (yielded ops a.tmps) = true
  · rw [if_pos hw] at h
    obtain ⟨v, hv, hk⟩ := h
    refine ⟨v, .inl ⟨hw, fun w1 hC => ?_⟩, hk⟩
    have h1 := hv w1 hC
    unfold Oper.quietAt at h1
    cases hr : (execOp a.eval o).run P w1 with
    | ok x w' =>
      rw [hr] at h1
      obtain ⟨u, rfl⟩ := plain_value hp hr
      simp only [Oper.quietUpon] at h1
      rw [h1.1, h1.2]
    | halt x w' => rw [hr] at h1; exact h1.elim
  · rw [if_neg hw] at h
    exact ⟨undef, .inr ⟨by simpa using hw, rfl⟩, h⟩

/-- The next operation is loud. -/
theorem perm_l {i : Nat} {is : List Nat} {o : Oper} {a : Act} {w : World} (ho : ops[i]? = some o) (hp : plainOp o.op = false) (h : wpListIn Fence.wide n P ops (Exit.then (fun a' w' => C w' ∧ wpPerm P ops Q C n is a' w') Q) [o] a w) : wpPerm P ops Q C n (i :: is) a w := by
  unfold wpPerm
  simp only [ho, hp, Bool.false_eq_true, if_false]
  unfold wpOpIn
  simp only [ho]
  unfold wpListIn at h
  split
  · rename_i hw
    rw [if_pos hw] at h
    unfold Oper.wpIn at h ⊢
    refine ⟨h.1, ?_⟩
    have h := h.2
    generalize (o.semAt Fence.wide.round a.eval).run P w = r at h ⊢
    cases r with
    | ok x w' =>
      cases x <;> simp only [Oper.uponIn, wpListIn, Exit.then] at h ⊢ <;> exact h
    | halt x w' => cases x <;> simp only [Oper.uponIn, Exit.then] at h ⊢ <;> exact h
  · rename_i hw
    rw [if_neg hw] at h
    exact h
theorem perm_nil {a : Act} {w : World} (h : Q .normal a w) : wpPerm P ops Q C n [] a w := h
end

/-- The i-th of a list, written out. -/
def nth : List Oper → Nat → Option Oper
  | [], _ => none
  | o :: _, 0 => some o
  | _ :: l, i + 1 => nth l i
theorem nth_eq : (l : List Oper) → (i : Nat) → l.toArray[i]? = nth l i
  | [], _ => by simp [nth]
  | o :: l, 0 => by simp [nth]
  | o :: l, i + 1 => by
    have := nth_eq l i
    simp only [nth, ← this]
    simp
section
variable {P : Program} {l : List Oper} {Q : Exit → Act → World → Prop} {C : World → Prop} {n : Nat} {i : Nat} {is : List Nat} {o : Oper} {a : Act} {w : World}
theorem pq (ho : nth l i = some o) (hp : plainOp o.op = true) (h : wpQuiet P l.toArray C (fun a' => wpPerm P l.toArray Q C n is a' w) [o] a) : wpPerm P l.toArray Q C n (i :: is) a w := perm_q ((nth_eq l i).trans ho) hp h
/-- The next operation is loud, and passed over. -/
theorem ps (ho : nth l i = some o) (hp : plainOp o.op = false) (hw : Region.wanted o (yielded l.toArray a.tmps) = false) (hC : C w) (h : wpQuiet P l.toArray C (fun a' => wpPerm P l.toArray Q C n is a' w) [o] a) : wpPerm P l.toArray Q C n (i :: is) a w := by
  unfold wpPerm
  simp only [(nth_eq l i).trans ho, hp, Bool.false_eq_true, if_false]
  unfold wpOpIn
  simp only [(nth_eq l i).trans ho]
  unfold wpQuiet at h
  rw [if_neg (by rw [hw]; exact Bool.false_ne_true)] at h ⊢
  exact ⟨fun _ _ => trivial, hC, h⟩
theorem pl (ho : nth l i = some o) (hp : plainOp o.op = false) (h : wpListIn Fence.wide n P l.toArray (Exit.then (fun a' w' => C w' ∧ wpPerm P l.toArray Q C n is a' w') Q) [o] a w) : wpPerm P l.toArray Q C n (i :: is) a w := perm_l ((nth_eq l i).trans ho) hp h
end

/-- A world that keeps S. -/
structure Wd (S : World → Prop) where
  w : World
  ok : S w
theorem Wd.mem {S : World → Prop} {w : World} (h : S w) : ∃ x : Wd S, w = x.w := ⟨⟨w, h⟩, rfl⟩

/-- **A REGION THAT DRAWS ITS ORDER**, walked in the order 'is'; the class of worlds that keep S written out as the walk reads it. -/
theorem region_held {P : Program} {ops : Array Oper} {Q : Exit → Act → World → Prop} {n id : Nat} {a : Act} {w : World} (is : List Nat) (S : World → Prop) (hm : P.follows .mixedOrders = true)
    (hB : (Region.noSelect ops && is.length == ops.size && permB .any ops is (Array.replicate ops.size false)) = true) (hQ : ∀ c a d v w, Q (.panic c) (Act.put a d v) w → Q (.panic c) a w)
    (hS : S w.drew) (h : Nonempty (Wd S) → wpPerm P ops Q (fun w' => ∃ x : Wd S, w' = x.w) n is a w.drew) : (Code.region id ops true).wpIn Fence.wide n P Q a w :=
  region_perm is _ hm hB hQ (Wd.mem hS) (h ⟨⟨_, hS⟩⟩)

/-- A post that no panic meets. -/
def calm (Q : Exit → Act → World → Prop) : Exit → Act → World → Prop
  | .panic _, _, _ => False
  | e, a, w => Q e a w
theorem calm_imp {Q : Exit → Act → World → Prop} {e : Exit} {a : Act} {w : World} (h : calm Q e a w) : Q e a w := by
  cases e <;> first | exact h | exact h.elim
/-- The same, of a region that does not panic, whatever is behind it. -/
theorem region_calm {P : Program} {ops : Array Oper} {Q : Exit → Act → World → Prop} {n id : Nat} {a : Act} {w : World} (is : List Nat) (S : World → Prop) (hm : P.follows .mixedOrders = true)
    (hB : (Region.noSelect ops && is.length == ops.size && permB .any ops is (Array.replicate ops.size false)) = true)
    (hS : S w.drew) (h : Nonempty (Wd S) → wpPerm P ops (calm Q) (fun w' => ∃ x : Wd S, w' = x.w) n is a w.drew) : (Code.region id ops true).wpIn Fence.wide n P Q a w :=
  Go.wpIn_mono (region_held is S hm hB (fun _ _ _ _ _ h => h) hS h) (fun _ _ _ h => calm_imp h)
theorem perm_done {P : Program} {ops : Array Oper} {Q : Exit → Act → World → Prop} {C : World → Prop} {n : Nat} {a : Act} {w : World} (h : Q .normal a w) : wpPerm P ops (calm Q) C n [] a w := h

end Go.Proofs.Ytgialpjdfeldeaa

/-! Two memories that lie apart ('Pair': both were made since w, no block is both's, nothing that lay at w has turned); a region that draws its order, walked once in an order handed in, in the plain walk ('region_wide'). No conditions beyond each theorem's own. -/
namespace Go.Proofs.Ytgialpjdfeldeaa
open Go.RowKit

/-- **A REGION THAT DRAWS ITS ORDER**, walked in the order 'is', in the plain walk. -/
theorem region_wide {P : Program} {ops : Array Oper} {Q : Exit → Act → World → Prop} {id : Nat} {a : Act} {w : World} (is : List Nat) (S : World → Prop) (hm : P.follows .mixedOrders = true)
    (hB : (Region.noSelect ops && is.length == ops.size && permB .any ops is (Array.replicate ops.size false)) = true)
    (hS : S w.drew) (h : Nonempty (Wd S) → wpPerm P ops (calm Q) (fun w' => ∃ x : Wd S, w' = x.w) 10 is a w.drew) : (Code.region id ops true).wp P Q a w :=
  (wpIn_wide (n := 10)).1 (region_calm is S hm hB hS h)

section
variable {T1 T2 : TypeId} {lay1 lay2 : Value → Int → Int → Int → Int → Array Value}
/-- Two memories made since w, that lie apart. -/
def Pair (T1 : TypeId) (lay1 : Value → Int → Int → Int → Int → Array Value) (T2 : TypeId) (lay2 : Value → Int → Int → Int → Int → Array Value) (w W : World) (b1 : Nat) (s1 : Mst) (b2 : Nat) (s2 : Mst) : Prop :=
  ∃ v1 v2, MemAt T1 lay1 W w.heap.size b1 v1 s1 ∧ MemAt T2 lay2 W w.heap.size b2 v2 s2 ∧ (∀ k, Foot b1 v1 k → ¬ Foot b2 v2 k) ∧ Kept w W

namespace Pair
variable {w W W' : World} {b1 b2 : Nat} {s1 s2 : Mst}
theorem swap (h : Pair T1 lay1 T2 lay2 w W b1 s1 b2 s2) : Pair T2 lay2 T1 lay1 w W b2 s2 b1 s1 := by
  obtain ⟨v1, v2, h1, h2, d, k⟩ := h
  exact ⟨v2, v1, h2, h1, fun i e e' => d i e' e, k⟩
theorem kept (h : Pair T1 lay1 T2 lay2 w W b1 s1 b2 s2) : Kept w W := by
  obtain ⟨_, _, _, _, _, k⟩ := h
  exact k
/-- What neither has may turn. -/
theorem turned (h : Pair T1 lay1 T2 lay2 w W b1 s1 b2 s2) {R : Nat → Prop} (t : Turned R W W') (hR : ∀ i, i < W.heap.size → R i → w.heap.size ≤ i) (hn : ∀ v1 v2, MemAt T1 lay1 W w.heap.size b1 v1 s1 → MemAt T2 lay2 W w.heap.size b2 v2 s2 → ∀ i, R i → ¬ Foot b1 v1 i ∧ ¬ Foot b2 v2 i) : Pair T1 lay1 T2 lay2 w W' b1 s1 b2 s2 := by
  obtain ⟨v1, v2, h1, h2, d, k⟩ := h
  exact ⟨v1, v2, h1.turned t (fun i e e' => (hn v1 v2 h1 h2 i e').1 e), h2.turned t (fun i e e' => (hn v1 v2 h1 h2 i e').2 e), d, Turned.trans k t (fun _ e => e) (fun i hi e => by have := hR i (Nat.lt_of_lt_of_le hi k.size) e; omega)⟩
theorem on (h : Pair T1 lay1 T2 lay2 w W b1 s1 b2 s2) (k' : Kept W W') : Pair T1 lay1 T2 lay2 w W' b1 s1 b2 s2 := by
  obtain ⟨v1, v2, h1, h2, d, k⟩ := h
  exact ⟨v1, v2, h1.kept k', h2.kept k', d, k.trans k'⟩
/-- A step of the first one. -/
theorem fst (h : Pair T1 lay1 T2 lay2 w W b1 s1 b2 s2) : ∃ v1, MemAt T1 lay1 W w.heap.size b1 v1 s1 ∧ ∀ W' s', Does T1 lay1 w.heap.size b1 v1 s' W W' → Pair T1 lay1 T2 lay2 w W' b1 s' b2 s2 := by
  obtain ⟨v1, v2, h1, h2, d, k⟩ := h
  refine ⟨v1, h1, fun W' s' hd => ?_⟩
  obtain ⟨v', h', t, hf⟩ := hd
  refine ⟨v', v2, h', h2.turned t (fun i e e' => d i e' e), fun i e e' => ?_, k.own (fun i e => (h1.lt i e).1) t⟩
  rcases hf i e with hi | hi
  · exact d i hi e'
  · have := (h2.lt i e').2
    omega
/-- A step of the second one. -/
theorem snd (h : Pair T1 lay1 T2 lay2 w W b1 s1 b2 s2) : ∃ v2, MemAt T2 lay2 W w.heap.size b2 v2 s2 ∧ ∀ W' s', Does T2 lay2 w.heap.size b2 v2 s' W W' → Pair T1 lay1 T2 lay2 w W' b1 s1 b2 s' := by
  obtain ⟨v2, h2, hs⟩ := h.swap.fst
  exact ⟨v2, h2, fun W' s' hd => (hs W' s' hd).swap⟩
/-- A second one, all of it new. -/
theorem of (h : ∃ v, MemAt T1 lay1 W w.heap.size b1 v s1) (hk : Kept w W) (h2 : ∃ v, MemAt T2 lay2 W' W.heap.size b2 v s2) (k : Kept W W') : Pair T1 lay1 T2 lay2 w W' b1 s1 b2 s2 := by
  obtain ⟨v1, h1⟩ := h
  obtain ⟨v2, h2⟩ := h2
  refine ⟨v1, v2, h1.kept k, h2.low hk.size, fun i e e' => ?_, hk.trans k⟩
  have a1 := (h1.lt i e).2
  have a2 := (h2.lt i e').1
  omega
theorem now1 (h : Pair 66 layP T2 lay2 w W b1 s1 b2 s2) : Now w W b1 s1 := by
  obtain ⟨v1, v2, h1, h2, d, k⟩ := h
  exact ⟨⟨v1, h1⟩, k⟩
theorem now2 (h : Pair T1 lay1 66 layP w W b1 s1 b2 s2) : Now w W b2 s2 := h.swap.now1
end Pair
end
end Go.Proofs.Ytgialpjdfeldeaa

/-! What the calls of node that tell a record's cells answer (LeafWords, EmptyWords, RebuildWords, DcssWords), and the document's own; slices.Grow of nil, slices.Concat of any slices of numbers; an append of any slice that reads as numbers to a row of one's own. No conditions beyond each theorem's own. -/
namespace Go.Proofs.Ytgialpjdfeldeaa
open Go.RowKit
set_option maxRecDepth 20000

theorem empty_c (w : World) : Calls Try.prog 52 #[] w (Fresh [0] w) := by
  go_enter Try.func52, Try.ntmps52
  go_wp2
  go_ret
  exact ⟨_, rfl, row_new w 2 [0] _ (Nat.le_refl _) (by simp), Turned.alloc _ _ _⟩
theorem Row.low {w : World} {n₀ m : Nat} {e : TypeId} {v : Value} {zs : List Int} (h : Row w n₀ e v zs) (hm : m ≤ n₀) : Row w m e v zs := by
  obtain ⟨h1, h2⟩ := h
  refine ⟨h1, ?_⟩
  rcases h2 with h2 | ⟨g, cap, cur, rfl, hg, r⟩
  · exact .inl h2
  · exact .inr ⟨g, cap, cur, rfl, Nat.le_trans hm hg, r⟩
theorem Fresh.low {zs : List Int} {w W W' : World} {e : Ending} (h : Fresh zs W e W') (hk : Kept w W) : Fresh zs w e W' := by
  obtain ⟨v, h1, h2, h3⟩ := h
  exact ⟨v, h1, h2.low hk.size, hk.trans h3⟩

/-- slices.Grow of nil. -/
theorem grow_c (w : World) (n : Nat) (hn : n ≤ 1000000) : Calls Try.prog 101 #[.slice none 0 0, .int .i64 (n : Int)] w (Fresh [] w) := by
  by_cases h0 : n = 0
  · subst h0
    go_enter Try.func101, Try.ntmps101
    go_wp2
    go_ret
    exact ⟨_, rfl, World.ownsRow_nil _ _ _ _, Kept.refl _⟩
  · obtain ⟨i0, hi, hz0, hz1, hz2⟩ := info_parts info2_p
    have i1 : (0 : Int) < (n : Int) := by omega
    have hrz : ∀ ty, (Builtin.append_ #[35, 3] ty #[.slice none 0 0, .int .i64 (n : Int)]).run Try.prog w =
        .ok (.slice (some ⟨w.heap.size, 0, none⟩) n (grownCap w n 0 2)) (w.drew.alloc (.cells (#[] ++ Builtin.zeroCells (Value.int .i64 0).cells n ++ Builtin.zeroCells (Value.int .i64 0).cells (grownCap w n 0 2 - n)) 2)) := fun ty => by
      have h := Lib.run_append_grow_zeros w 35 3 ty 2 i0 (.int .i64 0) .i64 .i64 Try.underlying35 Try.underlying3 hi hz0 none 0 0 [] (run_firstCells_none w.drew i0.size 0 0 0) n (by omega) (by omega) (by omega) (by omega) (by rw [hz2]; omega) (by rw [hz2, Nat.zero_add]; exact growslice_fits (by omega) (by omega))
      rw [Nat.zero_add] at h
      exact h
    have hGn : n ≤ grownCap w n 0 2 := grownCap_ge w _ _ _
    have hGm : grownCap w n 0 2 ≤ maxLen := grownCap_le_maxLen w n 0 2 (by unfold maxLen; omega)
    obtain ⟨G, hG⟩ : ∃ G, G = grownCap w n 0 2 := ⟨_, rfl⟩
    rw [← hG] at hrz hGn hGm
    have hG63 : (G : Int) ≤ 9223372036854775807 := by unfold maxLen at hGm; omega
    have HF : Hid (Fresh [] w (.returned (.slice (some ⟨w.heap.size, 0, none⟩) 0 G)) ((w.alloc (.cells (Builtin.zeroCells #[.int .i64 0] n ++ Builtin.zeroCells #[.int .i64 0] (G - n)) 2)).drew)) := hide ⟨_, rfl, ⟨rfl, .inr ⟨w.heap.size, G, _, rfl, Nat.le_refl _, heap_new w _, Nat.zero_le _, hGm, by simp [size_zeroCells]; omega, rfl⟩⟩, ((Kept.refl w).alloc _).trans (Kept.drew _)⟩
    clear hG hGm
    go_enter Try.func101, Try.ntmps101
    go_wp2_with (at_builtin; refine Lib.wpList_append_run _ rfl _ _ _ _ rfl _ _ rfl rfl _ _ (hrz _) ?_)
    all_goals (go_ret; exact HF.out)

theorem wpList_append_reads {w : World} {ops : Array Oper} {rest : List Oper} {o : Oper} {a : Act} {Q : Exit → Act → World → Prop} (hgd : o.guard = none) (s x : Operand)
    (ho : o.op = .call { callee := .builtin .append, args := #[s, x], argTypes := #[35, 35] }) (base : Nat) (v : Value) (k : Nat) (xs : List Value) (hs : a.eval s = v) (hown : w.ownsRow base 2 1 v k xs)
    (aw : Option Addr) (ws : List Int) (cw : Nat) (hx : a.eval x = .slice aw ws.length cw) (hr : Reads w aw ws) (h0 : aw = none → cw = 0) (hl : k + ws.length ≤ 1000000) (hbase : base ≤ w.heap.size)
    (h : ∀ v' w', w'.ownsRow base 2 1 v' (k + ws.length) (xs ++ cellsOf ws) → w.grownBy w' v.ownBlock → (v'.ownBlock = v.ownBlock ∨ v'.ownBlock = some w.heap.size) → wpList Try.prog ops Q rest (a.put o.dst v') w') :
    wpList Try.prog ops Q (o :: rest) a w := by
  obtain ⟨i0, hi, hz0, hz1, hz2⟩ := info_parts info2_p
  cases aw with
  | none =>
    have e0 : ws = [] := by
      rcases hr with e | ⟨_, _, e, _⟩
      · exact e
      · cases e
    subst e0
    obtain rfl := h0 rfl
    refine wpList_plain hgd fun K hK => ?_
    have hrun := run_append_owned_none (P := Try.prog) (w := w) base 35 o.type 2 i0 1 Try.underlying35 hi v k xs hown
    unfold Oper.wp execOp
    simp only [ho, resolve, invoke, builtin, Sem.run_bind, Sem.run_pure, Result.andThen_ok, List.map_toArray, List.map_cons, List.map_nil, hs, hx, List.length_nil, hrun]
    exact hK _ _ (h v w (by simpa using hown) (World.grownBy.refl _ _) (.inl rfl))
  | some ad =>
    by_cases e0 : ws = []
    · subst e0
      exact wpList_append_own_at w hgd s x 35 ho base 2 i0 (.int .i64 0) 1 8 Try.underlying35 hi hz0 hz1 hz2 rfl (by decide) v k xs hs hown ad 0 cw [] hx rfl (by simp) (by simp) (by simp at hl; unfold maxLen; omega) (by simp at hl; omega) hbase (fun v' w' h1 h2 _ h4 => h v' w' (by simpa using h1) h2 h4)
    · obtain ⟨bl, off, e, hrow⟩ : ∃ bl off, some ad = some ⟨bl, off, none⟩ ∧ ∀ j z, ws[j]? = some z → w.cell? ⟨bl, off + j, none⟩ = some (.int .i64 z) := by
        rcases hr with e | h
        · exact (e0 e).elim
        · exact h
      obtain rfl : ad = ⟨bl, off, none⟩ := Option.some.inj e
      exact wpList_append_own_at w hgd s x 35 ho base 2 i0 (.int .i64 0) 1 8 Try.underlying35 hi hz0 hz1 hz2 rfl (by decide) v k xs hs hown ⟨bl, off, none⟩ ws.length cw (cellsOf ws) hx (by simp) (news_p hrow) (ints_oneCell _ _) (by unfold maxLen; omega) (by omega) hbase (fun v' w' h1 h2 _ h4 => h v' w' h1 h2 h4)

/-- An append to a row from n₀ on turns nothing that lay below. -/
theorem kept_append {w0 w w1 : World} {v : Value} {ys : List Int} (k : Kept w0 w) (hr : Row w w0.heap.size 2 v ys) (hg : w.grownBy w1 v.ownBlock) : Kept w0 w1 :=
  k.own (O := fun j => v.ownBlock = some j) (fun i e => (hr.lt i e).1) (Turned.of_grownBy (R := fun j => v.ownBlock = some j) hg (fun _ h => h))

/-- The slices of numbers that lie in a block. -/
def Lists (w : World) (B : Nat) (L : List (List Int)) : Prop :=
  ∀ (t : Nat) (zs : List Int), L[t]? = some zs → ∃ a cap, w.cell? ⟨B, t, none⟩ = some (.slice a zs.length cap) ∧ Reads w a zs ∧ (a = none → cap = 0)
theorem Lists.kept {w w' : World} {B : Nat} {L : List (List Int)} (h : Lists w B L) (k : Kept w w') : Lists w' B L := fun t zs ht => by
  obtain ⟨a, cap, h1, h2, h3⟩ := h t zs ht
  exact ⟨a, cap, k.cell h1 id, h2.kept k, h3⟩
theorem flat_step {L : List (List Int)} {t : Nat} {zs : List Int} (h : L[t]? = some zs) : (L.take (t + 1)).flatten = (L.take t).flatten ++ zs := by
  rw [List.take_add_one, h]
  simp
theorem flat_le {L : List (List Int)} {M : Nat} (h : L.flatten.length ≤ M) (t : Nat) : (L.take t).flatten.length ≤ M := by
  have : L.flatten = (L.take t).flatten ++ (L.drop t).flatten := by rw [← List.flatten_append, List.take_append_drop]
  rw [this, List.length_append] at h
  omega

set_option maxRecDepth 100000 in
set_option maxHeartbeats 2000000 in
/-- slices.Concat -/
theorem concat_c (w : World) (B n cap : Nat) (L : List (List Int)) (hL : Lists w B L) (hn : L.length = n) (hn1 : n ≤ 100000) (hc : n ≤ cap) (hs : L.flatten.length ≤ 100000) : Calls Try.prog 79 #[.slice (some ⟨B, 0, none⟩) n cap] w (Fresh L.flatten w) := by
  have HL := hide hL
  have HN := hide hn
  have HS := hide hs
  clear hL hn hs
  go_enter Try.func79, Try.ntmps79
  go_wp2
  go_loopw [3, 11] (fun s i wr => ∃ t m : Nat, t ≤ n ∧ m ≤ 100000 ∧ s = .int .i64 (m : Int) ∧ i = .int .i64 (t : Int) ∧ w = wr ∧ Hid (m = (L.take t).flatten.length)) (fun _ i _ => n - (intOf i).toNat)
  case atStart => exact ⟨0, 0, Nat.zero_le _, Nat.zero_le _, rfl, rfl, rfl, hide (by simp)⟩
  case round =>
    obtain ⟨t, m, ht, hm, rfl, rfl, rfl, HM⟩ := hrel
    by_cases hlt : t < n
    · obtain ⟨zs, hz⟩ : ∃ zs, L[t]? = some zs := ⟨_, List.getElem?_eq_getElem (by rw [HN.out]; exact hlt)⟩
      obtain ⟨a, cp, c1, -, -⟩ := HL.out t zs hz
      have i1 : (t : Int) < (n : Int) := by omega
      have i3 : t < cap := by omega
      have hmz : m + zs.length ≤ 100000 := by
        have e1 := flat_le HS.out (t + 1)
        rw [flat_step hz, List.length_append, ← HM.out] at e1
        exact e1
      have HM' : Hid (m + zs.length = (L.take (t + 1)).flatten.length) := hide (by rw [flat_step hz, List.length_append, ← HM.out])
      clear hz
      go_wp2
      exact ⟨⟨t + 1, m + zs.length, by omega, hmz, by simp, by simp, by simp, HM'⟩, by simp [intOf]; omega⟩
    · have i1 : ¬ ((t : Int) < (n : Int)) := by omega
      clear HM
      go_wp2_with (fail)
      refine (grow_c _ m (by omega)).mono ?_
      rintro e W1 ⟨v1, rfl, hrow, hk⟩
      have HR := hide hrow
      have HK := hide hk
      clear hrow hk
      go_wp2
      go_loopw [6, 27] (fun v i wr => ∃ (t : Nat) (ys : List Int), t ≤ n ∧ i = .int .i64 (t : Int) ∧ Hid (Row wr w.heap.size 2 v ys) ∧ Hid (ys = (L.take t).flatten) ∧ Hid (Kept w wr)) (fun _ i _ => n - (intOf i).toNat)
      case atStart => exact ⟨0, [], Nat.zero_le _, rfl, HR, hide (by simp), HK⟩
      case round =>
        obtain ⟨t, ys, ht, rfl, HR1, HY, HK1⟩ := hrel
        clear HR HK
        by_cases hlt : t < n
        · obtain ⟨zs, hz⟩ : ∃ zs, L[t]? = some zs := ⟨_, List.getElem?_eq_getElem (by rw [HN.out]; exact hlt)⟩
          obtain ⟨a, cp, c1, r1, h0⟩ := (HL.out.kept HK1.out) t zs hz
          have i1 : (t : Int) < (n : Int) := by omega
          have i3 : t < cap := by omega
          have HZ : Hid (ys.length + zs.length ≤ 1000000) := hide (by
            have e1 := flat_le HS.out (t + 1)
            rw [flat_step hz, List.length_append, ← HY.out] at e1
            omega)
          have HY' : Hid (ys ++ zs = (L.take (t + 1)).flatten) := hide (by rw [flat_step hz, ← HY.out])
          have R1 := hide r1
          have H0 := hide h0
          clear hz r1 h0
          go_wp2_with (at_builtin; refine Stop.out ?_)
          refine ⟨?_⟩
          refine wpList_append_reads rfl _ _ rfl w.heap.size _ ys.length (cellsOf ys) rfl HR1.out a zs cp rfl R1.out H0.out HZ.out HK1.out.size ?_
          intro v2 w2 hown hg _
          have HR2 : Hid (Row w2 w.heap.size 2 v2 (ys ++ zs)) := hide (by
            show World.ownsRow _ _ 2 1 _ (ys ++ zs).length (cellsOf (ys ++ zs))
            rw [List.length_append, cellsOf, List.map_append]
            exact hown)
          have HK2 := hide (kept_append HK1.out HR1.out hg)
          clear hown hg
          go_wp2
          exact ⟨⟨t + 1, ys ++ zs, by omega, by simp, HR2, HY', HK2⟩, by simp [intOf]; omega⟩
        · have i1 : ¬ ((t : Int) < (n : Int)) := by omega
          have HE : Hid (ys = L.flatten) := hide (by rw [HY.out, List.take_of_length_le (by rw [HN.out]; omega)])
          go_wp2
          go_ret
          exact ⟨_, rfl, by rw [← HE.out]; exact HR1.out, HK1.out⟩
end Go.Proofs.Ytgialpjdfeldeaa

/-! What InnerWords, KeyAt, ChildAt and Begin of node answer, and the document's own InnerWords, KeyAt, ChildAt. No conditions beyond each theorem's own. -/
namespace Go.Proofs.Ytgialpjdfeldeaa
open Go.RowKit

/-- The cells of an Inner. -/
def innerL (size : Int) (q c : List Int) : List Int := [(c.length : Int), size, 0, 0, 0] ++ (q ++ c)
theorem innerL_length (size : Int) (q c : List Int) : (innerL size q c).length = 5 + q.length + c.length := by simp [innerL]; omega

theorem inner_lists {w : World} (size : Int) {aq ac : Option Addr} {q c : List Int} {cq cc : Nat} (hq : Reads w aq q) (hc : Reads w ac c) (hq0 : aq = none → cq = 0) (hc0 : ac = none → cc = 0) :
    Lists ((w.alloc (.cells #[.int .i64 (c.length : Int), .int .i64 size, .int .i64 0, .int .i64 0, .int .i64 0] 2)).alloc (.cells #[.slice (some ⟨w.heap.size, 0, none⟩) 5 5, .slice aq q.length cq, .slice ac c.length cc] 35)) (w.heap.size + 1) [[(c.length : Int), size, 0, 0, 0], q, c] := by
  have k1 : Kept w (w.alloc (.cells #[.int .i64 (c.length : Int), .int .i64 size, .int .i64 0, .int .i64 0, .int .i64 0] 2)) := Turned.alloc _ _ _
  have r1 : Reads (w.alloc (.cells #[.int .i64 (c.length : Int), .int .i64 size, .int .i64 0, .int .i64 0, .int .i64 0] 2)) (some ⟨w.heap.size, 0, none⟩) [(c.length : Int), size, 0, 0, 0] := Reads.new w 2 [(c.length : Int), size, 0, 0, 0]
  have hq1 := hq.kept k1
  have hc1 := hc.kept k1
  have hs : (w.alloc (.cells #[.int .i64 (c.length : Int), .int .i64 size, .int .i64 0, .int .i64 0, .int .i64 0] 2)).heap.size = w.heap.size + 1 := by simp
  generalize w.alloc (.cells #[.int .i64 (c.length : Int), .int .i64 size, .int .i64 0, .int .i64 0, .int .i64 0] 2) = W at *
  have k2 : Kept W (W.alloc (.cells #[.slice (some ⟨w.heap.size, 0, none⟩) 5 5, .slice aq q.length cq, .slice ac c.length cc] 35)) := Turned.alloc _ _ _
  have hb : (W.alloc (.cells #[.slice (some ⟨w.heap.size, 0, none⟩) 5 5, .slice aq q.length cq, .slice ac c.length cc] 35)).heap[w.heap.size + 1]? = some (.cells #[.slice (some ⟨w.heap.size, 0, none⟩) 5 5, .slice aq q.length cq, .slice ac c.length cc] 35) := by rw [← hs]; exact heap_new W _
  intro t zs ht
  rcases t with _ | _ | _ | t
  · simp at ht
    subst ht
    exact ⟨_, 5, by simp [World.cell?, hb], r1.kept k2, fun e => by cases e⟩
  · simp at ht
    subst ht
    exact ⟨aq, cq, by simp [World.cell?, hb], hq1.kept k2, hq0⟩
  · simp at ht
    subst ht
    exact ⟨ac, cc, by simp [World.cell?, hb], hc1.kept k2, hc0⟩
  · simp at ht

/-- InnerWords, of one more child than there are keys. -/
theorem inner_c (w : World) (size : Int) (aq : Option Addr) (q : List Int) (cq : Nat) (ac : Option Addr) (c : List Int) (cc : Nat) (hq : Reads w aq q) (hc : Reads w ac c) (hq0 : aq = none → cq = 0) (hc0 : ac = none → cc = 0) (hlen : c.length = q.length + 1) (hl : c.length ≤ 40000) :
    Calls Try.prog 50 #[.int .i64 size, .slice aq q.length cq, .slice ac c.length cc] w (Fresh (innerL size q c) w) := by
  have HC := hide (concat_c _ (w.heap.size + 1) 3 3 _ (inner_lists size hq hc hq0 hc0) rfl (by decide) (by decide) (by simp; omega))
  have K1 : Kept w ((w.alloc (.cells #[.int .i64 (c.length : Int), .int .i64 size, .int .i64 0, .int .i64 0, .int .i64 0] 2)).alloc (.cells #[.slice (some ⟨w.heap.size, 0, none⟩) 5 5, .slice aq q.length cq, .slice ac c.length cc] 35)) := ((Kept.refl w).alloc _).alloc _
  have KK := hide K1
  have HE : Hid ([[(c.length : Int), size, 0, 0, 0], q, c].flatten = innerL size q c) := hide (by simp [innerL])
  have n1 : ((c.length : Int) == (q.length : Int) + 1) = true := by simp only [beq_iff_eq]; omega
  have n2 : ((c.length : Int) != (q.length : Int) + 1) = false := by simp only [bne_eq_false_iff_eq]; omega
  have i1 : (q.length : Int) ≤ 40000 := by omega
  clear hq hc hq0 hc0 hlen hl K1
  go_enter Try.func50, Try.ntmps50
  go_wp2_with (fail)
  refine HC.out.mono ?_
  intro e W1 h
  rw [HE.out] at h
  obtain ⟨v1, rfl, hrow, hk⟩ := h.low KK.out
  have HR := hide hrow
  have HK := hide hk
  clear hrow hk h
  go_wp2
  go_ret
  exact ⟨_, rfl, HR.out, HK.out⟩
/-- .. of as many as else. -/
theorem inner0_c (w : World) (size : Int) (aq : Option Addr) (q : List Int) (cq : Nat) (ac : Option Addr) (c : List Int) (cc : Nat) (hlen : c.length ≠ q.length + 1) (hl : q.length ≤ 1000000) :
    Calls Try.prog 50 #[.int .i64 size, .slice aq q.length cq, .slice ac c.length cc] w fun e w' => e = .returned (.slice none 0 0) ∧ w = w' := by
  have n1 : ((c.length : Int) == (q.length : Int) + 1) = false := by simp only [beq_eq_false_iff_ne, ne_eq]; omega
  have n2 : ((c.length : Int) != (q.length : Int) + 1) = true := by simp only [bne_iff_ne, ne_eq]; omega
  have i1 : (q.length : Int) ≤ 1000000 := by omega
  clear hlen hl
  go_enter Try.func50, Try.ntmps50
  go_wp2
  go_ret
  exact ⟨rfl, rfl⟩

/-- Is it 0 to 2^40? -/
def nearB (x : Int) : Bool := decide (0 ≤ x) && decide (x ≤ 1099511627776)
theorem nearB_iff {x : Int} : nearB x = true ↔ 0 ≤ x ∧ x ≤ 1099511627776 := by simp [nearB]
def keyZ (n i : Int) : Int := if (nearB n && nearB i) = true then n + 4 + i else 0
def childZ (n d i : Int) : Int := if (nearB n && nearB d && nearB i) = true then n + 4 + d + i else 0
theorem keyZ_in {n i : Int} (h1 : 0 ≤ n) (h2 : n ≤ 100000) (h3 : 0 ≤ i) (h4 : i ≤ 100000) : keyZ n i = n + 4 + i := by
  rw [keyZ, nearB_iff.2 ⟨h1, by omega⟩, nearB_iff.2 ⟨h3, by omega⟩]
  rfl
theorem childZ_in {n d i : Int} (h1 : 0 ≤ n) (h2 : n ≤ 100000) (h3 : 0 ≤ d) (h4 : d ≤ 100000) (h5 : 0 ≤ i) (h6 : i ≤ 100000) : childZ n d i = n + 4 + d + i := by
  rw [childZ, nearB_iff.2 ⟨h1, by omega⟩, nearB_iff.2 ⟨h3, by omega⟩, nearB_iff.2 ⟨h5, by omega⟩]
  rfl

theorem near_c (w : World) (x : Int) (u : Bool) (hu : nearB x = u) : Calls Try.prog 111 #[.int .i64 x] w fun e w' => e = .returned (.bool u) ∧ w = w' := by
  subst hu
  by_cases h1 : 0 ≤ x
  · go_enter Try.func111, Try.ntmps111
    go_wp2
    go_ret
    exact ⟨congrArg (fun b => Ending.returned (.bool b)) (by simp [nearB, h1]), rfl⟩
  · go_enter Try.func111, Try.ntmps111
    go_wp2
    go_ret
    exact ⟨congrArg (fun b => Ending.returned (.bool b)) (by simp [nearB]; omega), rfl⟩
theorem key_c (w : World) (n i r : Int) (h : keyZ n i = r) : Calls Try.prog 105 #[.int .i64 n, .int .i64 i] w fun e w' => e = .returned (.int .i64 r) ∧ w = w' := by
  subst h
  cases hn : nearB n with
  | false =>
    have HN := hide hn
    clear hn
    go_enter Try.func105, Try.ntmps105
    go_wp2_with (fail)
    refine (near_c _ n false HN.out).mono ?_
    rintro e w' ⟨rfl, rfl⟩
    go_wp2
    go_ret
    exact ⟨by rw [keyZ, HN.out]; rfl, rfl⟩
  | true =>
    cases hi : nearB i with
    | false =>
      have HN := hide hn
      have HI := hide hi
      clear hn hi
      go_enter Try.func105, Try.ntmps105
      go_wp2_with (fail)
      refine (near_c _ n true HN.out).mono ?_
      rintro e w' ⟨rfl, rfl⟩
      go_wp2_with (fail)
      refine (near_c _ i false HI.out).mono ?_
      rintro e w' ⟨rfl, rfl⟩
      go_wp2
      go_ret
      exact ⟨by rw [keyZ, HN.out, HI.out]; rfl, rfl⟩
    | true =>
      have HN := hide hn
      have HI := hide hi
      obtain ⟨i1, i2⟩ := nearB_iff.1 hn
      obtain ⟨i3, i4⟩ := nearB_iff.1 hi
      clear hn hi
      go_enter Try.func105, Try.ntmps105
      go_wp2_with (fail)
      refine (near_c _ n true HN.out).mono ?_
      rintro e w' ⟨rfl, rfl⟩
      go_wp2_with (fail)
      refine (near_c _ i true HI.out).mono ?_
      rintro e w' ⟨rfl, rfl⟩
      go_wp2
      go_ret
      exact ⟨by rw [keyZ, HN.out, HI.out]; rfl, rfl⟩
theorem child_c (w : World) (n d i r : Int) (h : childZ n d i = r) : Calls Try.prog 108 #[.int .i64 n, .int .i64 d, .int .i64 i] w fun e w' => e = .returned (.int .i64 r) ∧ w = w' := by
  subst h
  cases hn : nearB n with
  | false =>
    have HN := hide hn
    clear hn
    go_enter Try.func108, Try.ntmps108
    go_wp2_with (fail)
    refine (near_c _ n false HN.out).mono ?_
    rintro e w' ⟨rfl, rfl⟩
    go_wp2
    go_ret
    exact ⟨by rw [childZ, HN.out]; rfl, rfl⟩
  | true =>
    cases hd : nearB d with
    | false =>
      have HN := hide hn
      have HD := hide hd
      clear hn hd
      go_enter Try.func108, Try.ntmps108
      go_wp2_with (fail)
      refine (near_c _ n true HN.out).mono ?_
      rintro e w' ⟨rfl, rfl⟩
      go_wp2_with (fail)
      refine (near_c _ d false HD.out).mono ?_
      rintro e w' ⟨rfl, rfl⟩
      go_wp2
      go_ret
      exact ⟨by rw [childZ, HN.out, HD.out]; rfl, rfl⟩
    | true =>
      cases hi : nearB i with
      | false =>
        have HN := hide hn
        have HD := hide hd
        have HI := hide hi
        clear hn hi hd
        go_enter Try.func108, Try.ntmps108
        go_wp2_with (fail)
        refine (near_c _ n true HN.out).mono ?_
        rintro e w' ⟨rfl, rfl⟩
        go_wp2_with (fail)
        refine (near_c _ d true HD.out).mono ?_
        rintro e w' ⟨rfl, rfl⟩
        go_wp2_with (fail)
        refine (near_c _ i false HI.out).mono ?_
        rintro e w' ⟨rfl, rfl⟩
        go_wp2
        go_ret
        exact ⟨by rw [childZ, HN.out, HD.out, HI.out]; rfl, rfl⟩
      | true =>
        have HN := hide hn
        have HD := hide hd
        have HI := hide hi
        obtain ⟨i1, i2⟩ := nearB_iff.1 hn
        obtain ⟨i3, i4⟩ := nearB_iff.1 hi
        obtain ⟨i5, i6⟩ := nearB_iff.1 hd
        clear hn hi hd
        go_enter Try.func108, Try.ntmps108
        go_wp2_with (fail)
        refine (near_c _ n true HN.out).mono ?_
        rintro e w' ⟨rfl, rfl⟩
        go_wp2_with (fail)
        refine (near_c _ d true HD.out).mono ?_
        rintro e w' ⟨rfl, rfl⟩
        go_wp2_with (fail)
        refine (near_c _ i true HI.out).mono ?_
        rintro e w' ⟨rfl, rfl⟩
        go_wp2
        go_ret
        exact ⟨by rw [childZ, HN.out, HD.out, HI.out]; rfl, rfl⟩

end Go.Proofs.Ytgialpjdfeldeaa

/-! What the functions of package ref, of the document's reckoning of chapter 1 and ordinatehand.Cut answer, each in one sentence (a contract), for every int64 that may be handed to them; no world is turned. -/
namespace Go.Proofs.Ytgialpjdfeldeaa.Rf
open Go.ChangeShapes Go.WideShapes Go.ChangeAt Go.RowKit

/-! ### The plain side: what the words are -/
def rt (a : Int) : Bool := decide (9 ≤ a ∧ a ≤ 524293 ∧ 1 ≤ a % 8 ∧ a % 8 ≤ 5)
def may (k t : Int) : Bool := decide (1 ≤ k ∧ k ≤ 5 ∧ 1 ≤ t ∧ t ≤ 65536)
def ofZ (k t : Int) : Int := if may k t = true then 8 * t + k else 0
def kindZ (a : Int) : Int := if rt a = true then a % 8 else 0
def atZ (a : Int) : Int := if rt a = true then a / 8 else 0

theorem tdiv8 (a : Int) : a.tdiv 8 = if 0 ≤ a then a / 8 else -((-a) / 8) := by
  split
  · exact Int.tdiv_eq_ediv_of_nonneg (by assumption)
  · have h : a = -(-a) := by omega
    rw [h, Int.neg_tdiv, Int.tdiv_eq_ediv_of_nonneg (by omega)]
    omega
theorem tmod8 (a : Int) : a.tmod 8 = a - 8 * a.tdiv 8 := by
  have := Int.tmod_add_mul_tdiv a 8
  omega
theorem wrap_same {a : Int} (h : -9223372036854775808 ≤ a) (h' : a ≤ 9223372036854775807) : wrap64 a = a := by
  unfold wrap64
  omega
theorem wdiv8 {a : Int} (h : (Lit.int .i64 a).wf = true) : wrap64 (a.tdiv 8) = a.tdiv 8 := by
  have := bounds_i64 h
  have e := tdiv8 a
  apply wrap_same <;> split at e <;> omega

theorem right_c (a : Int) (ha : (Lit.int .i64 a).wf = true) (w : World) :
    Calls Try.prog 91 #[.int .i64 a] w fun e w' => e = .returned (.bool (rt a)) ∧ w' = w := by
  have hw := wdiv8 ha
  have e1 := tdiv8 a
  have e2 := tmod8 a
  have hb := bounds_i64 ha
  by_cases hr : 9 ≤ a ∧ a ≤ 524293 ∧ 1 ≤ a % 8 ∧ a % 8 ≤ 5
  · have er : rt a = true := by simp [rt]; omega
    have c1 : 1 ≤ wrap64 (a.tdiv 8) := by rw [hw]; split at e1 <;> omega
    have c2 : wrap64 (a.tdiv 8) ≤ 65536 := by rw [hw]; split at e1 <;> omega
    have c3 : 1 ≤ a.tmod 8 := by split at e1 <;> omega
    have c4 : a.tmod 8 ≤ 5 := by split at e1 <;> omega
    clear hw e1 e2 hb hr ha
    rw [er]
    clear er
    go_enter Try.func91, Try.ntmps91
    go_wp2
    go_ret
    exact ⟨rfl, rfl⟩
  · have er : rt a = false := by simp [rt]; omega
    rw [er]
    clear er ha
    by_cases c1 : 1 ≤ wrap64 (a.tdiv 8)
    · by_cases c2 : wrap64 (a.tdiv 8) ≤ 65536
      · by_cases c3 : 1 ≤ a.tmod 8
        · have c4 : ¬ a.tmod 8 ≤ 5 := by rw [hw] at c1 c2; split at e1 <;> omega
          clear hw e1 e2 hb hr
          go_enter Try.func91, Try.ntmps91
          go_wp2
          go_ret
          exact ⟨rfl, rfl⟩
        · clear hw e1 e2 hb hr
          go_enter Try.func91, Try.ntmps91
          go_wp2
          go_ret
          exact ⟨rfl, rfl⟩
      · clear hw e1 e2 hb hr
        go_enter Try.func91, Try.ntmps91
        go_wp2
        go_ret
        exact ⟨rfl, rfl⟩
    · clear hw e1 e2 hb hr
      go_enter Try.func91, Try.ntmps91
      go_wp2
      go_ret
      exact ⟨rfl, rfl⟩

theorem kind_c (a : Int) (ha : (Lit.int .i64 a).wf = true) (w : World) :
    Calls Try.prog 60 #[.int .i64 a] w fun e w' => e = .returned (.int .i64 (kindZ a)) ∧ w' = w := by
  by_cases hr : rt a = true
  · have ek : kindZ a = a.tmod 8 := by
      have e1 := tdiv8 a
      have e2 := tmod8 a
      have hr' := hr
      simp only [rt, decide_eq_true_eq] at hr'
      simp only [kindZ, hr, if_true]
      split at e1 <;> omega
    rw [ek]
    clear ek
    have hc := right_c a ha
    rw [hr] at hc
    clear hr ha
    go_enter Try.func60, Try.ntmps60
    go_wp2_with (go_at_call 91; refine (hc _).mono ?_; rintro e w' ⟨rfl, rfl⟩)
    go_ret
    exact ⟨rfl, rfl⟩
  · have ek : kindZ a = 0 := by simp [kindZ, hr]
    rw [ek]
    clear ek
    have hc := right_c a ha
    rw [Bool.eq_false_iff.mpr hr] at hc
    clear hr ha
    go_enter Try.func60, Try.ntmps60
    go_wp2_with (go_at_call 91; refine (hc _).mono ?_; rintro e w' ⟨rfl, rfl⟩)
    go_ret
    exact ⟨rfl, rfl⟩
theorem at_c (a : Int) (ha : (Lit.int .i64 a).wf = true) (w : World) :
    Calls Try.prog 86 #[.int .i64 a] w fun e w' => e = .returned (.int .i64 (atZ a)) ∧ w' = w := by
  by_cases hr : rt a = true
  · have ek : atZ a = wrap64 (a.tdiv 8) := by
      rw [wdiv8 ha]
      have e1 := tdiv8 a
      have e2 := tmod8 a
      have hr' := hr
      simp only [rt, decide_eq_true_eq] at hr'
      simp only [atZ, hr, if_true]
      split at e1 <;> omega
    rw [ek]
    clear ek
    have hc := right_c a ha
    rw [hr] at hc
    clear hr ha
    go_enter Try.func86, Try.ntmps86
    go_wp2_with (go_at_call 91; refine (hc _).mono ?_; rintro e w' ⟨rfl, rfl⟩)
    go_ret
    exact ⟨rfl, rfl⟩
  · have ek : atZ a = 0 := by simp [atZ, hr]
    rw [ek]
    clear ek
    have hc := right_c a ha
    rw [Bool.eq_false_iff.mpr hr] at hc
    clear hr ha
    go_enter Try.func86, Try.ntmps86
    go_wp2_with (go_at_call 91; refine (hc _).mono ?_; rintro e w' ⟨rfl, rfl⟩)
    go_ret
    exact ⟨rfl, rfl⟩
theorem of_c (k t : Int) (w : World) :
    Calls Try.prog 51 #[.int .i64 k, .int .i64 t] w fun e w' => e = .returned (.int .i64 (ofZ k t)) ∧ w' = w := by
  by_cases hm : 1 ≤ k ∧ k ≤ 5 ∧ 1 ≤ t ∧ t ≤ 65536
  · obtain ⟨c1, c2, c3, c4⟩ := hm
    have eo : ofZ k t = 8 * t + k := by simp [ofZ, may, c1, c2, c3, c4]
    rw [eo]
    clear eo
    go_enter Try.func51, Try.ntmps51
    go_wp2
    go_ret
    exact ⟨rfl, rfl⟩
  · have eo : ofZ k t = 0 := by simp [ofZ, may]; omega
    rw [eo]
    clear eo
    by_cases c1 : 1 ≤ k
    · by_cases c2 : k ≤ 5
      · by_cases c3 : 1 ≤ t
        · have c4 : ¬ t ≤ 65536 := by omega
          clear hm
          go_enter Try.func51, Try.ntmps51
          go_wp2
          go_ret
          exact ⟨rfl, rfl⟩
        · clear hm
          go_enter Try.func51, Try.ntmps51
          go_wp2
          go_ret
          exact ⟨rfl, rfl⟩
      · clear hm
        go_enter Try.func51, Try.ntmps51
        go_wp2
        go_ret
        exact ⟨rfl, rfl⟩
    · clear hm
      go_enter Try.func51, Try.ntmps51
      go_wp2
      go_ret
      exact ⟨rfl, rfl⟩

theorem cut_plain (x n : Int) (hn : 0 < n) : x % n = if x.tmod n < 0 then x.tmod n + n else x.tmod n := by
  have e1 := Int.tmod_eq_emod (a := x) (b := n)
  have e2 := Int.emod_nonneg x (show n ≠ 0 by omega)
  have e3 := Int.emod_lt_of_pos x hn
  split <;> split at e1 <;> omega

theorem cut_c (x n : Int) (hn : 0 < n) (hn' : n ≤ 65536) (w : World) :
    Calls Try.prog 19 #[.int .i64 x, .int .i64 n] w fun e w' => e = .returned (.int .i64 (x % n)) ∧ w' = w := by
  have e1 := cut_plain x n hn
  have e2 := Int.emod_nonneg x (show n ≠ 0 by omega)
  have e3 := Int.emod_lt_of_pos x hn
  by_cases c1 : x.tmod n < 0
  · have ee : x % n = wrap64 (x.tmod n + n) := by
      rw [if_pos c1] at e1
      rw [wrap_same] <;> omega
    rw [ee]
    clear ee e1 e2 e3
    go_enter Try.func19, Try.ntmps19
    go_wp2
    go_ret
    exact ⟨rfl, rfl⟩
  · have ee : x % n = x.tmod n := by
      rw [if_neg c1] at e1
      omega
    rw [ee]
    clear ee e1 e2 e3
    go_enter Try.func19, Try.ntmps19
    go_wp2
    go_ret
    exact ⟨rfl, rfl⟩
end Go.Proofs.Ytgialpjdfeldeaa.Rf

/-! Chapter 9 in plain: what a slot stands for, what is sound (by fuel), what lies below a word; no number of the program but the kinds'. -/
namespace Go.Proofs.Ytgialpjdfeldeaa
open Go.RowKit

/-- A number that fits an int64. -/
def I64 (z : Int) : Prop := -9223372036854775808 ≤ z ∧ z ≤ 9223372036854775807
theorem I64.wf {z : Int} (h : I64 z) : (Lit.int .i64 z).wf = true := by
  obtain ⟨h1, h2⟩ := h
  have e1 : IntKind.i64.min = -9223372036854775808 := by decide
  have e2 : IntKind.i64.max = 9223372036854775807 := by decide
  simp [Lit.wf, e1, e2] <;> omega
namespace Mst
/-- All cells hold an int64. -/
def ok (s : Mst) : Prop := (∀ z ∈ s.xs, I64 z) ∧ s.xs.length ≤ 65536
theorem ok.look {s : Mst} (h : s.ok) (a : Int) : I64 (s.look a) := by
  unfold Mst.look
  split
  · rw [List.getD_eq_getElem?_getD]
    cases e : s.xs[(a - 1).toNat]? with
    | none => exact ⟨by decide, by decide⟩
    | some z => exact h.1 z (List.mem_of_getElem? e)
  · exact ⟨by decide, by decide⟩
def logicZ (s : Mst) (a : Int) : Int :=
  if Rf.kindZ (s.look a) = 5 then (if s.look (Rf.atZ (s.look a) + 4) = 1 then s.look (Rf.atZ (s.look a) + 3) else s.look (Rf.atZ (s.look a) + 2)) else s.look a
theorem ok.logic {s : Mst} (h : s.ok) (a : Int) : I64 (s.logicZ a) := by
  unfold logicZ; split
  · split <;> exact h.look _
  · exact h.look _
end Mst
abbrev kd := Rf.kindZ
abbrev ad := Rf.atZ
theorem kd_range (w : Int) : 0 ≤ kd w ∧ kd w ≤ 5 := by
  unfold kd Rf.kindZ Rf.rt; split
  · rename_i h; simp at h; omega
  · omega
theorem ad_range (w : Int) : 0 ≤ ad w ∧ ad w ≤ 65536 := by
  unfold ad Rf.atZ Rf.rt; split
  · rename_i h; simp at h; omega
  · omega
theorem ad_pos {w : Int} (h : kd w ≠ 0) : 1 ≤ ad w := by
  unfold kd Rf.kindZ at h; unfold ad Rf.atZ
  split
  · rename_i h'; unfold Rf.rt at h'; simp at h'; omega
  · rename_i h'; rw [if_neg h'] at h; exact absurd rfl h

/-- Which cells are taken. -/
abbrev Tk := Nat → Bool
def takeT (t : Tk) (a n : Nat) : Tk := fun j => t j || decide (a ≤ j ∧ j < a + n)
def freeB (t : Tk) (a n : Nat) : Bool := (List.range n).all (fun i => !t (a + i))
def takeO (N : Nat) (t : Tk) (a n : Nat) : Option Tk := if (decide (1 ≤ n) && decide (a + n ≤ N) && freeB t a n) = true then some (takeT t a n) else none
def freeN (N : Nat) (t : Tk) : Nat := (List.range N).countP (fun j => !t j)

theorem freeB_zero (t : Tk) (a : Nat) : freeB t a 0 = true := rfl
theorem freeB_succ (t : Tk) (a n : Nat) : freeB t a (n + 1) = (freeB t a n && !t (a + n)) := by
  simp [freeB, List.range_succ, List.all_append]
theorem freeB_false {t : Tk} {a n m : Nat} (h : freeB t a n = false) (hm : n ≤ m) : freeB t a m = false := by
  induction m with
  | zero => have := Nat.le_zero.1 hm; subst this; exact h
  | succ m ih =>
    by_cases e : n = m + 1
    · subst e; exact h
    · rw [freeB_succ, ih (by omega)]; rfl
theorem takeT_zero (t : Tk) (a : Nat) : takeT t a 0 = t := by
  funext j; simp [takeT]; intro h h'; omega
theorem takeT_succ (t : Tk) (a n : Nat) : (fun j => if j = a + n then true else takeT t a n j) = takeT t a (n + 1) := by
  funext j; unfold takeT
  by_cases e : j = a + n
  · subst e; simp
  · simp only [e, if_false]
    have : (a ≤ j ∧ j < a + n) ↔ (a ≤ j ∧ j < a + (n + 1)) := by omega
    rw [decide_eq_decide.2 this]
theorem takeT_at (t : Tk) (a n : Nat) : takeT t a n (a + n) = t (a + n) := by
  simp [takeT]

theorem countP_le' (p q : Nat → Bool) (h : ∀ j, p j = true → q j = true) (N : Nat) : (List.range N).countP p ≤ (List.range N).countP q := by
  induction N with
  | zero => simp
  | succ N ih =>
    rw [List.range_succ, List.countP_append, List.countP_append]
    have : [N].countP p ≤ [N].countP q := by
      simp only [List.countP_cons, List.countP_nil]
      by_cases e : p N = true
      · simp [e, h N e]
      · simp [e]
    omega
theorem countP_lt' (p q : Nat → Bool) (h : ∀ j, p j = true → q j = true) (N a : Nat) (ha : a < N) (hp : p a = false) (hq : q a = true) : (List.range N).countP p < (List.range N).countP q := by
  induction N with
  | zero => omega
  | succ N ih =>
    rw [List.range_succ, List.countP_append, List.countP_append]
    by_cases e : a = N
    · subst e
      have := countP_le' p q h a
      simp [hp, hq]; omega
    · have h1 := ih (by omega)
      have : [N].countP p ≤ [N].countP q := by
        simp only [List.countP_cons, List.countP_nil]
        by_cases e : p N = true
        · simp [e, h N e]
        · simp [e]
      omega
theorem takeO_free {N : Nat} {t t' : Tk} {a n : Nat} (h : takeO N t a n = some t') : freeN N t' < freeN N t := by
  unfold takeO at h
  split at h
  · rename_i c
    simp only [Bool.and_eq_true, decide_eq_true_eq] at c
    obtain ⟨⟨c1, c2⟩, c3⟩ := c
    simp only [Option.some.injEq] at h
    subst h
    have c4 : t a = false := by
      unfold freeB at c3
      rw [List.all_eq_true] at c3
      have := c3 0 (by simp; omega)
      simpa using this
    refine countP_lt' _ _ ?_ N a (by omega) ?_ ?_
    · intro j hj; simp only [takeT, Bool.not_or, Bool.and_eq_true] at hj; exact hj.1
    · simp [takeT]; omega
    · simp [c4]
  · cases h

/-- Steps one behind the other, each of which may fail. -/
def chain {α : Type} (g : Nat → α → Option α) : Nat → α → Option α
  | 0, x => some x
  | n + 1, x => (chain g n x).bind (g n)
theorem chain_none {α : Type} {g : Nat → α → Option α} {x : α} {n m : Nat} (h : chain g n x = none) (hm : n ≤ m) : chain g m x = none := by
  induction m with
  | zero => have := Nat.le_zero.1 hm; subst this; exact h
  | succ m ih =>
    by_cases e : n = m + 1
    · subst e; exact h
    · rw [chain, ih (by omega)]; rfl
theorem chain_some {α : Type} {g : Nat → α → Option α} {x y : α} {n m : Nat} (h : chain g n x = some y) (hm : m ≤ n) : ∃ z, chain g m x = some z := by
  cases e : chain g m x with
  | none => rw [chain_none e hm] at h; cases h
  | some z => exact ⟨z, rfl⟩

section
variable (s : Mst)
/-- The i-th key of the Inner at a (from 1 on), and its bounds. -/
def ky (a : Nat) (i : Nat) : Int := s.look ((a : Int) + 4 + i)
def lowZ (a : Nat) (lo : Int) (i : Nat) : Int := if i = 0 then lo else ky s a i
def highZ (a d : Nat) (hi : Int) (i : Nat) : Int := if i + 1 < d then ky s a (i + 1) - 1 else hi
def keysB (a d : Nat) (lo hi : Int) : Bool := (List.range (d - 1)).all (fun i => decide (lowZ s a lo i < ky s a (i + 1)) && decide (ky s a (i + 1) ≤ hi))
def shutB (a : Nat) : Bool := (s.look ((a : Int) + 2) == 0) || (s.look ((a : Int) + 2) == 1)
/-- What stands in a slot may: its Dcss. -/
def dcssB (slot : Int) : Bool := !(kd (s.look slot) == 5) || (decide (ad (s.look slot) + 4 ≤ (s.xs.length : Int)) && (s.look (ad (s.look slot) + 1) == slot))
def sndSlot (W : Int → Int → Int → Tk → Option Tk) (slot lo hi : Int) (t : Tk) : Option Tk := if dcssB s slot = true then W (s.logicZ slot) lo hi t else none
def childS (a d i : Nat) : Int := (a : Int) + 4 + d + i
def kidG (W : Int → Int → Int → Tk → Option Tk) (a d : Nat) (lo hi : Int) : Nat → Tk → Option Tk := fun i t => sndSlot s W (childS a d i) (lowZ s a lo i) (highZ s a d hi i) t
def sndInner (W : Int → Int → Int → Tk → Option Tk) (a : Nat) (lo hi : Int) (t : Tk) : Option Tk :=
  if s.look a < 2 then none else
  (takeO (s.xs.length + 1) t a (2 * (s.look a).toNat + 4)).bind fun t1 =>
  if (keysB s a (s.look a).toNat lo hi && shutB s a) = true then chain (kidG s W a (s.look a).toNat lo hi) (s.look a).toNat t1 else none
def sndW : Nat → Int → Int → Int → Tk → Option Tk
  | 0 => fun _ _ _ _ => none
  | f + 1 => fun w lo hi t =>
    if kd w = 1 then takeO (s.xs.length + 1) t (ad w).toNat 1
    else if kd w = 2 then (if lo ≤ s.look (ad w) ∧ s.look (ad w) ≤ hi then takeO (s.xs.length + 1) t (ad w).toNat 2 else none)
    else if kd w = 3 then sndInner s (sndW f) (ad w).toNat lo hi t
    else if kd w = 4 then (if kd (s.look (ad w)) = 3 then (takeO (s.xs.length + 1) t (ad w).toNat 5).bind fun t1 => sndW f (s.look (ad w)) lo hi t1 else none)
    else none
def base0 : Tk := takeT (fun _ => false) 1 6
def fuel : Nat := s.xs.length + 3
def soundB : Bool := decide (6 ≤ s.xs.length) && (s.look 1 == 1) && (s.look 3 == 0) && (sndSlot s (sndW s (fuel s)) 6 (-9223372036854775808) 9223372036854775807 base0).isSome
end

/-- Going on never frees a cell. -/
def Mono (N : Nat) (W : Int → Int → Int → Tk → Option Tk) : Prop := ∀ w lo hi t t', W w lo hi t = some t' → freeN N t' ≤ freeN N t
theorem sndSlot_free {s : Mst} {N : Nat} {W : Int → Int → Int → Tk → Option Tk} (hW : Mono N W) {slot lo hi : Int} {t t' : Tk} (h : sndSlot s W slot lo hi t = some t') : freeN N t' ≤ freeN N t := by
  unfold sndSlot at h; split at h
  · exact hW _ _ _ _ _ h
  · cases h
theorem chain_free {s : Mst} {N : Nat} {W : Int → Int → Int → Tk → Option Tk} (hW : Mono N W) {a d : Nat} {lo hi : Int} {n : Nat} {t t' : Tk} (h : chain (kidG s W a d lo hi) n t = some t') : freeN N t' ≤ freeN N t := by
  induction n generalizing t' with
  | zero => simp [chain] at h; subst h; exact Nat.le_refl _
  | succ n ih =>
    rw [chain, Option.bind_eq_some_iff] at h
    obtain ⟨u, h1, h2⟩ := h
    exact Nat.le_trans (sndSlot_free hW h2) (ih h1)
theorem sndW_free (s : Mst) : ∀ f, Mono (s.xs.length + 1) (sndW s f)
  | 0 => fun _ _ _ _ _ h => by cases h
  | f + 1 => fun w lo hi t t' h => by
    have ih := sndW_free s f
    unfold sndW at h
    split at h
    · exact Nat.le_of_lt (takeO_free h)
    · split at h
      · split at h
        · exact Nat.le_of_lt (takeO_free h)
        · cases h
      · split at h
        · unfold sndInner at h
          split at h
          · cases h
          · rw [Option.bind_eq_some_iff] at h
            obtain ⟨t1, h1, h2⟩ := h
            split at h2
            · exact Nat.le_trans (chain_free ih h2) (Nat.le_of_lt (takeO_free h1))
            · cases h2
        · split at h
          · split at h
            · rw [Option.bind_eq_some_iff] at h
              obtain ⟨t1, h1, h2⟩ := h
              exact Nat.le_trans (ih _ _ _ _ _ h2) (Nat.le_of_lt (takeO_free h1))
            · cases h
          · cases h
theorem freeN_le (N : Nat) (t : Tk) : freeN N t ≤ N := by
  have := List.countP_le_length (p := fun j => !t j) (l := List.range N)
  simpa [freeN] using this

/-- The keys asked one by one, with the children between: the same. -/
def docG (s : Mst) (W : Int → Int → Int → Tk → Option Tk) (a d : Nat) (lo hi : Int) : Nat → Tk → Option Tk := fun i t =>
  if i + 1 < d ∧ ¬ (lowZ s a lo i < ky s a (i + 1) ∧ ky s a (i + 1) ≤ hi) then none else kidG s W a d lo hi i t
theorem doc_chain (s : Mst) (W : Int → Int → Int → Tk → Option Tk) (a d : Nat) (lo hi : Int) (t : Tk) : chain (docG s W a d lo hi) d t = if keysB s a d lo hi = true then chain (kidG s W a d lo hi) d t else none := by
  by_cases hk : keysB s a d lo hi = true
  · rw [if_pos hk]
    have hk' := List.all_eq_true.1 hk
    have : ∀ n, n ≤ d → chain (docG s W a d lo hi) n t = chain (kidG s W a d lo hi) n t := by
      intro n
      induction n with
      | zero => intro _; rfl
      | succ n ih =>
        intro hn
        rw [chain, chain, ih (by omega)]
        congr 1
        funext u
        unfold docG
        rw [if_neg]
        rintro ⟨h1, h2⟩
        have := hk' n (by simp; omega)
        simp only [Bool.and_eq_true, decide_eq_true_eq] at this
        exact h2 this
    exact this d (Nat.le_refl _)
  · rw [if_neg hk]
    have : ∃ i, i < d - 1 ∧ ¬ (lowZ s a lo i < ky s a (i + 1) ∧ ky s a (i + 1) ≤ hi) := by
      apply Classical.byContradiction
      intro hn
      apply hk
      apply List.all_eq_true.2
      intro i hi'
      simp only [List.mem_range] at hi'
      simp only [Bool.and_eq_true, decide_eq_true_eq]
      apply Classical.byContradiction
      intro h'
      exact hn ⟨i, hi', h'⟩
    obtain ⟨i, h1, h2⟩ := this
    have h3 : chain (docG s W a d lo hi) (i + 1) t = none := by
      rw [chain]
      cases chain (docG s W a d lo hi) i t with
      | none => rfl
      | some u => show docG s W a d lo hi i u = none; unfold docG; rw [if_pos ⟨by omega, h2⟩]
    exact chain_none h3 (by omega)
end Go.Proofs.Ytgialpjdfeldeaa

/-! Chapter 10 in plain: what a tree laid at once is ('layF'), and a memory beside two rows that grow ('LayI'). No conditions beyond each theorem's own. -/
namespace Go.Proofs.Ytgialpjdfeldeaa
open Go.RowKit

/-- One record, made. -/
def recS (s : Mst) (k : Int) (ws : List Int) : Int × Mst := (Rf.ofZ k (s.next ws), s.make ws)
/-- The trees of the first parts, one behind the other: their words, and the memory then. -/
def kidF (L : Mst → List (Int × Int) → Int × Mst) (ps : List (Int × Int)) (s : Mst) : Nat → List Int × Mst
  | 0 => ([], s)
  | i + 1 => ((kidF L ps s i).1 ++ [(L (kidF L ps s i).2 (partL ps (i : Int))).1], (L (kidF L ps s i).2 (partL ps (i : Int))).2)
/-- The least keys of the first parts but the first one. -/
def lowL (ps : List (Int × Int)) : Nat → List Int
  | 0 => []
  | i + 1 => if i = 0 then [] else lowL ps i ++ [((partL ps (i : Int)).headD (0, 0)).1]
def layF : Nat → Mst → List (Int × Int) → Int × Mst
  | 0 => fun s _ => (0, s)
  | f + 1 => fun s ps =>
    if ps.length = 0 then recS s 1 [0]
    else if ps.length = 1 then recS s 2 [(ps.headD (0, 0)).1, (ps.headD (0, 0)).2]
    else recS (kidF (layF f) ps s (Pt.degZ ps.length).toNat).2 3 (innerL ps.length (lowL ps (Pt.degZ ps.length).toNat) (kidF (layF f) ps s (Pt.degZ ps.length).toNat).1)

theorem kidF_len (L : Mst → List (Int × Int) → Int × Mst) (ps : List (Int × Int)) (s : Mst) : ∀ n, (kidF L ps s n).1.length = n
  | 0 => rfl
  | n + 1 => by simp [kidF, kidF_len L ps s n]
theorem lowL_len (ps : List (Int × Int)) : ∀ n, (lowL ps n).length = n - 1
  | 0 => rfl
  | n + 1 => by
    rw [lowL]
    split
    · rename_i h; subst h; rfl
    · rw [List.length_append, lowL_len ps n, List.length_singleton]; omega
theorem partL_len {ps : List (Int × Int)} {i : Int} (h0 : 0 ≤ i) (h1 : i < Pt.degZ ps.length) : ((partL ps i).length : Int) = Pt.sizeZ ps.length i := by
  have h := part_in h0 h1
  unfold partL
  rw [List.length_take, List.length_drop]
  omega

section
variable {T : TypeId} {lay : Value → Int → Int → Int → Int → Array Value} {n₀ b : Nat} {v0 : Value} {W₀ W W' : World} {st st' : Mst} {vq vc : Value} {qs cs : List Int}
/-- A memory that goes on beside two rows. -/
structure LayI (T : TypeId) (lay : Value → Int → Int → Int → Int → Array Value) (n₀ b : Nat) (v0 : Value) (W₀ W : World) (st : Mst) (vq vc : Value) (qs cs : List Int) : Prop where
  mem : ∃ v, MemAt T lay W n₀ b v st ∧ (∀ k, Foot b v k → Foot b v0 k ∨ W₀.heap.size ≤ k) ∧ (∀ k, vq.ownBlock = some k → ¬ Foot b v k) ∧ (∀ k, vc.ownBlock = some k → ¬ Foot b v k)
  turned : Turned (Foot b v0) W₀ W
  q : Row W W₀.heap.size 2 vq qs
  c : Row W W₀.heap.size 2 vc cs
  qc : ∀ k, vq.ownBlock = some k → vc.ownBlock ≠ some k
theorem Row.apart {n₀ : Nat} {e : TypeId} {v : Value} {zs : List Int} {R : Nat → Prop} (h : Row W n₀ e v zs) (ht : Turned R W W') (hn : ∀ g, v.ownBlock = some g → ¬ R g) : Row W' n₀ e v zs := by
  obtain ⟨h1, h2⟩ := h
  refine ⟨h1, ?_⟩
  rcases h2 with h2 | ⟨g, cap, cur, rfl, hg, hh, r⟩
  · exact .inl h2
  · exact .inr ⟨g, cap, cur, rfl, hg, ht.heap hh (hn g rfl), r⟩
namespace LayI
theorem kept (h : LayI T lay n₀ b v0 W₀ W st vq vc qs cs) (k : Kept W W') : LayI T lay n₀ b v0 W₀ W' st vq vc qs cs := by
  obtain ⟨⟨v, h1, h2⟩, ht, hq, hc, hqc⟩ := h
  exact ⟨⟨v, h1.kept k, h2⟩, k.behind ht, hq.kept k, hc.kept k, hqc⟩
/-- A step of the memory. -/
theorem step (h : LayI T lay n₀ b v0 W₀ W st vq vc qs cs) : ∃ v, MemAt T lay W n₀ b v st ∧ (∀ k, Foot b v k → Foot b v0 k ∨ W₀.heap.size ≤ k) ∧ ∀ W' st', Does T lay n₀ b v st' W W' → LayI T lay n₀ b v0 W₀ W' st' vq vc qs cs := by
  obtain ⟨⟨v, h1, h2, h3, h4⟩, ht, hq, hc, hqc⟩ := h
  refine ⟨v, h1, h2, fun W' st' d => ?_⟩
  obtain ⟨v', g1, g2, g3⟩ := d
  refine ⟨⟨v', g1, ?_, ?_, ?_⟩, ?_, hq.apart g2 h3, hc.apart g2 h4, hqc⟩
  · intro k hk
    rcases g3 k hk with e | e
    · exact h2 k e
    · exact .inr (Nat.le_trans ht.size e)
  · intro k hk hf
    rcases g3 k hf with e | e
    · exact h3 k hk e
    · have := (hq.lt k hk).2; omega
  · intro k hk hf
    rcases g3 k hf with e | e
    · exact h4 k hk e
    · have := (hc.lt k hk).2; omega
  · exact ht.trans g2 (fun _ e => e) (fun i hi e => by rcases h2 i e with e | e; · exact e
                                                       · omega)
theorem swap (h : LayI T lay n₀ b v0 W₀ W st vq vc qs cs) : LayI T lay n₀ b v0 W₀ W st vc vq cs qs := by
  obtain ⟨⟨v, h1, h2, h3, h4⟩, ht, hq, hc, hqc⟩ := h
  exact ⟨⟨v, h1, h2, h4, h3⟩, ht, hc, hq, fun k hk e => hqc k e hk⟩
/-- The first row grows. -/
theorem grow {w1 : World} {vq' : Value} {qs' : List Int} (h : LayI T lay n₀ b v0 W₀ W st vq vc qs cs) (hown : Row w1 W₀.heap.size 2 vq' qs') (hg : W.grownBy w1 vq.ownBlock) (hat : vq'.ownBlock = vq.ownBlock ∨ vq'.ownBlock = some W.heap.size) : LayI T lay n₀ b v0 W₀ w1 st vq' vc qs' cs := by
  obtain ⟨⟨v, h1, h2, h3, h4⟩, ht, hq, hc, hqc⟩ := h
  have tg : Turned (fun k => vq.ownBlock = some k) W w1 := Turned.of_grownBy hg (fun _ e => e)
  refine ⟨⟨v, h1.turned tg (fun k hk e => h3 k e hk), h2, ?_, h4⟩, ?_, hown, hc.apart tg (fun g hg' e => hqc g e hg'), ?_⟩
  · intro k hk hf
    rcases hat with e | e
    · exact h3 k (by rw [← e]; exact hk) hf
    · have := (h1.lt k hf).2
      rw [e] at hk
      cases hk
      omega
  · exact ht.trans tg (fun _ e => e) (fun i hi e => by have := (hq.lt i e).1; omega)
  · intro k hk e'
    rcases hat with e | e
    · exact hqc k (by rw [← e]; exact hk) e'
    · have := (hc.lt k e').2
      rw [e] at hk
      cases hk
      omega
theorem start (h : MemAt T lay W₀ n₀ b v0 st) (k : Kept W₀ W) (hq : Row W W₀.heap.size 2 vq qs) (hc : Row W W₀.heap.size 2 vc cs) (hqc : ∀ k, vq.ownBlock = some k → vc.ownBlock ≠ some k) : LayI T lay n₀ b v0 W₀ W st vq vc qs cs := by
  refine ⟨⟨v0, h.kept k, fun _ e => .inl e, ?_, ?_⟩, k.mono (fun _ _ e => e.elim), hq, hc, hqc⟩
  · intro j hj hf
    have h1 := (hq.lt j hj).1
    have h2 := (h.lt j hf).2
    omega
  · intro j hj hf
    have h1 := (hc.lt j hj).1
    have h2 := (h.lt j hf).2
    omega
end LayI
/-- One step behind another. -/
theorem Does.then {v v1 : Value} {s2 : Mst} {W1 W2 : World} (t : Turned (Foot b v) W W1) (hs : ∀ k, Foot b v1 k → Foot b v k ∨ W.heap.size ≤ k) (d : Does T lay n₀ b v1 s2 W1 W2) : Does T lay n₀ b v s2 W W2 := by
  obtain ⟨v2, h2, t2, s2⟩ := d
  refine ⟨v2, h2, t.trans t2 (fun _ e => e) (fun i hi e => by rcases hs i e with e | e; · exact e
                                                              · omega), fun k hk => ?_⟩
  rcases s2 k hk with e | e
  · exact hs k e
  · exact .inr (Nat.le_trans t.size e)
/-- .. behind a step that turns nothing. -/
theorem Does.after {v : Value} {s2 : Mst} {W1 W2 : World} (k : Kept W W1) (d : Does T lay n₀ b v s2 W1 W2) : Does T lay n₀ b v s2 W W2 :=
  Does.then (k.mono (fun _ _ e => e.elim)) (fun _ e => .inl e) d
end
end Go.Proofs.Ytgialpjdfeldeaa

/-! What Begin of node answers and makes, at a memory that was made since w; what known answers. No conditions beyond each theorem's own. -/
namespace Go.Proofs.Ytgialpjdfeldeaa
open Go.RowKit

theorem of17_c (w : World) : Calls Try.prog 51 #[.int .i64 1, .int .i64 7] w fun e w' => e = .returned (.int .i64 57) ∧ w = w' := by
  go_enter Try.func51, Try.ntmps51
  go_wp2
  go_ret
  exact ⟨rfl, rfl⟩
theorem kind57_c (w : World) : Calls Try.prog 60 #[.int .i64 57] w fun e w' => e = .returned (.int .i64 1) ∧ w = w' := by
  go_enter Try.func60, Try.ntmps60
  go_wp2
  go_ret
  exact ⟨rfl, rfl⟩
theorem at57_c (w : World) : Calls Try.prog 86 #[.int .i64 57] w fun e w' => e = .returned (.int .i64 7) ∧ w = w' := by
  go_enter Try.func86, Try.ntmps86
  go_wp2
  go_ret
  exact ⟨rfl, rfl⟩

/-- A slice that is answered, where it lies. -/
theorem Fresh.form {zs : List Int} {w W : World} {e : Ending} (h : Fresh zs w e W) : ∃ a cap, e = .returned (.slice a zs.length cap) ∧ Reads W a zs ∧ zs.length ≤ cap ∧ cap ≤ maxLen ∧ (∀ ad, a = some ad → w.heap.size ≤ ad.block) ∧ Row W w.heap.size 2 (.slice a zs.length cap) zs ∧ Kept w W := by
  obtain ⟨v, rfl, hrow, hk⟩ := h
  have hr := hrow
  rcases hr.2 with ⟨rfl, h0⟩ | ⟨g, cap, cur, rfl, hg, _, hc, hm, _⟩
  · obtain rfl := List.length_eq_zero_iff.1 h0
    exact ⟨none, 0, rfl, .inl rfl, Nat.le_refl _, Nat.zero_le _, (fun _ e => by cases e), hrow, hk⟩
  · obtain ⟨a, cap', e1, h1, _⟩ := hrow.reads
    cases e1
    exact ⟨_, _, rfl, h1, hc, hm, (fun _ e => by cases e; exact hg), hrow, hk⟩

/-- The state of a memory that is begun. -/
def begun (s : Mst) : Mst := { s with xs := [1, 0, 0, 0, 0, 57, 0], count := wrap64 (wrap64 (s.count + 1) + 1) }
theorem begun_make {s : Mst} (h0 : s.xs = []) (h7 : 7 ≤ s.size) : s.next [1, 0, 0, 0, 0, 57] = 1 ∧ s.fits 6 = true ∧ s.make [1, 0, 0, 0, 0, 57] = { s with xs := [1, 0, 0, 0, 0, 57], count := wrap64 (s.count + 1) } := by
  have h6 : (6 : Int) ≤ s.size := by omega
  have hf : s.fits 6 = true := by simp [Mst.fits, h0, h6]
  refine ⟨?_, hf, ?_⟩
  · rw [Mst.next]
    rw [if_pos (by exact hf), h0]
    rfl
  · rw [Mst.make]
    rw [if_pos (by exact hf), h0]
    rfl
theorem begun_make2 {s : Mst} (h7 : 7 ≤ s.size) : ({ s with xs := [1, 0, 0, 0, 0, 57], count := wrap64 (s.count + 1) } : Mst).next [0] = 7 ∧ ({ s with xs := [1, 0, 0, 0, 0, 57], count := wrap64 (s.count + 1) } : Mst).fits 1 = true ∧ ({ s with xs := [1, 0, 0, 0, 0, 57], count := wrap64 (s.count + 1) } : Mst).make [0] = begun s := by
  have hf : ({ s with xs := [1, 0, 0, 0, 0, 57], count := wrap64 (s.count + 1) } : Mst).fits 1 = true := by simp [Mst.fits, h7]
  refine ⟨?_, hf, ?_⟩
  · rw [Mst.next]
    rw [if_pos (by exact hf)]
    rfl
  · rw [Mst.make]
    rw [if_pos (by exact hf)]
    rfl

set_option maxRecDepth 100000 in
/-- Begin, where it may be. -/
theorem begin_c (w W : World) (b : Nat) (s : Mst) (h : Now w W b s) (h0 : s.xs = []) (h7 : 7 ≤ s.size) :
    Calls Try.prog 27 #[.pointer (some ⟨b, 0, none⟩)] W fun e W' => e = .returned (.bool true) ∧ Now w W' b (begun s) := by
  have H := hide h
  have B1 := hide (begun_make h0 h7)
  have B2 := hide (begun_make2 h7)
  have HU : Hid ((s.xs.length : Int) = 0) := hide (by rw [h0]; rfl)
  clear h h0
  go_enter Try.func27, Try.ntmps27
  go_wp2_with (fail)
  refine (now_used w W b s 0 H.out HU.out).mono ?_
  rintro e w' ⟨rfl, rfl⟩
  go_wp2_with (fail)
  refine (now_size w W b s s.size H.out rfl).mono ?_
  rintro e w' ⟨rfl, rfl⟩
  go_wp2_with (fail)
  refine (of17_c W).mono ?_
  rintro e w' ⟨rfl, rfl⟩
  go_wp2_with (fail)
  refine (inner_c (W.alloc (.cells #[.int .i64 57] 2)) 0 none [] 0 (some ⟨W.heap.size, 0, none⟩) [57] 1 (.inl rfl) (Reads.new W 2 [57]) (fun _ => rfl) (fun e => by cases e) rfl (by decide)).mono ?_
  intro e W1 hf
  obtain ⟨a1, cap1, rfl, hr, hc, hm, ha, -, hk⟩ := hf.form
  have H1 := hide (H.out.on ((Turned.alloc (fun _ => False) W _).trans hk (fun _ e => e) (fun _ _ e => e)))
  have HR := hide hr
  have HA : Hid (∀ ad, a1 = some ad → ad.block ≠ b) := hide (fun ad e => by
    have e1 := ha ad e
    have e2 := H.out.lt.2
    simp at e1
    omega)
  clear hf hr hc hm ha hk H
  go_wp2_with (fail)
  refine (now_make w W1 b s a1 (innerL 0 [] [57]) cap1 1 true _ H1.out HR.out (by decide) (fun _ => HA.out) B1.out.1 B1.out.2.1 B1.out.2.2).mono ?_
  rintro e W2 ⟨rfl, h2⟩
  have H2 := hide h2
  clear h2 H1 HR HA B1
  go_wp2_with (fail)
  refine (empty_c W2).mono ?_
  intro e W3 hf
  obtain ⟨a1, cap1, rfl, hr, hc, hm, ha, -, hk⟩ := hf.form
  have H3 := hide (H2.out.on hk)
  have HR := hide hr
  have HA : Hid (∀ ad, a1 = some ad → ad.block ≠ b) := hide (fun ad e => by
    have e1 := ha ad e
    have e2 := H2.out.lt.2
    omega)
  clear hf hr hc hm ha hk H2
  go_wp2_with (fail)
  refine (now_make w W3 b _ a1 [0] cap1 7 true _ H3.out HR.out (by decide) (fun _ => HA.out) B2.out.1 B2.out.2.1 B2.out.2.2).mono ?_
  rintro e W4 ⟨rfl, h4⟩
  have H4 := hide h4
  clear h4 H3 HR HA B2
  go_wp2
  go_ret
  exact ⟨rfl, H4.out⟩
/-- .. where it may not. -/
theorem begin0_c (w W : World) (b : Nat) (s : Mst) (h : Now w W b s) (h0 : ¬ (s.xs = [] ∧ 7 ≤ s.size)) :
    Calls Try.prog 27 #[.pointer (some ⟨b, 0, none⟩)] W fun e W' => e = .returned (.bool false) ∧ W = W' := by
  have H := hide h
  by_cases hx : s.xs = []
  · have h7 : s.size < 7 := by have : ¬ 7 ≤ s.size := fun e => h0 ⟨hx, e⟩; omega
    have HU : Hid ((s.xs.length : Int) = 0) := hide (by rw [hx]; rfl)
    clear h h0 hx
    go_enter Try.func27, Try.ntmps27
    go_wp2_with (fail)
    refine (now_used w W b s 0 H.out HU.out).mono ?_
    rintro e w' ⟨rfl, rfl⟩
    go_wp2_with (fail)
    refine (now_size w W b s s.size H.out rfl).mono ?_
    rintro e w' ⟨rfl, rfl⟩
    go_wp2
    go_ret
    exact ⟨rfl, rfl⟩
  · have hp0 : 0 < s.xs.length := List.length_pos_iff.2 hx
    have hp : (0 : Int) < (s.xs.length : Int) := by omega
    clear h h0 hx
    go_enter Try.func27, Try.ntmps27
    go_wp2_with (fail)
    refine (now_used w W b s _ H.out rfl).mono ?_
    rintro e w' ⟨rfl, rfl⟩
    go_wp2
    go_ret
    exact ⟨rfl, rfl⟩

/-- Two slices that are answered, alike. -/
theorem words_lit (W : World) (a : Option Addr) (q : List Int) (cap : Nat) (hr : Reads W a q) (hc : q.length ≤ cap) (hm : cap ≤ maxLen) :
    Calls Try.prog 15 #[.slice a q.length cap, .slice (some ⟨W.heap.size, 0, none⟩) q.length q.length] (W.alloc (.cells (q.map (Value.int .i64)).toArray 2)) fun e w' => e = .returned (.bool true) ∧ Kept W w' :=
  (words_k _ a _ q cap q.length (hr.kept (Turned.alloc _ _ _)) (Reads.new W 2 q) hc (Nat.le_refl _) hm).mono fun _ _ ⟨h1, h2⟩ => ⟨h1, ((Kept.refl W).alloc _).trans h2⟩

end Go.Proofs.Ytgialpjdfeldeaa

/-! What LeafWords of node, and the document's EmptyWords, LeafWords, InnerWords and Of, answer. No conditions beyond each theorem's own. -/
namespace Go.Proofs.Ytgialpjdfeldeaa
open Go.RowKit
theorem leaf_c (w : World) (k : Int) (v : Int) : Calls Try.prog 70 #[.int .i64 k, .int .i64 v] w (Fresh [k, v] w) := by
  go_enter Try.func70, Try.ntmps70
  go_wp2
  go_ret
  exact ⟨_, rfl, row_new w 2 [k, v] _ (Nat.le_refl _) (by simp), Turned.alloc _ _ _⟩
theorem empty_r (w : World)  : Calls Try.prog 74 #[] w (Fresh [0] w) := by
  go_enter Try.func74, Try.ntmps74
  go_wp2
  go_ret
  exact ⟨_, rfl, row_new w 2 [0] _ (Nat.le_refl _) (by simp), Turned.alloc _ _ _⟩
theorem leaf_r (w : World) (k : Int) (v : Int) : Calls Try.prog 76 #[.int .i64 k, .int .i64 v] w (Fresh [k, v] w) := by
  go_enter Try.func76, Try.ntmps76
  go_wp2
  go_ret
  exact ⟨_, rfl, row_new w 2 [k, v] _ (Nat.le_refl _) (by simp), Turned.alloc _ _ _⟩
theorem inner_r (w : World) (size : Int) (aq : Option Addr) (q : List Int) (cq : Nat) (ac : Option Addr) (c : List Int) (cc : Nat) (hq : Reads w aq q) (hc : Reads w ac c) (hq0 : aq = none → cq = 0) (hc0 : ac = none → cc = 0) (hlen : c.length = q.length + 1) (hl : c.length ≤ 40000) :
    Calls Try.prog 77 #[.int .i64 size, .slice aq q.length cq, .slice ac c.length cc] w (Fresh (innerL size q c) w) := by
  have K1 : Kept w (w.alloc (.cells #[.int .i64 (c.length : Int), .int .i64 size, .int .i64 0, .int .i64 0, .int .i64 0] 2)) := Turned.alloc _ _ _
  have R0 : Hid (Row (w.alloc (.cells #[.int .i64 (c.length : Int), .int .i64 size, .int .i64 0, .int .i64 0, .int .i64 0] 2)) w.heap.size 2 (.slice (some ⟨w.heap.size, 0, none⟩) 5 5) [(c.length : Int), size, 0, 0, 0]) := hide (row_new w 2 [(c.length : Int), size, 0, 0, 0] _ (Nat.le_refl _) (by simp))
  have HQ := hide (hq.kept K1)
  have HC := hide hc
  have HQ0 := hide hq0
  have HC0 := hide hc0
  have KK := hide K1
  have n1 : ((c.length : Int) == (q.length : Int) + 1) = true := by simp only [beq_iff_eq]; omega
  have n2 : ((c.length : Int) != (q.length : Int) + 1) = false := by simp only [bne_eq_false_iff_eq]; omega
  have i1 : (q.length : Int) ≤ 40000 := by omega
  have HL := hide (And.intro hlen hl)
  clear hq hc hq0 hc0 hlen hl K1
  go_enter Try.func77, Try.ntmps77
  go_wp2_with (at_builtin; refine Stop.out ?_)
  refine ⟨?_⟩
  refine wpList_append_reads rfl _ _ rfl w.heap.size _ 5 (cellsOf [(c.length : Int), size, 0, 0, 0]) rfl R0.out aq q cq rfl HQ.out HQ0.out (by have := HL.out; omega) KK.out.size ?_
  intro v2 w2 hown hg _
  have R2 : Hid (Row w2 w.heap.size 2 v2 ([(c.length : Int), size, 0, 0, 0] ++ q)) := hide (by
    show World.ownsRow _ _ 2 1 _ ([(c.length : Int), size, 0, 0, 0] ++ q).length (cellsOf ([(c.length : Int), size, 0, 0, 0] ++ q))
    rw [List.length_append, cellsOf, List.map_append]
    exact hown)
  have K2 := hide (kept_append KK.out R0.out hg)
  clear hown hg R0 HQ HQ0 KK
  go_wp2_with (at_builtin; refine Stop.out ?_)
  refine ⟨?_⟩
  refine wpList_append_reads rfl _ _ rfl w.heap.size _ _ (cellsOf ([(c.length : Int), size, 0, 0, 0] ++ q)) rfl R2.out ac c cc rfl (HC.out.kept K2.out) HC0.out (by have := HL.out; simp; omega) K2.out.size ?_
  intro v3 w3 hown hg _
  have R3 : Hid (Row w3 w.heap.size 2 v3 (innerL size q c)) := hide (by
    show World.ownsRow _ _ 2 1 _ (innerL size q c).length (cellsOf (innerL size q c))
    rw [innerL, ← List.append_assoc, List.length_append, cellsOf, List.map_append]
    exact hown)
  have K3 := hide (kept_append K2.out R2.out hg)
  clear hown hg R2 HC HC0 K2
  go_wp2
  go_ret
  exact ⟨_, rfl, R3.out, K3.out⟩
theorem ofr_c (k t : Int) (z : Int) (hz : Rf.ofZ k t = z) (w : World) : Calls Try.prog 75 #[.int .i64 k, .int .i64 t] w fun e w' => e = .returned (.int .i64 z) ∧ w = w' := by
  subst hz
  by_cases c1 : 1 ≤ k
  · by_cases c2 : k ≤ 5
    · by_cases c3 : 1 ≤ t
      · by_cases c4 : t ≤ 65536
        · have eo : Rf.ofZ k t = 8 * t + k := by simp [Rf.ofZ, Rf.may, c1, c2, c3, c4]
          rw [eo]
          go_enter Try.func75, Try.ntmps75
          go_wp2
          go_ret
          exact ⟨rfl, rfl⟩
        · have eo : Rf.ofZ k t = 0 := by simp [Rf.ofZ, Rf.may]; omega
          rw [eo]
          go_enter Try.func75, Try.ntmps75
          go_wp2
          go_ret
          exact ⟨rfl, rfl⟩
      · have eo : Rf.ofZ k t = 0 := by simp [Rf.ofZ, Rf.may]; omega
        rw [eo]
        go_enter Try.func75, Try.ntmps75
        go_wp2
        go_ret
        exact ⟨rfl, rfl⟩
    · have eo : Rf.ofZ k t = 0 := by simp [Rf.ofZ, Rf.may]; omega
      rw [eo]
      go_enter Try.func75, Try.ntmps75
      go_wp2
      go_ret
      exact ⟨rfl, rfl⟩
  · have eo : Rf.ofZ k t = 0 := by simp [Rf.ofZ, Rf.may]; omega
    rw [eo]
    go_enter Try.func75, Try.ntmps75
    go_wp2
    go_ret
    exact ⟨rfl, rfl⟩

end Go.Proofs.Ytgialpjdfeldeaa

/-! What plant's record, lay and layInner answer and make, at a memory as it lies: the plain 'layF'. No conditions beyond each theorem's own. -/
namespace Go.Proofs.Ytgialpjdfeldeaa
open Go.RowKit
set_option maxRecDepth 20000

theorem record_p (W : World) (n₀ b : Nat) (v : Value) (s : Mst) (k : Int) (a : Option Addr) (ws : List Int) (M cw : Nat) (hM : ws.length = M) (h : PMem W n₀ b v s) (hn : n₀ ≤ W.heap.size) (hr : Reads W a ws) (hl : M ≤ 1000000) (hs : ∀ ad, a = some ad → ad.block ≠ b) (z : Int) (s' : Mst) (e1 : recS s k ws = (z, s')) :
    Calls Try.prog 69 #[.pointer (some ⟨b, 0, none⟩), .int .i64 k, .slice a M cw] W fun e W' => e = .returned (.int .i64 z) ∧ Does 66 layP n₀ b v s' W W' := by
  subst hM
  have HM := hide (make_p W n₀ b v s a ws cw h hn hr (by unfold maxLen; omega) (fun _ => hs))
  obtain ⟨x, hx⟩ : ∃ x, s.next ws = x := ⟨_, rfl⟩
  obtain ⟨y, hy⟩ : ∃ y, s.fits ws.length = y := ⟨_, rfl⟩
  rw [hx, hy] at HM
  have EZ : Hid (Rf.ofZ k x = z) := hide (by rw [← hx]; exact congrArg Prod.fst e1)
  have ES : Hid (s.make ws = s') := hide (congrArg Prod.snd e1)
  clear h hr hs e1 hx hy
  go_enter Try.func69, Try.ntmps69
  go_wp2_with (fail)
  refine HM.out.mono ?_
  rintro e W1 ⟨rfl, d⟩
  rw [ES.out] at d
  have D := hide d
  clear d
  go_wp2_with (fail)
  refine (Rf.of_c k x W1).mono ?_
  rw [EZ.out]
  rintro e W2 ⟨rfl, rfl⟩
  go_wp2
  go_ret
  exact ⟨rfl, D.out⟩

def LayC (f : Nat) : Prop := ∀ (W : World) (n₀ b : Nat) (v : Value) (s : Mst) (a : Option Addr) (ps : List (Int × Int)) (M cap : Nat) (_ : PMem W n₀ b v s) (_ : n₀ ≤ W.heap.size) (_ : PReads W a ps) (_ : ps.length = M) (_ : M ≤ cap) (_ : cap ≤ maxLen) (_ : M ≤ 16384) (_ : M < f) (_ : ps ≠ [] → ∀ ad, a = some ad → ¬ Foot b v ad.block) (z : Int) (s' : Mst) (_ : layF f s ps = (z, s')),
    Calls Try.prog 42 #[.pointer (some ⟨b, 0, none⟩), .slice a M cap] W fun e W' => e = .returned (.int .i64 z) ∧ Does 66 layP n₀ b v s' W W'
end Go.Proofs.Ytgialpjdfeldeaa

/-! What plant's layInner answers and makes. -/
namespace Go.Proofs.Ytgialpjdfeldeaa
open Go.RowKit
set_option maxRecDepth 20000

theorem layF_succ (f : Nat) (s : Mst) (ps : List (Int × Int)) : layF (f + 1) s ps = if ps.length = 0 then recS s 1 [0]
    else if ps.length = 1 then recS s 2 [(ps.headD (0, 0)).1, (ps.headD (0, 0)).2]
    else recS (kidF (layF f) ps s (Pt.degZ ps.length).toNat).2 3 (innerL ps.length (lowL ps (Pt.degZ ps.length).toNat) (kidF (layF f) ps s (Pt.degZ ps.length).toNat).1) := rfl
theorem run_make0 (D : Nat) (h : D ≤ 1000) (z : Int) (hz : z = (D : Int)) (w : World) : (Instr.makeSlice 35 (.int .i64 0) (.int .i64 z)).run Try.prog w = .ok (.slice (some ⟨w.heap.size, 0, none⟩) 0 D) (w.alloc (.cells (madeCells #[.int .i64 0] D) 2)) := by
  obtain ⟨i0, hi, hz0, hz1, hz2⟩ := info_parts info2_p
  have := run_make (P := Try.prog) w 35 2 i0 (.int .i64 0) Try.underlying35 hi hz0 .i64 .i64 0 z (by omega) (by omega) (by rw [hz2]; omega) (by omega)
  rw [this, hz, hz1]
  simp [Value.cells]
theorem row_made (W : World) (n₀ D : Nat) (h : D ≤ 1000) (hb : n₀ ≤ W.heap.size) : Row (W.alloc (.cells (madeCells #[.int .i64 0] D) 2)) n₀ 2 (.slice (some ⟨W.heap.size, 0, none⟩) 0 D) [] :=
  World.ownsRow_made W _ D hb (by unfold maxLen; omega) (by rw [size_madeCells, Nat.mul_one])

/-- A row beside a memory grows by one. -/
theorem wpList_append_q {T : TypeId} {lay : Value → Int → Int → Int → Int → Array Value} {n₀ b : Nat} {v0 : Value} {W₀ wr : World} {st : Mst} {vq vc : Value} {qs cs qs' : List Int} {x : Int} {ops : Array Oper} {rest : List Oper} {o : Oper} {a : Act} {Q : Exit → Act → World → Prop} (hgd : o.guard = none) (s y : Operand)
    (ho : o.op = .call { callee := .builtin .append, args := #[s, y], argTypes := #[35, 35] }) (hs : a.eval s = vq) (hx : a.eval y = .slice (some ⟨wr.heap.size, 0, none⟩) 1 1) (h : LayI T lay n₀ b v0 W₀ wr st vq vc qs cs) (hl : qs.length ≤ 999999) (hq : qs' = qs ++ [x])
    (hk : ∀ v' w', LayI T lay n₀ b v0 W₀ w' st v' vc qs' cs → wpList Try.prog ops Q rest (a.put o.dst v') w') :
    wpList Try.prog ops Q (o :: rest) a (wr.alloc (.cells #[.int .i64 x] 2)) := by
  have k1 : Kept wr (wr.alloc (.cells #[.int .i64 x] 2)) := Turned.alloc _ _ _
  refine wpList_append_reads hgd s y ho W₀.heap.size vq qs.length (cellsOf qs) hs (h.q.kept k1) _ [x] 1 hx (Reads.new wr 2 [x]) (fun e => by cases e) (by simp; omega) (Nat.le_trans h.turned.size k1.size) ?_
  intro v2 w2 hown hg hat
  refine hk v2 w2 ((h.kept k1).grow ?_ hg hat)
  subst hq
  show World.ownsRow _ _ 2 1 _ (qs ++ [x]).length (cellsOf (qs ++ [x]))
  rw [List.length_append, cellsOf, List.map_append]
  exact hown
theorem wpList_append_c {T : TypeId} {lay : Value → Int → Int → Int → Int → Array Value} {n₀ b : Nat} {v0 : Value} {W₀ wr : World} {st : Mst} {vq vc : Value} {qs cs cs' : List Int} {x : Int} {ops : Array Oper} {rest : List Oper} {o : Oper} {a : Act} {Q : Exit → Act → World → Prop} (hgd : o.guard = none) (s y : Operand)
    (ho : o.op = .call { callee := .builtin .append, args := #[s, y], argTypes := #[35, 35] }) (hs : a.eval s = vc) (hx : a.eval y = .slice (some ⟨wr.heap.size, 0, none⟩) 1 1) (h : LayI T lay n₀ b v0 W₀ wr st vq vc qs cs) (hl : cs.length ≤ 999999) (hq : cs' = cs ++ [x])
    (hk : ∀ v' w', LayI T lay n₀ b v0 W₀ w' st vq v' qs cs' → wpList Try.prog ops Q rest (a.put o.dst v') w') :
    wpList Try.prog ops Q (o :: rest) a (wr.alloc (.cells #[.int .i64 x] 2)) :=
  wpList_append_q hgd s y ho hs hx h.swap hl hq (fun v' w' h' => hk v' w' h'.swap)

/-- What the loop over the parts has come to. -/
def InnI (T : TypeId) (lay : Value → Int → Int → Int → Int → Array Value) (f n₀ b : Nat) (v0 : Value) (W₀ : World) (s : Mst) (ps : List (Int × Int)) (vq vc : Value) (t : Nat) (wr : World) : Prop :=
  LayI T lay n₀ b v0 W₀ wr (kidF (layF f) ps s t).2 vq vc (lowL ps t) (kidF (layF f) ps s t).1
theorem Row.form {w : World} {n₀ : Nat} {v : Value} {zs : List Int} (h : Row w n₀ 2 v zs) : ∃ a cap, v = .slice a zs.length cap ∧ Reads w a zs ∧ (a = none → cap = 0) := by
  have hr := h
  rcases hr.2 with ⟨rfl, h0⟩ | ⟨g, cap, cur, rfl, hg, _, hc, hm, _⟩
  · obtain rfl := List.length_eq_zero_iff.1 h0
    exact ⟨none, 0, rfl, .inl rfl, fun _ => rfl⟩
  · obtain ⟨a, cap', e1, h1, _⟩ := h.reads
    cases e1
    exact ⟨_, _, rfl, h1, fun e => by cases e⟩
/-- The list that is laid, and its part, lie as they lay. -/
theorem LayI.list {T : TypeId} {lay : Value → Int → Int → Int → Int → Array Value} {n₀ b : Nat} {v0 : Value} {W₀ W : World} {st : Mst} {vq vc : Value} {qs cs : List Int} {bl off : Nat} {ps : List (Int × Int)} (h : LayI T lay n₀ b v0 W₀ W st vq vc qs cs) (hr : PReads W₀ (some ⟨bl, off, none⟩) ps) (hf : ¬ Foot b v0 bl) (F S : Nat) : PReads W (some ⟨bl, off + F * 2, none⟩) ((ps.drop F).take S) :=
  (hr.turned h.turned (fun k _ ⟨ad, e, e'⟩ hk => by cases e; exact hf (by rw [← e'] at hk; exact hk))).sub F S
theorem preads_head {w : World} {bl off : Nat} {ps : List (Int × Int)} (h : PReads w (some ⟨bl, off, none⟩) ps) (h0 : 0 < ps.length) : w.cell? ⟨bl, off, none⟩ = some (.int .i64 (ps.headD (0, 0)).1) ∧ w.cell? ⟨bl, off + 1, none⟩ = some (.int .i64 (ps.headD (0, 0)).2) := by
  cases ps with
  | nil => simp at h0
  | cons p ps =>
    obtain ⟨bl', off', e, _, h1, h2⟩ := h.at (j := 0) (p := p) rfl
    cases e
    exact ⟨by simpa using h1, by simpa using h2⟩

set_option maxHeartbeats 4000000 in
theorem layInner_p (f : Nat) (ih : LayC f) (W : World) (n₀ b : Nat) (v : Value) (s : Mst) (a : Option Addr) (ps : List (Int × Int)) (M cap : Nat) (h : PMem W n₀ b v s) (hn : n₀ ≤ W.heap.size) (hr : PReads W a ps) (hM : ps.length = M) (hc : M ≤ cap) (hcm : cap ≤ maxLen) (hm : M ≤ 16384) (hf : M < f + 1) (h2 : 2 ≤ M) (ha : ∀ ad, a = some ad → ¬ Foot b v ad.block) (z : Int) (s' : Mst) (e1 : layF (f + 1) s ps = (z, s')) :
    Calls Try.prog 71 #[.pointer (some ⟨b, 0, none⟩), .slice a M cap] W fun e W' => e = .returned (.int .i64 z) ∧ Does 66 layP n₀ b v s' W W' := by
  have db := Pt.deg_bound (n := (M : Int)) (by omega) (by omega)
  obtain ⟨D, hD⟩ : ∃ D : Nat, Pt.degZ (M : Int) = (D : Int) := ⟨(Pt.degZ M).toNat, by omega⟩
  rw [hD] at db
  obtain ⟨d1, d2, d3⟩ := db
  have e2 : recS (kidF (layF f) ps s D).2 3 (innerL (M : Int) (lowL ps D) (kidF (layF f) ps s D).1) = (z, s') := by
    rw [layF_succ, hM, if_neg (by omega), if_neg (by omega), hD] at e1
    exact e1
  obtain ⟨bl, off, rfl⟩ : ∃ bl off, a = some ⟨bl, off, none⟩ := by
    rcases hr with e | ⟨bl, off, e, _⟩
    · rw [e] at hM; simp at hM; omega
    · exact ⟨bl, off, e⟩
  have hcm' : (cap : Int) ≤ 9223372036854775807 := by unfold maxLen at hcm; omega
  have hb1 : bl < W.heap.size := by
    obtain ⟨p, hp⟩ : ∃ p, ps[0]? = some p := ⟨_, List.getElem?_eq_getElem (by omega)⟩
    obtain ⟨bl', off', e, h1, _⟩ := hr.at hp
    cases e
    exact h1
  have HA := hide (ha _ rfl)
  have HB := hide hb1
  have HR := hide hr
  have HM := hide hM
  have H := hide h
  have HN := hide hn
  have IH := hide ih
  have HD := hide hD
  have E2 := hide e2
  have HCM := hide hcm
  have HF := hide hf
  have M1 := run_make0 (D - 1) (by omega) ((D : Int) - 1) (by omega)
  have M2 := run_make0 D (by omega) (D : Int) rfl
  have S1 : Hid (InnI 66 layP f n₀ b v W s ps (.slice (some ⟨W.heap.size, 0, none⟩) 0 (D - 1)) (.slice (some ⟨W.heap.size + 1, 0, none⟩) 0 D) 0 ((W.alloc (.cells (madeCells #[.int .i64 0] (D - 1)) 2)).alloc (.cells (madeCells #[.int .i64 0] D) 2)).drew) := hide (by
    refine LayI.start h ((((Kept.refl W).alloc _).alloc _).trans (Kept.drew _)) ?_ ?_ ?_
    · exact ((row_made W W.heap.size (D - 1) (by omega) (Nat.le_refl _)).kept (Turned.alloc _ _ _)).kept (Kept.drew _)
    · have := row_made (W.alloc (.cells (madeCells #[.int .i64 0] (D - 1)) 2)) W.heap.size D (by omega) (by simp)
      rw [World.size_alloc] at this
      exact this.kept (Kept.drew _)
    · intro k hk e
      simp [Value.ownBlock] at hk e
      omega)
  have S2 : Hid (InnI 66 layP f n₀ b v W s ps (.slice (some ⟨W.heap.size + 1, 0, none⟩) 0 (D - 1)) (.slice (some ⟨W.heap.size, 0, none⟩) 0 D) 0 ((W.alloc (.cells (madeCells #[.int .i64 0] D) 2)).alloc (.cells (madeCells #[.int .i64 0] (D - 1)) 2)).drew) := hide (by
    refine LayI.start h ((((Kept.refl W).alloc _).alloc _).trans (Kept.drew _)) ?_ ?_ ?_
    · have := row_made (W.alloc (.cells (madeCells #[.int .i64 0] D) 2)) W.heap.size (D - 1) (by omega) (by simp)
      rw [World.size_alloc] at this
      exact this.kept (Kept.drew _)
    · exact ((row_made W W.heap.size D (by omega) (Nat.le_refl _)).kept (Turned.alloc _ _ _)).kept (Kept.drew _)
    · intro k hk e
      simp [Value.ownBlock] at hk e
      omega)
  clear h hr ha hM ih e1 e2 hD hcm hf hn hb1
  go_enter Try.func71, Try.ntmps71
  go_wp2_with (fail)
  refine (Pt.deg_c (M : Int) (I64.wf ⟨by omega, by omega⟩) W).mono ?_
  rw [HD.out]
  rintro e w' ⟨rfl, rfl⟩
  go_wp2_with (fail)
  go_region
  all_goals (
    go_wp2
    go_loopw [7, 8, 9, 10, 11, 22] (fun vq vc _ _ _ i wr => ∃ t : Nat, t ≤ D ∧ i = .int .i64 t ∧ Hid (InnI 66 layP f n₀ b v W s ps vq vc t wr)) (fun _ _ _ _ _ i _ => D - (intOf i).toNat)
    case atStart => exact ⟨0, Nat.zero_le _, rfl, by first | exact S1 | exact S2⟩
    case round =>
      obtain ⟨t, ht, rfl, HI⟩ := hrel
      clear S1 S2 M1 M2
      by_cases hlt : t < D
      · have pin := part_in (n := (M : Int)) (i := (t : Int)) (by omega) (by rw [HD.out]; omega)
        have sb := Pt.size_bound (n := (M : Int)) (i := (t : Int)) (by omega) (by rw [HD.out]; omega)
        obtain ⟨F, hF⟩ : ∃ F : Nat, Pt.fromZ (M : Int) (t : Int) = (F : Int) := ⟨(Pt.fromZ (M : Int) (t : Int)).toNat, by omega⟩
        obtain ⟨S, hS⟩ : ∃ S : Nat, Pt.sizeZ (M : Int) (t : Int) = (S : Int) := ⟨(Pt.sizeZ (M : Int) (t : Int)).toNat, by omega⟩
        rw [hF, hS] at pin
        rw [hS] at sb
        have hown : partL ps (t : Int) = (ps.drop F).take S := by unfold partL; rw [HM.out, hF, hS]; rfl
        obtain ⟨own, ho⟩ : ∃ own, partL ps (t : Int) = own := ⟨_, rfl⟩
        have OWL : Hid (own.length = S) := hide (by rw [← ho, hown, List.length_take, List.length_drop, HM.out]; omega)
        have OWN : Hid (own = (ps.drop F).take S) := hide (by rw [← ho, hown])
        unfold InnI at HI
        have KS : Hid (kidF (layF f) ps s (t + 1) = ((kidF (layF f) ps s t).1 ++ [(layF f (kidF (layF f) ps s t).2 own).1], (layF f (kidF (layF f) ps s t).2 own).2)) := hide (by rw [kidF, ho])
        have LS : Hid (0 < t → lowL ps (t + 1) = lowL ps t ++ [(own.headD (0, 0)).1]) := hide (fun h => by rw [lowL, if_neg (by omega), ho])
        have CL := kidF_len (layF f) ps s t
        have QL := lowL_len ps t
        obtain ⟨cs, hcs⟩ : ∃ cs, (kidF (layF f) ps s t).1 = cs := ⟨_, rfl⟩
        obtain ⟨st, hst⟩ : ∃ st, (kidF (layF f) ps s t).2 = st := ⟨_, rfl⟩
        obtain ⟨qs, hqs⟩ : ∃ qs, lowL ps t = qs := ⟨_, rfl⟩
        obtain ⟨zc, sc, hz⟩ : ∃ zc sc, layF f st own = (zc, sc) := ⟨_, _, rfl⟩
        rw [hcs, hst, hz] at KS
        rw [hqs] at LS QL
        rw [hcs] at CL
        rw [hcs, hst, hqs] at HI
        have HZ := hide hz
        have HFF := hide hF
        have HSS := hide hS
        have HCL := hide CL
        have HQL := hide QL
        obtain ⟨p1, p2, p3⟩ := pin
        have p4 : F + S ≤ M := by omega
        have p5 : 1 ≤ S := by omega
        have p6 : S < M := by omega
        have i1 : (t : Int) < (D : Int) := by omega
        clear hown ho hcs hst hqs hz hF hS sb p1 p2 p3 CL QL
        go_wp2_with (fail)
        refine (from_k (M : Int) (t : Int) (F : Int) (I64.wf ⟨by omega, by omega⟩) HFF.out _).mono ?_
        rintro e w1 ⟨rfl, k1⟩
        have I1 := hide (HI.out.kept k1)
        clear k1 HI
        go_wp2_with (fail)
        refine (size_k (M : Int) (t : Int) (S : Int) (I64.wf ⟨by omega, by omega⟩) HSS.out _).mono ?_
        rintro e w2 ⟨rfl, k2⟩
        have I2 := hide (I1.out.kept k2)
        clear k2 I1
        have PR := LayI.list I2.out HR.out HA.out F S
        rw [← OWN.out] at PR
        have c0 := (preads_head PR (by have := OWL.out; omega)).1
        obtain ⟨hk, hhk⟩ : ∃ x, (own.headD (0, 0)).1 = x := ⟨_, rfl⟩
        rw [hhk] at c0 LS
        clear PR hhk
        by_cases g0 : (0 : Int) < (t : Int)
        · go_wp2_with (at_builtin; refine Stop.out ?_)
          refine ⟨?_⟩
          refine wpList_append_q rfl _ _ rfl rfl rfl I2.out (by have := HQL.out; omega) rfl ?_
          intro vq' wq iq
          have IQ := hide iq
          clear iq I2 c0
          go_wp2_with (fail)
          obtain ⟨v1, m1, f1, st1⟩ := IQ.out.step
          have PR1 := LayI.list IQ.out HR.out HA.out F S
          rw [← OWN.out] at PR1
          refine (IH.out _ n₀ b v1 st _ own S (cap - F) m1 (Nat.le_trans HN.out IQ.out.turned.size) PR1 OWL.out (by omega) (by have := HCM.out; omega) (by omega) (by have := HF.out; omega) (fun _ ad e hk => by
            cases e
            rcases f1 _ hk with e | e
            · exact HA.out e
            · have := HB.out; exact absurd e (by simp only; omega)) zc sc HZ.out).mono ?_
          rintro e w3 ⟨rfl, d3⟩
          have I3 := hide (st1 _ _ d3)
          clear d3 st1 m1 f1 PR1 IQ
          go_wp2_with (at_builtin; refine Stop.out ?_)
          refine ⟨?_⟩
          refine wpList_append_c rfl _ _ rfl rfl rfl I3.out (by have := HCL.out; omega) rfl ?_
          intro v4 w4 i4
          have I4 := hide i4
          clear i4 I3
          go_wp2
          exact ⟨⟨t + 1, by omega, by simp, hide (by unfold InnI; rw [KS.out, LS.out (by omega)]; exact I4.out)⟩, by simp [intOf]; omega⟩
        · have z0 : t = 0 := by omega
          have QN : Hid (lowL ps (t + 1) = qs) := hide (by
            have h1 := lowL_len ps (t + 1)
            have h2 := HQL.out
            rw [z0] at h1 h2
            rw [z0, List.length_eq_zero_iff.1 h1, List.length_eq_zero_iff.1 h2])
          clear c0 z0
          go_wp2_with (fail)
          obtain ⟨v1, m1, f1, st1⟩ := I2.out.step
          have PR1 := LayI.list I2.out HR.out HA.out F S
          rw [← OWN.out] at PR1
          refine (IH.out _ n₀ b v1 st _ own S (cap - F) m1 (Nat.le_trans HN.out I2.out.turned.size) PR1 OWL.out (by omega) (by have := HCM.out; omega) (by omega) (by have := HF.out; omega) (fun _ ad e hk => by
            cases e
            rcases f1 _ hk with e | e
            · exact HA.out e
            · have := HB.out; exact absurd e (by simp only; omega)) zc sc HZ.out).mono ?_
          rintro e w3 ⟨rfl, d3⟩
          have I3 := hide (st1 _ _ d3)
          clear d3 st1 m1 f1 PR1 I2
          go_wp2_with (at_builtin; refine Stop.out ?_)
          refine ⟨?_⟩
          refine wpList_append_c rfl _ _ rfl rfl rfl I3.out (by have := HCL.out; omega) rfl ?_
          intro v4 w4 i4
          have I4 := hide i4
          clear i4 I3
          go_wp2
          exact ⟨⟨t + 1, by omega, by simp, hide (by unfold InnI; rw [KS.out, QN.out]; exact I4.out)⟩, by simp [intOf]; omega⟩
      · obtain rfl : t = D := by omega
        unfold InnI at HI
        have CL := kidF_len (layF f) ps s t
        have QL := lowL_len ps t
        obtain ⟨cs, hcs⟩ : ∃ cs, (kidF (layF f) ps s t).1 = cs := ⟨_, rfl⟩
        obtain ⟨st, hst⟩ : ∃ st, (kidF (layF f) ps s t).2 = st := ⟨_, rfl⟩
        obtain ⟨qs, hqs⟩ : ∃ qs, lowL ps t = qs := ⟨_, rfl⟩
        rw [hcs, hst, hqs] at HI E2
        rw [hqs] at QL
        rw [hcs] at CL
        obtain ⟨aq, cq, rfl, rq, q0⟩ := HI.out.q.form
        obtain ⟨ac, cc, rfl, rc, c0⟩ := HI.out.c.form
        have HIN := hide (inner_c _ (M : Int) aq qs cq ac cs cc rq rc q0 c0 (by omega) (by omega))
        have WL : Hid ((innerL (M : Int) qs cs).length ≤ 1000000) := hide (by rw [innerL_length]; omega)
        obtain ⟨ws, hws⟩ : ∃ ws, innerL (M : Int) qs cs = ws := ⟨_, rfl⟩
        rw [hws] at HIN E2 WL
        clear hcs hst hqs hws rq rc q0 c0 CL QL
        go_wp2_with (fail)
        refine HIN.out.mono ?_
        intro e w1 hf
        obtain ⟨a1, cap1, rfl, r1, -, -, lo1, -, k1⟩ := hf.form
        have I1 := hide (HI.out.kept k1)
        have R1 := hide r1
        have LO : Hid (∀ ad, a1 = some ad → ad.block ≠ b) := hide (fun ad e => by
          obtain ⟨v1, m1, _⟩ := HI.out.mem
          have e1 := lo1 ad e
          have e2 := (m1.lt b (.inl rfl)).2
          omega)
        clear hf k1 r1 lo1 HI HIN
        go_wp2_with (fail)
        obtain ⟨v1, m1, f1, st1⟩ := I1.out.step
        refine (record_p _ n₀ b v1 st 3 a1 ws ws.length cap1 rfl m1 (Nat.le_trans HN.out I1.out.turned.size) R1.out WL.out LO.out z s' E2.out).mono ?_
        rintro e w3 ⟨rfl, d3⟩
        have D3 := hide (Does.then I1.out.turned f1 d3)
        clear d3 st1 m1 f1
        go_wp2
        go_ret
        exact ⟨rfl, D3.out⟩)

set_option maxHeartbeats 4000000 in
theorem lay_p : ∀ f, LayC f
  | 0 => fun _ _ _ _ _ _ _ _ _ _ _ _ _ _ _ _ h => by omega
  | f + 1 => fun W n₀ b v s a ps M cap h hn hr hM hc hcm hm hf ha z s' e1 => by
    have ih := lay_p f
    have hcm' : (cap : Int) ≤ 9223372036854775807 := by unfold maxLen at hcm; omega
    by_cases h0 : M = 0
    · have e2 : recS s 1 [0] = (z, s') := by rw [← e1, layF_succ, if_pos (by omega)]
      have H := hide h
      have HN := hide hn
      have E2 := hide e2
      have g0 : ((M : Int) == 0) = true := by simp [h0]
      clear h hn hr hM ha e1 e2 ih hcm
      go_enter Try.func42, Try.ntmps42
      go_wp2_with (fail)
      refine (empty_c W).mono ?_
      intro e w1 hff
      obtain ⟨a1, cap1, rfl, r1, -, -, lo1, -, k1⟩ := hff.form
      have R1 := hide r1
      have K1 := hide k1
      have LO : Hid (∀ ad, a1 = some ad → ad.block ≠ b) := hide (fun ad e => by
        have e1 := lo1 ad e
        have e2 := (H.out.lt b (.inl rfl)).2
        omega)
      clear hff k1 r1 lo1
      go_wp2_with (fail)
      refine (record_p _ n₀ b v s 1 a1 [0] _ cap1 rfl (H.out.kept K1.out) (Nat.le_trans HN.out K1.out.size) R1.out (by decide) LO.out z s' E2.out).mono ?_
      rintro e w3 ⟨rfl, d3⟩
      have D3 := hide (Does.after K1.out d3)
      clear d3
      go_wp2
      go_ret
      exact ⟨rfl, D3.out⟩
    · by_cases h1 : M = 1
      · subst h1
        obtain ⟨p, rfl⟩ : ∃ p, ps = [p] := List.length_eq_one_iff.1 hM
        have e2 : recS s 2 [p.1, p.2] = (z, s') := by rw [← e1, layF_succ, if_neg (by simp), if_pos (by simp)]; rfl
        obtain ⟨bl, off, rfl⟩ : ∃ bl off, a = some ⟨bl, off, none⟩ := by
          obtain ⟨bl, off, e, _⟩ := hr.at (j := 0) (p := p) rfl
          exact ⟨bl, off, e⟩
        obtain ⟨c1, c2⟩ := preads_head hr (by simp)
        simp only [List.headD_cons] at c1 c2
        obtain ⟨V, hV⟩ : ∃ V, W.drew = V := ⟨_, rfl⟩
        have kV : Kept W V := by rw [← hV]; exact Kept.drew _
        have hna := ha (by simp) _ rfl
        have x1 : ∀ u : Wd (fun U => Turned (Foot b v) V U), u.w.cell? ⟨bl, off, none⟩ = some (.int .i64 p.1) := fun u => u.ok.cell (kV.cell c1 id) hna
        have x2 : ∀ u : Wd (fun U => Turned (Foot b v) V U), u.w.cell? ⟨bl, off + 1, none⟩ = some (.int .i64 p.2) := fun u => u.ok.cell (kV.cell c2 id) hna
        have HV := hide hV
        have KV := hide kV
        have H := hide (h.kept kV)
        have HN := hide (Nat.le_trans hn kV.size)
        have E2 := hide e2
        obtain ⟨p1, p2⟩ := p
        simp only at x1 x2 E2
        clear h hn hr hM ha e1 e2 ih hcm c1 c2 hna hV kV
        go_enter Try.func42, Try.ntmps42
        go_wp2_with (fail)
        refine region_wide [0, 1, 2, 3, 4, 5, 6, 7, 8, 9, 10, 11] (fun U => Turned (Foot b v) V U) (by kernel_rfl) (by kernel_rfl) (by rw [HV.out]; exact Turned.refl _ _) (fun _ => ?_)
        rw [HV.out]
        repeat (refine pq rfl rfl ?_; go_big_quiet_step (fail); refine wpQuiet_nil ?_)
        refine pl rfl rfl ?_
        gi_wp2_with (fail)
        refine ⟨trivial, ?_⟩
        refine (callsIn_wide.2 (leaf_c V p1 p2)).mono ?_
        intro e w1 hff
        obtain ⟨a1, cap1, rfl, r1, -, -, lo1, -, k1⟩ := hff.form
        have R1 := hide r1
        have K1 := hide k1
        have LO : Hid (∀ ad, a1 = some ad → ad.block ≠ b) := hide (fun ad e => by
          have e1 := lo1 ad e
          have e2 := (H.out.lt b (.inl rfl)).2
          omega)
        clear hff k1 r1 lo1
        gi_wp2_with (fail)
        refine ⟨Wd.mem (K1.out.mono (fun _ _ e => e.elim)), ?_⟩
        refine pl rfl rfl ?_
        gi_wp2_with (fail)
        refine ⟨trivial, ?_⟩
        refine (callsIn_wide.2 (record_p _ n₀ b v s 2 a1 [p1, p2] _ cap1 rfl (H.out.kept K1.out) (Nat.le_trans HN.out K1.out.size) R1.out (by simp) LO.out z s' E2.out)).mono ?_
        rintro e w3 ⟨rfl, d3⟩
        have D3 := hide (Does.after (KV.out.trans K1.out) d3)
        have T3 : Hid (Turned (Foot b v) V w3) := hide (by
          obtain ⟨_, _, t3, _⟩ := Does.after K1.out d3
          exact t3)
        clear d3
        gi_wp2_with (fail)
        refine ⟨Wd.mem T3.out, ?_⟩
        repeat (refine pq rfl rfl ?_; go_big_quiet_step (fail); refine wpQuiet_nil ?_)
        refine perm_done ?_
        go_wp2
        go_ret
        exact ⟨rfl, D3.out⟩
      · have HI := hide (layInner_p f ih W n₀ b v s a ps M cap h hn hr hM hc hcm hm hf (by omega) (ha (fun e => by rw [e] at hM; simp at hM; omega)) z s' e1)
        have g0 : ((M : Int) == 0) = false := by simp only [beq_eq_false_iff_ne, ne_eq]; omega
        have g1 : ((M : Int) == 1) = false := by simp only [beq_eq_false_iff_ne, ne_eq]; omega
        clear h hn hr hM ha e1 ih hcm
        go_enter Try.func42, Try.ntmps42
        go_wp2_with (fail)
        refine HI.out.mono ?_
        rintro e w3 ⟨rfl, d3⟩
        have D3 := hide d3
        clear d3
        go_wp2
        go_ret
        exact ⟨rfl, D3.out⟩
end Go.Proofs.Ytgialpjdfeldeaa

/-! What part.Depth and part.Cells, which call themselves, answer, each in one sentence (a contract), for every number that may be handed to them; the world is turned by draws alone. -/
namespace Go.Proofs.Ytgialpjdfeldeaa.Pt
open Go.ChangeShapes Go.WideShapes Go.ChangeAt Go.RowKit

theorem wf_int {a : Int} (h : -9223372036854775808 ≤ a) (h' : a ≤ 9223372036854775807) : (Lit.int .i64 a).wf = true := by
  have h1 : IntKind.min .i64 = -9223372036854775808 := by decide
  have h2 : IntKind.max .i64 = 9223372036854775807 := by decide
  simp only [Lit.wf, h1, h2, Bool.and_eq_true, decide_eq_true_eq]
  exact ⟨h, h'⟩

theorem depth_f (f : Nat) : ∀ (n : Int), n.toNat ≤ f → (Lit.int .i64 n).wf = true → ∀ (w : World),
    Calls Try.prog 36 #[.int .i64 n] w fun e w' => e = .returned (.int .i64 (depZ n)) ∧ ∃ k, w' = w.drewN k := by
  induction f with
  | zero =>
    intro n hf hn w
    have hd := deg_c n hn
    rw [deg_none (by omega)] at hd
    rw [dep_none (by omega)]
    clear hn
    go_enter Try.func36, Try.ntmps36
    go_wp2_with (go_at_call 55; refine (hd _).mono ?_; rintro e w' ⟨rfl, rfl⟩)
    go_ret
    exact ⟨rfl, 0, rfl⟩
  | succ f ih =>
    intro n hf hn w
    have hd := deg_c n hn
    have d := deg_nat n
    by_cases c : degZ n = 0
    · rw [dep_eq, if_pos c]
      rw [c] at hd
      clear hn ih
      go_enter Try.func36, Try.ntmps36
      go_wp2_with (go_at_call 55; refine (hd _).mono ?_; rintro e w' ⟨rfl, rfl⟩)
      go_ret
      exact ⟨rfl, 0, rfl⟩
    · have p := deg_pos (n := n) (by omega)
      have s0 := size_bound (n := n) (i := 0) (by omega) (by omega)
      have s1 := size_bound (n := n) (i := degZ n - 1) (by omega) (by omega)
      have h0 := size_c n 0 hn
      have h1 := size_c n (degZ n - 1) hn
      have i0 := ih (sizeZ n 0) (by omega) (wf_int (by omega) (by omega))
      have i1 := ih (sizeZ n (degZ n - 1)) (by omega) (wf_int (by omega) (by omega))
      have b0 := dep_nat (sizeZ n 0)
      have b1 := dep_nat (sizeZ n (degZ n - 1))
      rw [dep_eq, if_neg c]
      generalize depZ (sizeZ n 0) = u at *
      generalize depZ (sizeZ n (degZ n - 1)) = v at *
      generalize sizeZ n 0 = x at *
      generalize sizeZ n (degZ n - 1) = y at *
      generalize degZ n = z at *
      clear hn ih
      go_enter Try.func36, Try.ntmps36
      go_wp2_with fail
      refine (hd _).mono ?_
      rintro e w' ⟨rfl, rfl⟩
      go_wp2_with fail
      refine (h0 _).mono ?_
      rintro e w' ⟨rfl, k1, rfl⟩
      go_wp2_with fail
      refine (i0 _).mono ?_
      rintro e w' ⟨rfl, k2, rfl⟩
      go_wp2_with fail
      refine (h1 _).mono ?_
      rintro e w' ⟨rfl, k3, rfl⟩
      go_wp2_with fail
      refine (i1 _).mono ?_
      rintro e w' ⟨rfl, k4, rfl⟩
      go_wp2
      go_ret
      exact ⟨rfl, _, rfl⟩
theorem depth_c (n : Int) (hn : (Lit.int .i64 n).wf = true) (w : World) :
    Calls Try.prog 36 #[.int .i64 n] w fun e w' => e = .returned (.int .i64 (depZ n)) ∧ ∃ k, w' = w.drewN k := depth_f n.toNat n (Nat.le_refl _) hn w

theorem cells_f (f : Nat) : ∀ (n : Int), n.toNat ≤ f → (Lit.int .i64 n).wf = true → ∀ (w : World),
    Calls Try.prog 30 #[.int .i64 n] w fun e w' => e = .returned (.int .i64 (celZ n)) ∧ ∃ k, w' = w.drewN k := by
  induction f with
  | zero =>
    intro n hf hn w
    have hn' := bounds_i64 hn
    clear hn
    by_cases c : n < 0
    · have hm := may_no n (Or.inl c)
      rw [cel_none (by omega)]
      go_enter Try.func30, Try.ntmps30
      go_wp2_with (go_at_call 54; refine (hm _).mono ?_; rintro e w' ⟨rfl, rfl⟩)
      go_ret
      exact ⟨rfl, 0, rfl⟩
    · obtain rfl : n = 0 := by omega
      have hm := may_yes 0 (by omega) (by omega)
      rw [cel_is_0]
      go_enter Try.func30, Try.ntmps30
      go_wp2_with (go_at_call 54; refine (hm _).mono ?_; rintro e w' ⟨rfl, rfl⟩)
      go_ret
      exact ⟨rfl, 0, rfl⟩
  | succ f ih =>
    intro n hf hn w
    have hn' := bounds_i64 hn
    by_cases c : n < 0 ∨ 16384 < n
    · have hm := may_no n c
      rw [cel_none c]
      clear hn ih
      go_enter Try.func30, Try.ntmps30
      go_wp2_with (go_at_call 54; refine (hm _).mono ?_; rintro e w' ⟨rfl, rfl⟩)
      go_ret
      exact ⟨rfl, 0, rfl⟩
    · have hm := may_yes n (by omega) (by omega)
      by_cases c0 : n = 0
      · subst c0
        rw [cel_is_0]
        clear hn ih
        go_enter Try.func30, Try.ntmps30
        go_wp2_with (go_at_call 54; refine (hm _).mono ?_; rintro e w' ⟨rfl, rfl⟩)
        go_ret
        exact ⟨rfl, 0, rfl⟩
      · by_cases c1 : n = 1
        · subst c1
          rw [cel_is_1]
          clear hn ih
          go_enter Try.func30, Try.ntmps30
          go_wp2_with (go_at_call 54; refine (hm _).mono ?_; rintro e w' ⟨rfl, rfl⟩)
          go_ret
          exact ⟨rfl, 0, rfl⟩
        · have q0 : (n == 0) = false := by simp; omega
          have q1 : (n == 1) = false := by simp; omega
          have hd := deg_c n hn
          have d := deg_bound (n := n) (by omega) (by omega)
          obtain ⟨e1, e2, e3, e4⟩ := each_bound (n := n) (by omega)
          obtain ⟨s1, s2, s3⟩ := split_eq (n := n) (by omega)
          have hi := ih (eachZ n) (by omega) (wf_int (by omega) (by omega))
          have g1 : n / degZ n = eachZ n := rfl
          have g2 : n % degZ n = moreZ n := rfl
          have kA := cel_nat (eachZ n)
          have kB := cel_nat (eachZ n + 1)
          have pA0 : 0 ≤ (degZ n - moreZ n) * celZ (eachZ n) := Int.mul_nonneg (by omega) (by omega)
          have pA1 : (degZ n - moreZ n) * celZ (eachZ n) ≤ 128 * 163832 := Int.mul_le_mul (by omega) (by omega) (by omega) (by omega)
          have pB0 : 0 ≤ moreZ n * celZ (eachZ n + 1) := Int.mul_nonneg (by omega) (by omega)
          have pB1 : moreZ n * celZ (eachZ n + 1) ≤ 128 * 163832 := Int.mul_le_mul (by omega) (by omega) (by omega) (by omega)
          have wA : wrap64 ((degZ n - moreZ n) * celZ (eachZ n)) = (degZ n - moreZ n) * celZ (eachZ n) := wrap_same (by omega) (by omega)
          have wB : wrap64 (moreZ n * celZ (eachZ n + 1)) = moreZ n * celZ (eachZ n + 1) := wrap_same (by omega) (by omega)
          rw [cel_some (by omega)]
          by_cases cm : 0 < moreZ n
          · have := e4 cm
            have hj := ih (eachZ n + 1) (by omega) (wf_int (by omega) (by omega))
            generalize celZ (eachZ n) = A at *
            generalize celZ (eachZ n + 1) = B at *
            generalize eachZ n = q at *
            generalize moreZ n = m at *
            generalize degZ n = z at *
            obtain ⟨P, hP⟩ : ∃ P, (z - m) * A = P := ⟨_, rfl⟩
            obtain ⟨R, hR⟩ : ∃ R, m * B = R := ⟨_, rfl⟩
            have wA' : wrap64 ((z - m) * A) = P := by rw [wA, hP]
            have wB' : wrap64 (m * B) = R := by rw [wB, hR]
            rw [hP] at pA0 pA1 ⊢
            rw [hR] at pB0 pB1 ⊢
            clear hn ih hP hR wA wB s1 e4
            go_enter Try.func30, Try.ntmps30
            go_wp2_with fail
            refine (hm _).mono ?_
            rintro e w' ⟨rfl, rfl⟩
            go_wp2_with fail
            refine (hd _).mono ?_
            rintro e w' ⟨rfl, rfl⟩
            go_wp2_with fail
            go_quiet (fail)
            go_wp2_with fail
            refine (hi _).mono ?_
            rintro e w' ⟨rfl, k1, rfl⟩
            go_wp2_with fail
            refine (hj _).mono ?_
            rintro e w' ⟨rfl, k2, rfl⟩
            go_wp2
            go_ret
            exact ⟨rfl, _, rfl⟩
          · have cm' : moreZ n = 0 := by omega
            rw [cm', Int.zero_mul]
            rw [cm'] at wA pA0 pA1 g2
            clear pB0 pB1 wB kB e4 s2 s3 cm
            generalize celZ (eachZ n) = A at *
            generalize eachZ n = q at *
            generalize degZ n = z at *
            simp only [Int.sub_zero, Int.add_zero] at wA pA0 pA1 ⊢
            obtain ⟨P, hP⟩ : ∃ P, z * A = P := ⟨_, rfl⟩
            have wA' : wrap64 (z * A) = P := by rw [wA, hP]
            rw [hP] at pA0 pA1 ⊢
            clear hn ih hP wA s1
            go_enter Try.func30, Try.ntmps30
            go_wp2_with fail
            refine (hm _).mono ?_
            rintro e w' ⟨rfl, rfl⟩
            go_wp2_with fail
            refine (hd _).mono ?_
            rintro e w' ⟨rfl, rfl⟩
            go_wp2_with fail
            go_quiet (fail)
            go_wp2_with fail
            refine (hi _).mono ?_
            rintro e w' ⟨rfl, k1, rfl⟩
            go_wp2
            go_ret
            exact ⟨rfl, _, rfl⟩
theorem cells_c (n : Int) (hn : (Lit.int .i64 n).wf = true) (w : World) :
    Calls Try.prog 30 #[.int .i64 n] w fun e w' => e = .returned (.int .i64 (celZ n)) ∧ ∃ k, w' = w.drewN k := cells_f n.toNat n (Nat.le_refl _) hn w
end Go.Proofs.Ytgialpjdfeldeaa.Pt

/-! The plain arithmetic of chapter 2: gaps, shares, roots, digits, sums and products as functions of whole numbers, and what holds of them; no Go in sight. -/
namespace Go.Proofs.Ytgialpjdfeldeaa.Pb
open Go

def gapZ (a b : Int) : Int := if b < a then 0 else b - a
def shareZ (p w n : Int) : Int := if 1 ≤ w ∧ 1 ≤ n ∧ n ≤ 65536 then min p w * n / w else 0
def sqN : Nat → Nat
  | 0 => 0
  | n + 1 => if (sqN n + 1) * (sqN n + 1) ≤ n + 1 then sqN n + 1 else sqN n
def rootZ (n : Int) : Int := (sqN n.toNat : Int)
def bitsZ (n : Int) : Int := (Lib.bitLen n.toNat : Int)
def plusZ (a b : Int) : Int := if 0 ≤ a ∧ 0 ≤ b then min (a + b) 9223372036854775807 else 0
def timesZ (a b : Int) : Int := if 0 ≤ a ∧ 0 ≤ b then min (a * b) 9223372036854775807 else 0

/-! ### Roots -/
theorem sqN_spec (n : Nat) : sqN n * sqN n ≤ n ∧ n < (sqN n + 1) * (sqN n + 1) := by
  induction n with
  | zero => simp [sqN]
  | succ n ih =>
    obtain ⟨h1, h2⟩ := ih
    unfold sqN
    split
    · rename_i h
      refine ⟨h, ?_⟩
      generalize sqN n = r at h1 h2 h
      have e : (r + 1 + 1) * (r + 1 + 1) = (r + 1) * (r + 1) + 2 * r + 3 := by
        simp only [Nat.mul_add, Nat.add_mul]; omega
      omega
    · rename_i h
      exact ⟨by omega, by omega⟩

theorem mul_self_lt {a b : Int} (ha : 0 ≤ a) (h : a < b) : a * a < b * b := by
  have h1 : a * a ≤ a * b := Int.mul_le_mul_of_nonneg_left (by omega) ha
  have h2 : a * b < b * b := Int.mul_lt_mul_of_pos_right h (by omega)
  omega
theorem mul_self_le {a b : Int} (ha : 0 ≤ a) (h : a ≤ b) : a * a ≤ b * b := by
  have h1 : a * a ≤ a * b := Int.mul_le_mul_of_nonneg_left h ha
  have h2 : a * b ≤ b * b := Int.mul_le_mul_of_nonneg_right h (by omega)
  omega
theorem lt_of_self {a b : Int} (hb : 0 ≤ b) (h : a * a < b * b) : a < b := by
  rcases Int.lt_or_le a b with g | g
  · exact g
  · have := mul_self_le hb g
    omega

theorem root_spec {n : Int} (h : 0 ≤ n) : 0 ≤ rootZ n ∧ rootZ n * rootZ n ≤ n ∧ n < (rootZ n + 1) * (rootZ n + 1) := by
  obtain ⟨h1, h2⟩ := sqN_spec n.toNat
  unfold rootZ
  refine ⟨by omega, ?_, ?_⟩
  · rw [← Int.natCast_mul]; omega
  · have e : ((sqN n.toNat : Int) + 1) * ((sqN n.toNat : Int) + 1) = (((sqN n.toNat + 1) * (sqN n.toNat + 1) : Nat) : Int) := by
      rw [Int.natCast_mul, Int.natCast_add]; rfl
    rw [e]; omega
theorem root_unique {n r : Int} (hr : 0 ≤ r) (h1 : r * r ≤ n) (h2 : n < (r + 1) * (r + 1)) : rootZ n = r := by
  have hn : 0 ≤ n := Int.le_trans (Int.mul_nonneg hr hr) h1
  obtain ⟨g0, g1, g2⟩ := root_spec hn
  have a1 := lt_of_self (a := r) (b := rootZ n + 1) (by omega) (by omega)
  have a2 := lt_of_self (a := rootZ n) (b := r + 1) (by omega) (by omega)
  omega
theorem root_none {n : Int} (h : n < 1) : rootZ n = 0 := by
  have e : n.toNat = 0 := by omega
  unfold rootZ
  rw [e]; rfl

/-- d is a power of two up to 2^31 -/
def Pw (d : Int) : Prop := ∃ k : Nat, k ≤ 31 ∧ d = ((2 ^ k : Nat) : Int)
theorem pw_bound {d : Int} (h : Pw d) : 1 ≤ d ∧ d ≤ 2147483648 := by
  obtain ⟨k, hk, rfl⟩ := h
  have h1 : 1 ≤ 2 ^ k := Nat.one_le_two_pow
  have h2 : 2 ^ k ≤ 2 ^ 31 := Nat.pow_le_pow_right (by omega) hk
  omega
theorem pw_half {d : Int} (h : Pw d) : (d = 1 ∧ d / 2 = 0) ∨ (d = 2 * (d / 2) ∧ Pw (d / 2)) := by
  obtain ⟨k, hk, rfl⟩ := h
  cases k with
  | zero => left; decide
  | succ k =>
    right
    have e : ((2 ^ (k + 1) : Nat) : Int) = 2 * ((2 ^ k : Nat) : Int) := by rw [Nat.pow_succ]; omega
    refine ⟨by omega, k, by omega, by omega⟩

def RInv (n r d : Int) : Prop := 0 ≤ r ∧ r * r ≤ n ∧ ((d = 0 ∧ n < (r + 1) * (r + 1)) ∨ (Pw d ∧ n < (r + 2 * d) * (r + 2 * d)))
theorem rinv_bound {n r d : Int} (hn : n ≤ 9223372036854775807) (h : RInv n r d) : 0 ≤ r ∧ r ≤ 3037000499 ∧ 0 ≤ d ∧ d ≤ 2147483648 := by
  obtain ⟨h0, h1, h2⟩ := h
  have a := lt_of_self (a := r) (b := 3037000500) (by omega) (by omega)
  rcases h2 with ⟨rfl, _⟩ | ⟨h2, _⟩
  · omega
  · have := pw_bound h2; omega
theorem rinv_up {n r d : Int} (h : RInv n r d) (hd : 0 < d) (hc : (r + d) * (r + d) ≤ n) : RInv n (r + d) (d / 2) := by
  obtain ⟨h0, h1, h2⟩ := h
  rcases h2 with ⟨rfl, _⟩ | ⟨h2, h3⟩
  · omega
  · refine ⟨by omega, hc, ?_⟩
    have e : r + d + d = r + 2 * d := by omega
    rcases pw_half h2 with ⟨g1, g2⟩ | ⟨g1, g2⟩
    · left
      refine ⟨g2, ?_⟩
      have e1 : r + d + 1 = r + 2 * d := by omega
      rw [e1]; exact h3
    · right
      refine ⟨g2, ?_⟩
      have e1 : r + d + 2 * (d / 2) = r + 2 * d := by omega
      rw [e1]; exact h3
theorem rinv_stay {n r d : Int} (h : RInv n r d) (hd : 0 < d) (hc : n < (r + d) * (r + d)) : RInv n r (d / 2) := by
  obtain ⟨h0, h1, h2⟩ := h
  rcases h2 with ⟨rfl, _⟩ | ⟨h2, h3⟩
  · omega
  · refine ⟨h0, h1, ?_⟩
    rcases pw_half h2 with ⟨g1, g2⟩ | ⟨g1, g2⟩
    · left
      refine ⟨g2, ?_⟩
      rw [← g1]; rw [g1] at hc ⊢; exact hc
    · right
      refine ⟨g2, ?_⟩
      rw [← g1]; exact hc
theorem rinv_end {n r : Int} (h : RInv n r 0) : rootZ n = r := by
  obtain ⟨h0, h1, h2⟩ := h
  rcases h2 with ⟨_, h3⟩ | ⟨h2, h3⟩
  · exact root_unique h0 h1 h3
  · have := pw_bound h2; omega
theorem le_quo {n t : Int} (ht : 0 < t) : t ≤ n / t ↔ t * t ≤ n := Int.le_ediv_iff_mul_le ht

/-! ### Digits -/
theorem bits_spec {n : Int} (h : 1 ≤ n) (h' : n ≤ 9223372036854775807) : ∃ L : Nat, bitsZ n = L ∧ 1 ≤ L ∧ L ≤ 63 ∧ ((2 ^ (L - 1) : Nat) : Int) ≤ n ∧ n < ((2 ^ L : Nat) : Int) := by
  obtain ⟨a, b, c⟩ := Lib.bitLenAux_bounds 64 n.toNat (by omega) (by omega)
  have d := Lib.bitLen_le n.toNat 63 (by omega) (by omega)
  refine ⟨Lib.bitLen n.toNat, rfl, a, d, ?_, ?_⟩
  · have b' : 2 ^ (Lib.bitLen n.toNat - 1) ≤ n.toNat := b
    omega
  · have c' : n.toNat < 2 ^ Lib.bitLen n.toNat := c
    omega
theorem bits_none {n : Int} (h : n < 1) : bitsZ n = 0 := by
  have e : n.toNat = 0 := by omega
  unfold bitsZ
  rw [e]; rfl
theorem bits_le (n : Int) (h' : n ≤ 9223372036854775807) : 0 ≤ bitsZ n ∧ bitsZ n ≤ 63 := by
  have d := Lib.bitLen_le n.toNat 63 (by omega) (by omega)
  unfold bitsZ
  omega
theorem bits_half {n : Int} (h : 0 < n) (h' : n ≤ 9223372036854775807) : bitsZ n = bitsZ (n / 2) + 1 := by
  have e := Lib.bitLen_half n.toNat (by omega) (by omega)
  have e2 : (n / 2).toNat = n.toNat / 2 := by omega
  unfold bitsZ
  rw [e2, e]; omega

theorem root_begin {n : Int} (h : 1 ≤ n) (h' : n ≤ 9223372036854775807) : RInv n 0 ((2 ^ ((bitsZ n - 1) / 2).toNat : Nat) : Int) := by
  obtain ⟨L, e, l1, l2, b1, b2⟩ := bits_spec h h'
  rw [e]
  have e2 : (((L : Int) - 1) / 2).toNat = (L - 1) / 2 := by omega
  rw [e2]
  refine ⟨by omega, by omega, Or.inr ⟨⟨(L - 1) / 2, by omega, rfl⟩, ?_⟩⟩
  have e3 : (0 + 2 * ((2 ^ ((L - 1) / 2) : Nat) : Int)) = ((2 ^ ((L - 1) / 2 + 1) : Nat) : Int) := by
    rw [Nat.pow_succ]; omega
  rw [e3, ← Int.natCast_mul, ← Nat.pow_add]
  have : 2 ^ L ≤ 2 ^ ((L - 1) / 2 + 1 + ((L - 1) / 2 + 1)) := Nat.pow_le_pow_right (by omega) (by omega)
  omega
end Go.Proofs.Ytgialpjdfeldeaa.Pb

/-! Chapter 6 as functions of lists of whole numbers: rising lists, how many are not above a key, the guess, the path; what holds of them. No Go in sight. No conditions beyond each theorem's own. -/
namespace Go.Proofs.Ytgialpjdfeldeaa.Pb

/-- A list of strictly ascending keys, not too long. -/
def Up (q : List Int) : Prop := q.length ≤ 65536 ∧ q.Pairwise (· < ·)
instance (q : List Int) : Decidable (Up q) := inferInstanceAs (Decidable (_ ∧ _))
def upB (q : List Int) : Bool := decide (Up q)
/-- How many are not above k. -/
def cnt (q : List Int) (k : Int) : Nat := q.countP (fun z => decide (z ≤ k))
def findN (q : List Int) (k : Int) : Nat := if Up q then cnt q k else 0
def guessZ (a b k n : Int) : Int := if 2 ≤ n ∧ n ≤ 65536 ∧ a ≤ k ∧ k < b then 1 + shareZ (gapZ a k) (gapZ a b) (n - 1) else 0
/-- From i on up to the first one above k; m: how many there are ahead of the last. -/
def goUp (q : List Int) (k : Int) : Nat → Nat → List Int
  | 0, _ => []
  | m + 1, i => (i : Int) :: if k < q.getD (i - 1) 0 then [] else goUp q k m (i + 1)
/-- From m + 1 on down to the first one that is not above k, but not to 1. -/
def goDown (q : List Int) (k : Int) : Nat → List Int
  | 0 => []
  | m + 1 => ((m + 2 : Nat) : Int) :: if q.getD (m + 1) 0 ≤ k then [] else goDown q k m
/-- The path where k lies between the first and the last key. -/
def midP (q : List Int) (k : Int) (j : Nat) : List Int :=
  (1 : Int) :: (q.length : Int) :: ((if 1 < j then [(j : Int)] else []) ++ if q.getD (j - 1) 0 ≤ k then goUp q k (q.length - (j + 1)) (j + 1) else goDown q k (j - 2))
def pathP (q : List Int) (k : Int) : List Int :=
  if Up q then
    match q with
    | [] => []
    | x :: r =>
      if k < x ∨ r = [] then [1]
      else if q.getD (q.length - 1) 0 ≤ k then [1, (q.length : Int)]
      else midP q k (guessZ x (q.getD (q.length - 1) 0) k q.length).toNat
  else []

/-! ### Rising lists -/
theorem take_snoc' {q : List Int} {k : Nat} {z : Int} (h : q[k]? = some z) : q.take (k + 1) = q.take k ++ [z] := by
  obtain ⟨h1, rfl⟩ := List.getElem?_eq_some_iff.1 h
  exact List.take_succ_eq_append_getElem h1
theorem pw_snoc {q : List Int} {k : Nat} {y z : Int} (h : (q.take (k + 1)).Pairwise (· < ·)) (hy : q[k]? = some y) (hz : q[k + 1]? = some z) (hyz : y < z) : (q.take (k + 2)).Pairwise (· < ·) := by
  rw [take_snoc' hz, List.pairwise_append]
  refine ⟨h, by simp, fun a ha b hb => ?_⟩
  obtain rfl : b = z := by simpa using hb
  rw [take_snoc' hy] at h ha
  rw [List.pairwise_append] at h
  rcases List.mem_append.1 ha with ha | ha
  · have := h.2.2 a ha y (by simp)
    omega
  · obtain rfl : a = y := by simpa using ha
    exact hyz
theorem pw_not {q : List Int} {k : Nat} {y z : Int} (hy : q[k]? = some y) (hz : q[k + 1]? = some z) (hyz : z ≤ y) : ¬ q.Pairwise (· < ·) := by
  intro h
  obtain ⟨h1, e1⟩ := List.getElem?_eq_some_iff.1 hy
  obtain ⟨h2, e2⟩ := List.getElem?_eq_some_iff.1 hz
  have := List.pairwise_iff_getElem.1 h k (k + 1) h1 h2 (by omega)
  omega
theorem up_lt {q : List Int} (h : q.Pairwise (· < ·)) {i j : Nat} {y z : Int} (hy : q[i]? = some y) (hz : q[j]? = some z) (hij : i < j) : y < z := by
  obtain ⟨h1, e1⟩ := List.getElem?_eq_some_iff.1 hy
  obtain ⟨h2, e2⟩ := List.getElem?_eq_some_iff.1 hz
  have := List.pairwise_iff_getElem.1 h i j h1 h2 hij
  omega
theorem up_le {q : List Int} (h : q.Pairwise (· < ·)) {i j : Nat} {y z : Int} (hy : q[i]? = some y) (hz : q[j]? = some z) (hij : i ≤ j) : y ≤ z := by
  rcases Nat.lt_or_ge i j with g | g
  · exact Int.le_of_lt (up_lt h hy hz g)
  · obtain rfl : i = j := by omega
    rw [hy] at hz
    cases hz
    exact Int.le_refl _

/-! ### How many are not above -/
theorem cnt_snoc {q : List Int} {k z : Int} {n : Nat} (h : q[n]? = some z) : cnt (q.take (n + 1)) k = cnt (q.take n) k + if z ≤ k then 1 else 0 := by
  rw [take_snoc' h]
  unfold cnt
  rw [List.countP_append]
  simp [List.countP_cons]
theorem cnt_le (q : List Int) (k : Int) : cnt q k ≤ q.length := List.countP_le_length
theorem cnt_take_le (q : List Int) (k : Int) (n : Nat) : cnt (q.take n) k ≤ n := by
  have := cnt_le (q.take n) k
  rw [List.length_take] at this
  omega
/-- Where the keys up to p are not above k and those behind it are. -/
theorem cnt_at {q : List Int} {k : Int} {p : Nat} (hp : p ≤ q.length) (h1 : ∀ j z, q[j]? = some z → j < p → z ≤ k) (h2 : ∀ j z, q[j]? = some z → p ≤ j → k < z) : cnt q k = p := by
  have e : q = q.take p ++ q.drop p := (List.take_append_drop p q).symm
  unfold cnt
  rw [e, List.countP_append]
  have e1 : (q.take p).countP (fun z => decide (z ≤ k)) = p := by
    have : (q.take p).length = p := by rw [List.length_take]; omega
    rw [List.countP_eq_length.2, this]
    intro z hz
    obtain ⟨i, hi, rfl⟩ := List.getElem_of_mem hz
    rw [List.length_take] at hi
    simp only [decide_eq_true_eq, List.getElem_take]
    exact h1 i _ (List.getElem?_eq_getElem (by omega)) (by omega)
  have e2 : (q.drop p).countP (fun z => decide (z ≤ k)) = 0 := by
    rw [List.countP_eq_zero]
    intro z hz
    obtain ⟨i, hi, rfl⟩ := List.getElem_of_mem hz
    rw [List.length_drop] at hi
    simp only [decide_eq_true_eq, List.getElem_drop]
    have := h2 (p + i) _ (List.getElem?_eq_getElem (by omega)) (by omega)
    omega
  rw [e1, e2, Nat.add_zero]
theorem cnt_below {q : List Int} {k : Int} (h : q.Pairwise (· < ·)) {j : Nat} {z : Int} (hz : q[j]? = some z) : (j < cnt q k ↔ z ≤ k) := by
  induction q generalizing j with
  | nil => simp at hz
  | cons x q ih =>
    obtain ⟨h1, h2⟩ := List.pairwise_cons.1 h
    have hc : cnt (x :: q) k = cnt q k + if x ≤ k then 1 else 0 := by
      unfold cnt
      rw [List.countP_cons]
      simp
    rw [hc]
    cases j with
    | zero =>
      obtain rfl : x = z := by simpa using hz
      by_cases g : x ≤ k
      · simp [g]
      · have : cnt q k = 0 := by
          unfold cnt
          rw [List.countP_eq_zero]
          intro y hy
          have := h1 y hy
          simp only [decide_eq_true_eq]
          omega
        simp [g, this]
    | succ j =>
      have hz' : q[j]? = some z := by simpa using hz
      have := ih h2 hz'
      obtain ⟨hj, ez⟩ := List.getElem?_eq_some_iff.1 hz'
      have hx : x < z := h1 z (by rw [← ez]; exact List.getElem_mem hj)
      by_cases g : x ≤ k
      · rw [if_pos g, ← this]
        omega
      · rw [if_neg g]
        constructor
        · intro hlt
          have := this.1 (by omega)
          omega
        · intro hlt
          omega

/-! ### The guess -/
theorem guess_none {a b k n : Int} (h : ¬ (2 ≤ n ∧ n ≤ 65536 ∧ a ≤ k ∧ k < b)) : guessZ a b k n = 0 := if_neg h
theorem guess_some {a b k n : Int} (h : 2 ≤ n ∧ n ≤ 65536 ∧ a ≤ k ∧ k < b) : guessZ a b k n = 1 + (k - a) * (n - 1) / (b - a) := by
  unfold guessZ
  rw [if_pos h]
  have e1 : gapZ a k = k - a := by simp only [gapZ]; rw [if_neg (by omega)]
  have e2 : gapZ a b = b - a := by simp only [gapZ]; rw [if_neg (by omega)]
  rw [e1, e2]
  unfold shareZ
  rw [if_pos (by omega), show min (k - a) (b - a) = k - a by omega]
theorem guess_bound {a b k n : Int} (h : 2 ≤ n ∧ n ≤ 65536 ∧ a ≤ k ∧ k < b) : 1 ≤ guessZ a b k n ∧ guessZ a b k n ≤ n - 1 := by
  rw [guess_some h]
  have h1 : 0 ≤ (k - a) * (n - 1) := Int.mul_nonneg (by omega) (by omega)
  have h2 : (k - a) * (n - 1) < (n - 1) * (b - a) := by
    rw [Int.mul_comm (n - 1)]
    exact Int.mul_lt_mul_of_pos_right (by omega) (by omega)
  have h3 := Int.ediv_nonneg h1 (show 0 ≤ b - a by omega)
  have h4 := (Int.ediv_lt_iff_lt_mul (show 0 < b - a by omega)).2 h2
  omega
theorem guess_mono {a b k l n : Int} (h : 2 ≤ n ∧ n ≤ 65536 ∧ a ≤ k ∧ k ≤ l ∧ l < b) : guessZ a b k n ≤ guessZ a b l n := by
  rw [guess_some (by omega), guess_some (by omega)]
  have h1 : (k - a) * (n - 1) ≤ (l - a) * (n - 1) := Int.mul_le_mul_of_nonneg_right (by omega) (by omega)
  have := Int.ediv_le_ediv (show 0 < b - a by omega) h1
  omega
theorem guess_first {a b n : Int} (h : 2 ≤ n ∧ n ≤ 65536 ∧ a < b) : guessZ a b a n = 1 := by
  rw [guess_some (by omega), Int.sub_self, Int.zero_mul, Int.zero_ediv]
  rfl
end Go.Proofs.Ytgialpjdfeldeaa.Pb

/-! What probe.Right, the document's Rising, cmp.Less and slices.BinarySearch at int64, probe.Find, the document's Find and its Ints answer, of slices that read as lists of whole numbers; the worlds differ by draws alone. -/
namespace Go.Proofs.Ytgialpjdfeldeaa.Pb
open Go.RowKit

theorem _root_.Go.Proofs.Ytgialpjdfeldeaa.Reads.two {w : World} {a : Option Addr} {zs : List Int} (h : Reads w a zs) {i j : Nat} {y z : Int} (hy : zs[i]? = some y) (hz : zs[j]? = some z) :
    ∃ bl off, a = some ⟨bl, off, none⟩ ∧ bl < w.heap.size ∧ w.cell? ⟨bl, off + i, none⟩ = some (.int .i64 y) ∧ w.cell? ⟨bl, off + j, none⟩ = some (.int .i64 z) := by
  obtain ⟨bl, off, rfl, h1, h2⟩ := h.at hy
  obtain ⟨bl', off', e, _, h4⟩ := h.at hz
  cases e
  exact ⟨bl, off, rfl, h1, h2, h4⟩

theorem up_false {q : List Int} (h : ¬ q.Pairwise (· < ·)) : upB q = false := by
  simp only [upB, decide_eq_false_iff_not]
  exact fun g => h g.2
theorem up_long {q : List Int} (h : 65536 < q.length) : upB q = false := by
  simp only [upB, decide_eq_false_iff_not]
  exact fun g => by have := g.1; omega
theorem up_true {q : List Int} (h0 : q.length ≤ 65536) (h : q.Pairwise (· < ·)) : upB q = true := by
  simp only [upB, decide_eq_true_eq]
  exact ⟨h0, h⟩

/-- Its first n rise. -/
def PwTo (q : List Int) (n : Nat) : Prop := (q.take n).Pairwise (· < ·)
theorem PwTo.start (q : List Int) : PwTo q 1 := by
  unfold PwTo
  cases q with
  | nil => simp
  | cons x q => simp

set_option maxRecDepth 100000 in
theorem right_c (w : World) (a : Option Addr) (q : List Int) (cap : Nat) (hr : Reads w a q) (hc : q.length ≤ cap) (hm : cap ≤ maxLen) :
    Calls Try.prog 43 #[.slice a q.length cap] w fun e w' => e = .returned (.bool (upB q)) ∧ ∃ m, w' = w.drewN m := by
  have HR := hide hr
  clear hr
  have hm' : (q.length : Int) ≤ 9223372036854775807 := by unfold maxLen at hm; omega
  clear hm
  by_cases hl : 65536 < q.length
  · rw [up_long hl]
    have hl' : (65536 : Int) < (q.length : Int) := by omega
    go_enter Try.func43, Try.ntmps43
    go_wp2
    go_ret
    exact ⟨rfl, 0, rfl⟩
  · have hl' : ¬ ((65536 : Int) < (q.length : Int)) := by omega
    have HL : Hid (q.length ≤ 65536) := hide (by omega)
    clear hl
    go_enter Try.func43, Try.ntmps43
    go_wp2
    go_loopw [3] (fun i wr => ∃ k d : Nat, (k < q.length ∨ k = 0) ∧ i = .int .i64 ((k : Int) + 1) ∧ PwTo q (k + 1) ∧ wr = w.drewN d) (fun i _ => q.length + 1 - (intOf i).toNat)
    case atStart =>
      exact ⟨0, 0, .inr rfl, rfl, .start q, rfl⟩
    case round =>
      obtain ⟨k, d, hk1, rfl, HP, rfl⟩ := hrel
      by_cases hlt : k + 1 < q.length
      · obtain ⟨z, hz⟩ : ∃ p, q[k + 1]? = some p := ⟨_, List.getElem?_eq_getElem hlt⟩
        obtain ⟨y, hy⟩ : ∃ p, q[k]? = some p := ⟨_, List.getElem?_eq_getElem (by omega)⟩
        obtain ⟨bl, off, rfl, hbl, g1, g3⟩ := HR.out.two hy hz
        have i1 : (k : Int) + 1 < (q.length : Int) := by omega
        have i3 : k + 1 < cap := by omega
        by_cases hyz : y < z
        · have HP2 : Hid (PwTo q (k + 1 + 1)) := pw_snoc HP hy hz hyz
          have hzy : ¬ (z ≤ y) := by omega
          clear hz hy hk1 HP hyz
          go_wp2
          go_quiet (fail)
          go_wp2
          exact ⟨⟨k + 1, _, .inl (by omega), by simp, HP2.out, rfl⟩, by simp [intOf]; omega⟩
        · have HF := hide (up_false (pw_not hy hz (by omega)))
          have hyz' : z ≤ y := by omega
          clear hz hy hk1 HP hyz
          go_wp2
          go_quiet (fail)
          go_wp2
          go_ret
          exact ⟨by rw [HF.out]; rfl, _, World.drewN_drewN ..⟩
      · have i1 : ¬ ((k : Int) + 1 < (q.length : Int)) := by omega
        have HF : Hid (upB q = true) := hide (up_true HL.out (by
          have : (q.take (k + 1)).Pairwise (· < ·) := HP
          rwa [List.take_of_length_le (by omega)] at this))
        clear HP
        go_wp2
        go_ret
        exact ⟨by rw [HF.out]; rfl, _, rfl⟩
/-- Where a key lies: the keys ahead of p are below it, those from p on are not. -/
def Lies (q : List Int) (k : Int) (p : Nat) : Prop := p ≤ q.length ∧ (∀ j z, q[j]? = some z → j < p → z < k) ∧ ∀ j z, q[j]? = some z → p ≤ j → k ≤ z

end Go.Proofs.Ytgialpjdfeldeaa.Pb

/-! What plant's keys, Right and Build answer, at any list of pairs that reads so, and at a memory as it lies. No conditions beyond each theorem's own. -/
namespace Go.Proofs.Ytgialpjdfeldeaa
open Go.RowKit
set_option maxRecDepth 20000

/-- The keys, as far as they are filled in. -/
def keyF (ps : List (Int × Int)) (t : Nat) : List Int := ((ps.map Prod.fst).take t) ++ List.replicate (ps.length - t) 0
theorem keyF_len (ps : List (Int × Int)) {t : Nat} (h : t ≤ ps.length) : (keyF ps t).length = ps.length := by
  simp [keyF]; omega
theorem keyF_step {ps : List (Int × Int)} {t : Nat} {p : Int × Int} (h : ps[t]? = some p) : keyF ps (t + 1) = (keyF ps t).set t p.1 := by
  obtain ⟨hl, he⟩ := List.getElem?_eq_some_iff.1 h
  unfold keyF
  have e1 : ((ps.map Prod.fst).take t).length = t := by simp; omega
  rw [List.set_append_right _ _ (by omega), e1, Nat.sub_self]
  obtain ⟨r, hr⟩ : ∃ r, ps.length - t = r + 1 := ⟨ps.length - t - 1, by omega⟩
  rw [hr, List.replicate_succ, List.set_cons_zero, show ps.length - (t + 1) = r by omega, List.take_succ_eq_append_getElem (by simpa using hl)]
  simp [he]
theorem keyF_end (ps : List (Int × Int)) : keyF ps ps.length = ps.map Prod.fst := by
  unfold keyF
  rw [Nat.sub_self, List.replicate_zero, List.append_nil, List.take_of_length_le (by simp)]
theorem row_full (W : World) (n₀ M : Nat) (h : M ≤ 100000) (hb : n₀ ≤ W.heap.size) : Row (W.alloc (.cells (madeCells #[.int .i64 0] M) 2)) n₀ 2 (.slice (some ⟨W.heap.size, 0, none⟩) M M) (List.replicate M 0) := by
  have := World.ownsRow_lit (base := n₀) (e := 2) (size := 1) W (madeCells #[.int .i64 0] M) M hb (by unfold maxLen; omega) (by rw [size_madeCells, Nat.mul_one])
  unfold Row
  rw [List.length_replicate, cellsOf, List.map_replicate, ← toList_madeCells_one]
  exact this
theorem Row.put {W : World} {n₀ g cap M : Nat} {zs : List Int} (h : Row W n₀ 2 (.slice (some ⟨g, 0, none⟩) M cap) zs) (hM : zs.length = M) (j : Nat) (x : Int) : Row (W.setCell ⟨g, j, none⟩ (.int .i64 x)) n₀ 2 (.slice (some ⟨g, 0, none⟩) M cap) (zs.set j x) := by
  subst hM
  obtain ⟨hs, _⟩ := h.stored j (.int .i64 x)
  show World.ownsRow _ n₀ 2 1 _ (zs.set j x).length (cellsOf (zs.set j x))
  rw [List.length_set, cellsOf, List.map_set]
  exact hs

theorem Row.one {W : World} {n₀ g cap M : Nat} {zs : List Int} (h : Row W n₀ 2 (.slice (some ⟨g, 0, none⟩) M cap) zs) (hM : zs.length = M) {j : Nat} (hj : j < M) : (∃ x, W.cell? ⟨g, j, none⟩ = some x) ∧ W.frozen? ⟨g, j, none⟩ = false := by
  subst hM
  refine ⟨?_, h.frozenAt j⟩
  rw [h.cellAt j (by omega)]
  exact ⟨_, List.getElem?_eq_getElem (by simpa using hj)⟩

set_option maxHeartbeats 4000000 in
theorem keys_c (W : World) (a : Option Addr) (ps : List (Int × Int)) (M cap : Nat) (hr : PReads W a ps) (hM : ps.length = M) (hc : M ≤ cap) (hcm : cap ≤ maxLen) (hm : M ≤ 16384) :
    Calls Try.prog 44 #[.slice a M cap] W (Fresh (ps.map Prod.fst) W) := by
  have hcm' : (cap : Int) ≤ 9223372036854775807 := by unfold maxLen at hcm; omega
  have HMK : ∀ w : World, (Instr.makeSlice 35 (.int .i64 (M : Int)) (.int .i64 (M : Int))).run Try.prog w = .ok (.slice (some ⟨w.heap.size, 0, none⟩) M M) (w.alloc (.cells (madeCells #[.int .i64 0] M) 2)) := fun w => run_make_row' 35 2 (.int .i64 0) 8 Try.underlying35 info2_p rfl .i64 .i64 M (by omega) (by omega) w
  have K0 : Kept W (W.alloc (.cells (madeCells #[.int .i64 0] M) 2)) := Turned.alloc _ _ _
  have R0 : Hid (Row (W.alloc (.cells (madeCells #[.int .i64 0] M) 2)) W.heap.size 2 (.slice (some ⟨W.heap.size, 0, none⟩) M M) (keyF ps 0)) := hide (by
    have := row_full W W.heap.size M (by omega) (Nat.le_refl _)
    unfold keyF
    rw [List.take_zero, List.nil_append, Nat.sub_zero, hM]
    exact this)
  have HK := hide K0
  have HR := hide hr
  have HM := hide hM
  clear hr hM hcm K0
  go_enter Try.func44, Try.ntmps44
  go_wp2
  go_loopw [4, 5, 11] (fun _ _ i wr => ∃ t : Nat, t ≤ M ∧ i = .int .i64 t ∧ Hid (Row wr W.heap.size 2 (.slice (some ⟨W.heap.size, 0, none⟩) M M) (keyF ps t)) ∧ Hid (Kept W wr)) (fun _ _ i _ => M - (intOf i).toNat)
  case atStart => exact ⟨0, Nat.zero_le _, rfl, R0, HK⟩
  case round =>
    obtain ⟨t, ht, rfl, RW, KW⟩ := hrel
    clear R0 HK
    by_cases hlt : t < M
    · obtain ⟨p, hp⟩ : ∃ p, ps[t]? = some p := ⟨_, List.getElem?_eq_getElem (by have := HM.out; omega)⟩
      obtain ⟨bl, off, rfl, hbl, g1, g2⟩ := (HR.out.kept KW.out).at hp
      have FS := hide (keyF_step hp)
      have FL : Hid ((keyF ps t).length = M) := hide (by rw [keyF_len ps (by have := HM.out; omega), HM.out])
      obtain ⟨p1, p2⟩ := p
      simp only at g1 g2 FS
      rw [← Nat.add_assoc] at g2
      have i1 : t < cap := by omega
      have RW1 : Hid (Row (wr.alloc (.cells #[.int .i64 p1, .int .i64 p2] 30)) W.heap.size 2 (.slice (some ⟨W.heap.size, 0, none⟩) M M) (keyF ps t)) := hide (RW.out.kept (Turned.alloc _ _ _))
      have KW1 : Hid (Kept W (wr.alloc (.cells #[.int .i64 p1, .int .i64 p2] 30))) := hide (KW.out.alloc _)
      obtain ⟨⟨x, e0⟩, e1⟩ := RW1.out.one FL.out hlt
      have RN : Hid (Row ((wr.alloc (.cells #[.int .i64 p1, .int .i64 p2] 30)).setCell ⟨W.heap.size, t, none⟩ (.int .i64 p1)) W.heap.size 2 (.slice (some ⟨W.heap.size, 0, none⟩) M M) (keyF ps (t + 1))) := hide (by rw [FS.out]; exact RW1.out.put FL.out t p1)
      have KN : Hid (Kept W ((wr.alloc (.cells #[.int .i64 p1, .int .i64 p2] 30)).setCell ⟨W.heap.size, t, none⟩ (.int .i64 p1))) := hide (KW1.out.own (O := fun k => k = W.heap.size) (fun i e => by omega) (Turned.setCell _ _ _ rfl))
      clear hp RW KW RW1 KW1
      go_wp2
      exact ⟨⟨t + 1, by omega, by simp, RN, KN⟩, by simp [intOf]; omega⟩
    · obtain rfl : t = M := by omega
      have E : Hid (keyF ps t = ps.map Prod.fst) := hide (by rw [← HM.out]; exact keyF_end ps)
      have L : Hid ((keyF ps t).length = t) := hide (by rw [E.out, List.length_map, HM.out])
      go_wp2
      go_ret
      exact ⟨_, rfl, by have := RW.out; rw [E.out] at this; exact this, KW.out⟩

/-- Are the keys strictly ascending, and not too many? -/
def ascB (ps : List (Int × Int)) : Bool := decide (ps.length ≤ 16384 ∧ (ps.map Prod.fst).Pairwise (· < ·))
theorem ascB_iff {ps : List (Int × Int)} : ascB ps = true ↔ ps.length ≤ 16384 ∧ (ps.map Prod.fst).Pairwise (· < ·) := by simp [ascB]
theorem right_p (W : World) (a : Option Addr) (ps : List (Int × Int)) (M cap : Nat) (hr : PReads W a ps) (hM : ps.length = M) (hc : M ≤ cap) (hcm : cap ≤ maxLen) (r : Bool) (e1 : ascB ps = r) :
    Calls Try.prog 14 #[.slice a M cap] W fun e W' => e = .returned (.bool r) ∧ Kept W W' := by
  have hcm' : (M : Int) ≤ 9223372036854775807 := by unfold maxLen at hcm; omega
  by_cases hm : M ≤ 16384
  · have HK := hide (keys_c W a ps M cap hr hM hc hcm hm)
    have E : Hid (Pb.upB (ps.map Prod.fst) = r) := hide (by
      rw [← e1]
      unfold Pb.upB ascB
      exact decide_eq_decide.2 ⟨fun h => ⟨by omega, h.2⟩, fun h => ⟨by rw [List.length_map]; omega, h.2⟩⟩)
    have i1 : (M : Int) ≤ 16384 := by omega
    have HL : Hid ((ps.map Prod.fst).length ≤ 16384) := hide (by rw [List.length_map, hM]; exact hm)
    clear hr hM hcm hm e1
    go_enter Try.func14, Try.ntmps14
    go_wp2_with (fail)
    refine HK.out.mono ?_
    intro e w1 hf
    obtain ⟨a1, cap1, rfl, r1, c1, m1, -, -, k1⟩ := hf.form
    have HR := hide (Pb.right_c w1 a1 _ cap1 r1 c1 m1)
    rw [E.out] at HR
    have K1 := hide k1
    clear hf r1 c1 m1 k1 E
    generalize ps.map Prod.fst = q at *
    go_wp2_with (fail)
    refine HR.out.mono ?_
    rintro e w2 ⟨rfl, m, rfl⟩
    go_wp2
    go_ret
    exact ⟨rfl, K1.out.drewN' _⟩
  · have E : Hid (r = false) := hide (by rw [← e1]; unfold ascB; rw [hM]; simp; omega)
    have i1 : ¬ (M : Int) ≤ 16384 := by omega
    rw [E.out]
    clear hr hM hcm hm e1
    go_enter Try.func14, Try.ntmps14
    go_wp2
    go_ret
    exact ⟨rfl, Kept.refl _⟩

/-- What Build makes of a memory, and what it answers. -/
def buildS (s : Mst) (ps : List (Int × Int)) : (Int × Bool) × Mst :=
  if ascB ps = true ∧ Pt.celZ ps.length ≤ s.size - s.xs.length then (((layF (ps.length + 1) s ps).1, true), (layF (ps.length + 1) s ps).2) else ((0, false), s)
theorem build_p (W : World) (n₀ b : Nat) (v : Value) (s : Mst) (a : Option Addr) (ps : List (Int × Int)) (M cap : Nat) (h : PMem W n₀ b v s) (hn : n₀ ≤ W.heap.size) (hr : PReads W a ps) (hM : ps.length = M) (hc : M ≤ cap) (hcm : cap ≤ maxLen) (ha : ps ≠ [] → ∀ ad, a = some ad → ¬ Foot b v ad.block) (z : Int) (r : Bool) (s' : Mst) (e1 : buildS s ps = ((z, r), s')) :
    Calls Try.prog 11 #[.pointer (some ⟨b, 0, none⟩), .slice a M cap] W fun e W' => e = .returned (.tuple #[.int .i64 z, .bool r]) ∧ Does 66 layP n₀ b v s' W W' := by
  have H := hide h
  have HRG := fun r => right_p W a ps M cap hr hM hc hcm r
  have hcm' : (M : Int) ≤ 9223372036854775807 := by unfold maxLen at hcm; omega
  have hl := h.len
  have hroom := h.room
  have htop := h.top
  cases hb : ascB ps with
  | false =>
    have HR := hide (HRG false hb)
    rw [buildS, if_neg (by rw [hb]; simp)] at e1
    simp only [Prod.mk.injEq] at e1
    obtain ⟨⟨rfl, rfl⟩, rfl⟩ := e1
    clear h hn hr hM hcm ha HRG hb
    go_enter Try.func11, Try.ntmps11
    go_wp2_with (fail)
    refine HR.out.mono ?_
    rintro e w1 ⟨rfl, k1⟩
    have D1 := hide (Does.same (H.out.kept k1) (k1.mono (fun _ _ e => e.elim)))
    clear k1
    go_wp2
    go_ret2
    exact ⟨rfl, D1.out⟩
  | true =>
    have HR := hide (HRG true hb)
    have hm : M ≤ 16384 := by rw [← hM]; exact (ascB_iff.1 hb).1
    have HC := hide (Pt.cells_c (M : Int) (I64.wf ⟨by omega, by omega⟩))
    have cb := Pt.cel_nat (M : Int)
    obtain ⟨C, hC⟩ : ∃ C, Pt.celZ (M : Int) = C := ⟨_, rfl⟩
    rw [hC] at HC cb
    by_cases hfit : C ≤ s.size - (s.xs.length : Int)
    · rw [buildS, if_pos ⟨hb, by rw [hM, hC]; exact hfit⟩, hM] at e1
      simp only [Prod.mk.injEq] at e1
      obtain ⟨⟨e1, rfl⟩, e2⟩ := e1
      have e3 : layF (M + 1) s ps = (z, s') := by rw [← e1, ← e2]
      have HLAY : Hid (∀ w1, Kept W w1 → Calls Try.prog 42 #[.pointer (some ⟨b, 0, none⟩), .slice a M cap] w1 fun e W' => e = .returned (.int .i64 z) ∧ Does 66 layP n₀ b v s' w1 W') := hide (fun w1 k1 => lay_p (M + 1) w1 n₀ b v s a ps M cap (H.out.kept k1) (Nat.le_trans hn k1.size) (hr.kept k1) hM hc hcm hm (by omega) ha z s' e3)
      have g1 : ¬ s.size - (s.xs.length : Int) < C := by omega
      clear h hn hr hM hcm ha HRG hb e1 e2 e3 hC hm
      go_enter Try.func11, Try.ntmps11
      go_wp2_with (fail)
      refine HR.out.mono ?_
      rintro e w1 ⟨rfl, k1⟩
      have K1 := hide k1
      clear k1
      go_wp2_with (fail)
      refine (HC.out w1).mono ?_
      rintro e w2 ⟨rfl, m, rfl⟩
      have K2 := hide (K1.out.drewN' m)
      clear K1
      go_wp2_with (fail)
      refine (size_c _ n₀ b v s (H.out.kept K2.out)).mono ?_
      rintro e w3 ⟨rfl, rfl⟩
      go_wp2_with (fail)
      refine (used_c _ n₀ b v s (H.out.kept K2.out)).mono ?_
      rintro e w3 ⟨rfl, rfl⟩
      go_wp2_with (fail)
      refine (HLAY.out _ K2.out).mono ?_
      rintro e w4 ⟨rfl, d4⟩
      have D4 := hide (Does.after K2.out d4)
      clear d4
      go_wp2
      go_ret2
      exact ⟨rfl, D4.out⟩
    · rw [buildS, if_neg (by rw [hM, hC]; exact fun h => hfit h.2)] at e1
      simp only [Prod.mk.injEq] at e1
      obtain ⟨⟨rfl, rfl⟩, rfl⟩ := e1
      have g1 : s.size - (s.xs.length : Int) < C := by omega
      clear h hn hr hM hcm ha HRG hb hC hm
      go_enter Try.func11, Try.ntmps11
      go_wp2_with (fail)
      refine HR.out.mono ?_
      rintro e w1 ⟨rfl, k1⟩
      have K1 := hide k1
      clear k1
      go_wp2_with (fail)
      refine (HC.out w1).mono ?_
      rintro e w2 ⟨rfl, m, rfl⟩
      have K2 := hide (K1.out.drewN' m)
      clear K1
      go_wp2_with (fail)
      refine (size_c _ n₀ b v s (H.out.kept K2.out)).mono ?_
      rintro e w3 ⟨rfl, rfl⟩
      go_wp2_with (fail)
      refine (used_c _ n₀ b v s (H.out.kept K2.out)).mono ?_
      rintro e w3 ⟨rfl, rfl⟩
      have D1 := hide (Does.same (H.out.kept K2.out) (K2.out.mono (fun _ _ e => e.elim)))
      go_wp2
      go_ret2
      exact ⟨rfl, D1.out⟩
end Go.Proofs.Ytgialpjdfeldeaa
