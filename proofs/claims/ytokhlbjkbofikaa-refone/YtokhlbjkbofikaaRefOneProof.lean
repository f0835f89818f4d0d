/-
  PROVED HERE: for any four ints, 'ordinatelaw1.RefOne' returns true: two kinds or addresses that are unlike make unlike words, if both may be. No conditions.
  (The frame was written by the guide's program proof-skeleton.mjs; the walk is mine.)
-/
import Derived.Test.YtokhlbjkbofikaaRows
import Derived.Test.YtokhlbjkbofikaaCon
import Derived.Test.YtokhlbjkbofikaaPlain
import Derived.WalkKit
import Derived.ProofKit
import Derived.OpenShut
import Derived.ShutString
namespace Go.Proofs.Ytokhlbjkbofikaa.refOne
open Go.ChangeShapes Go.WideShapes Go.ChangeAt Go.RowKit
open Go.ChangeMaps (open_string shut_string)
set_option linter.unusedVariables false      -- a walk need not use every 'w<i>' (that an integer argument fits its kind)

theorem own : ownKnob Try.prog.godebug = none := by kernel_rfl

theorem one_same {r q s : Int} (br : 0 ≤ r ∧ r < 5) (bq : 0 ≤ q ∧ q < 65536) (bs : 0 ≤ s ∧ s < 65536) :
    ((ofZ (1 + r) (1 + q) == ofZ (1 + r) (1 + s)) == (1 + q == 1 + s)) = true := by
  rw [of_may (by omega), of_may (by omega)]
  by_cases h : q = s
  · subst h
    simp
  · have h1 : (8 * (1 + q) + (1 + r) == 8 * (1 + s) + (1 + r)) = false := by simp only [beq_eq_false_iff_ne, ne_eq]; omega
    have h2 : (1 + q == 1 + s) = false := by simp only [beq_eq_false_iff_ne, ne_eq]; omega
    rw [h1, h2]
    rfl

theorem one_other {p q r s : Int} (bp : 0 ≤ p ∧ p < 5) (bq : 0 ≤ q ∧ q < 65536) (br : 0 ≤ r ∧ r < 5) (bs : 0 ≤ s ∧ s < 65536) (h : ¬ p = r) :
    (!(ofZ (1 + p) (1 + q) == ofZ (1 + r) (1 + s))) = true := by
  rw [of_may (by omega), of_may (by omega)]
  simp only [Bool.not_eq_true', beq_eq_false_iff_ne, ne_eq]
  omega

/-! ### STEP 1: THE WALK: the Go text returns true. 'Grown w w'': the world has at most new blocks (Derived/RowKit3.lean). Part the cases AHEAD of 'go_enter' where a test parts the walk; take each callee by a contract of your own. -/
theorem walk (a0 : Int) (a1 : Int) (a2 : Int) (a3 : Int) (w0 : (Lit.int .i64 a0).wf = true) (w1 : (Lit.int .i64 a1).wf = true) (w2 : (Lit.int .i64 a2).wf = true) (w3 : (Lit.int .i64 a3).wf = true) (w : World) :
    Calls Try.prog 6 #[.int .i64 a0, .int .i64 a1, .int .i64 a2, .int .i64 a3] w fun e w' => e = .returned (.bool true) ∧ Grown w w' := by
  obtain ⟨p, hp⟩ : ∃ p, a0 % 5 = p := ⟨_, rfl⟩
  obtain ⟨q, hq⟩ : ∃ p, a1 % 65536 = p := ⟨_, rfl⟩
  obtain ⟨r, hr⟩ : ∃ p, a2 % 5 = p := ⟨_, rfl⟩
  obtain ⟨s, hs⟩ : ∃ p, a3 % 65536 = p := ⟨_, rfl⟩
  have bp : 0 ≤ p ∧ p < 5 := by omega
  have bq : 0 ≤ q ∧ q < 65536 := by omega
  have br : 0 ≤ r ∧ r < 5 := by omega
  have bs : 0 ≤ s ∧ s < 65536 := by omega
  clear w0 w1 w2 w3
  go_enter Try.func6, Try.ntmps6
  go_wp2_with (first | (go_at_call 8; refine (known_c _).mono ?_; rintro e w' ⟨rfl, rfl⟩) | (go_at_call 9; refine (of_c _ _ _).mono ?_; rintro e w' ⟨rfl, rfl⟩) | (go_at_call 17; refine (cut_c _ _ (by decide) (by decide) _).mono ?_; rintro e w' ⟨rfl, rfl⟩))
  · go_ret
    exact ⟨congrArg (fun b => Ending.returned (.bool b)) (one_same br bq bs), Grown.refl _⟩
  · go_ret
    exact ⟨congrArg (fun b => Ending.returned (.bool b)) (one_other bp bq br bs ‹_›), Grown.refl _⟩

/-! ### THE ROW's STEP: WRITTEN OUT: LEAVE IT -/
set_option maxRecDepth 100000 in
theorem lifted (os : Os) (started : os.Started) (H : Type) (enc : TypeId × Value → H) :
    ReturnsInHanded {} Try.checked os 6 .any (Rows.refOneSpec.pre6 enc Try.prog Try.f6 Rows.refOneRow.domain false) (Rows.refOneSpec.post enc Try.prog Try.f6 false true false false) := by
  refine returnsInHanded_of_change (C := Try.checked) own started (by kernel_rfl) Try.func6
    (ChangeSpec.witness6 (enc := enc) (C := Try.checked) false ⟨#[], #[.int .i64 0, .int .i64 0, .int .i64 0, .int .i64 0], []⟩ 8 (by kernel_rfl) (by kernel_rfl) (by kernel_rfl) (by kernel_rfl)) ?_
  intro W base args ds gs before hval0 hW hcnd _
  have hval : ∀ (j : Nat) t v, Try.f6.params[j]? = some t → args[j]? = some v → Value.okWide Try.prog W .any base t v := hval0
  have hW' := hW
  obtain ⟨p, q, hA0, hV, rfl, hfz, hnd⟩ := hW
  have hA : DataW.TrodAll enc Try.prog W 0 (fun _ => true) true Try.f6.params.toList args.toList ds p := hA0
  rw [Try.params6] at hA hval
  obtain ⟨v0, vs0, d0, ds0, p0, q0, hargs, rfl, rfl, h0, r0⟩ := trodAll_cons hA
  obtain ⟨v1, vs1, d1, ds1, p1, q1, rfl, rfl, rfl, h1, r1⟩ := trodAll_cons r0
  obtain ⟨v2, vs2, d2, ds2, p2, q2, rfl, rfl, rfl, h2, r2⟩ := trodAll_cons r1
  obtain ⟨v3, vs3, d3, ds3, p3, q3, rfl, rfl, rfl, h3, r3⟩ := trodAll_cons r2
  obtain ⟨rfl, rfl, rfl⟩ := trodAll_nil r3
  obtain rfl : args = #[v0, v1, v2, v3] := by cases args; simp_all
  obtain ⟨rfl, rfl⟩ := trodVars_none hV
  obtain ⟨a0, rfl, rfl, rfl, w0⟩ := open_int Try.underlying3 (hval 0 3 v0 rfl rfl) h0
  obtain ⟨a1, rfl, rfl, rfl, w1⟩ := open_int Try.underlying3 (hval 1 3 v1 rfl rfl) h1
  obtain ⟨a2, rfl, rfl, rfl, w2⟩ := open_int Try.underlying3 (hval 2 3 v2 rfl rfl) h2
  obtain ⟨a3, rfl, rfl, rfl, w3⟩ := open_int Try.underlying3 (hval 3 3 v3 rfl rfl) h3
  clear hA0 hval0
  simp only [List.append_nil] at hW'
  refine (walk a0 a1 a2 a3 w0 w1 w2 w3 W).mono fun e W' ⟨he, hg⟩ => ?_
  subst he
  exact ⟨_, rfl, post_of_same (pa := []) (pv := []) hW' (fun _ _ _ => (trodAll_cons_mk (shut_bool Try.underlying4 _) trodAll_mk0)) (fun sp _ => (trodAll_cons_mk (shut_int Try.underlying3 w0) (trodAll_cons_mk (shut_int Try.underlying3 w1) (trodAll_cons_mk (shut_int Try.underlying3 w2) (trodAll_cons_mk (shut_int Try.underlying3 w3) trodAll_mk0))))) (fun _ _ => rfl) rfl
    (hg.frame _) hg.2.1 (ok_one (by kernel_rfl) rfl (okWide_bool_mk Try.underlying4 _))⟩

theorem over : Rows.refOneRow.holds Try.pinned (OpenSpec.ofChange Rows.refOneSpec) :=
  OpenClaim.holds_of_wide 6 Try.f6 rfl rfl rfl rfl rfl rfl rfl ⟨rfl, rfl, rfl, rfl, rfl⟩ rfl rfl rfl rfl rfl (by kernel_rfl) Try.func6 (by kernel_rfl)
    (of_decide_eq_true (by kernel_rfl)) (by unfold Func.isWrapper; first | (rw [if_pos (by decide +kernel)]; kernel_rfl) | (rw [if_neg (by decide +kernel)]; exact ⟨rfl, rfl⟩))
    (fun os started H enc _ => lifted os started H enc)

/-- ████ THE STATEMENT ████ -/
theorem proved : Rows.RefOneSaid :=
  over
#print axioms proved
end Go.Proofs.Ytokhlbjkbofikaa.refOne
