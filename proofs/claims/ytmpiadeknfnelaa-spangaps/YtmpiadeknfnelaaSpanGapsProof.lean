/-
  PROVED HERE: for any three int64s, 'ordinatelaw2.SpanGaps' returns true: how far three numbers are apart, one behind the other, goes together; turned round there is nothing. No conditions.
  (The frame was written by the guide's program proof-skeleton.mjs; the walk is mine.)
-/
import Derived.Test.YtmpiadeknfnelaaRows
import Derived.Test.YtmpiadeknfnelaaLaws
import Derived.WalkKit
import Derived.ProofKit
import Derived.OpenShut
namespace Go.Proofs.Ytmpiadeknfnelaa.spanGaps
open Go.ChangeShapes Go.WideShapes Go.ChangeAt Go.RowKit
set_option linter.unusedVariables false      -- a walk need not use every 'w<i>' (that an integer argument fits its kind)

theorem own : ownKnob Try.prog.godebug = none := by kernel_rfl

/-! ### STEP 1: THE WALK: the Go text returns true. 'Grown w w'': the world has at most new blocks (Derived/RowKit3.lean). Part the cases AHEAD of 'go_enter' where a test parts the walk; take each callee by a contract of your own. -/
set_option maxHeartbeats 2000000 in
theorem walk (a0 : Int) (a1 : Int) (a2 : Int) (w0 : (Lit.int .i64 a0).wf = true) (w1 : (Lit.int .i64 a1).wf = true) (w2 : (Lit.int .i64 a2).wf = true) (w : World) :
    Calls Try.prog 8 #[.int .i64 a0, .int .i64 a1, .int .i64 a2] w fun e w' => e = .returned (.bool true) ∧ Grown w w' := by
  have w0' := bounds_i64 w0
  have w1' := bounds_i64 w1
  have w2' := bounds_i64 w2
  obtain ⟨x, hx⟩ : ∃ x, (if a2 < (if a1 < a0 then a1 else a0) then a2 else (if a1 < a0 then a1 else a0)) = x := ⟨_, rfl⟩
  obtain ⟨y, hy⟩ : ∃ x, max (min a0 a1) (min (max a0 a1) a2) = x := ⟨_, rfl⟩
  obtain ⟨z, hz⟩ : ∃ x, (if (if a0 < a1 then a1 else a0) < a2 then a2 else (if a0 < a1 then a1 else a0)) = x := ⟨_, rfl⟩
  have x1 : -9223372036854775808 ≤ x ∧ x ≤ y ∧ y ≤ z ∧ z ≤ 9223372036854775807 := by split at hx <;> split at hz <;> omega
  have wx : (Lit.int .i64 x).wf = true := (by clear hx hz; exact wf_of (by omega) (by omega))
  have wy : (Lit.int .i64 y).wf = true := (by clear hx hz; exact wf_of (by omega) (by omega))
  have wz : (Lit.int .i64 z).wf = true := (by clear hx hz; exact wf_of (by omega) (by omega))
  have g1 : gapZ x y = y - x := by have h := x1; clear hx hz; simp only [gapZ]; split <;> omega
  have g2 : gapZ y z = z - y := by have h := x1; clear hx hz; simp only [gapZ]; split <;> omega
  have g3 : gapZ x z = z - x := by have h := x1; clear hx hz; simp only [gapZ]; split <;> omega
  have g4 : gapZ z x = 0 := by have h := x1; clear hx hz; simp only [gapZ]; split <;> omega
  have g5 : IntKind.u64.wrap (y - x + (z - y)) = z - x := by have h := x1; clear hx hz; rw [IntKind.wrap_u64]; omega
  clear w0 w1 w2
  go_enter Try.func8, Try.ntmps8
  go_wp2_with (first | (go_at_call 10; refine (known_c _).mono ?_; rintro e w' ⟨rfl, k, rfl⟩) | (go_at_call 11; refine (gap_c _ _ ‹_› ‹_› _).mono ?_; rintro e w' ⟨rfl, rfl⟩))
  go_ret
  refine ⟨congrArg (fun b => Ending.returned (.bool b)) ?_, grown_drewN _ _⟩
  by_cases c : x = y
  · subst c
    simp
  · have c1 : (y - x == 0) = false := by simp only [beq_eq_false_iff_ne, ne_eq]; omega
    have c2 : (x == y) = false := by simp only [beq_eq_false_iff_ne, ne_eq]; exact c
    rw [c1, c2]
    rfl

/-! ### THE ROW's STEP: WRITTEN OUT: LEAVE IT -/
set_option maxRecDepth 100000 in
theorem lifted (os : Os) (started : os.Started) (H : Type) (enc : TypeId × Value → H) :
    ReturnsInHanded {} Try.checked os 8 .any (Rows.spanGapsSpec.pre6 enc Try.prog Try.f8 Rows.spanGapsRow.domain false) (Rows.spanGapsSpec.post enc Try.prog Try.f8 false true false false) := by
  refine returnsInHanded_of_change (C := Try.checked) own started (by kernel_rfl) Try.func8
    (ChangeSpec.witness6 (enc := enc) (C := Try.checked) false ⟨#[], #[.int .i64 0, .int .i64 0, .int .i64 0], []⟩ 8 (by kernel_rfl) (by kernel_rfl) (by kernel_rfl) (by kernel_rfl)) ?_
  intro W base args ds gs before hval0 hW hcnd _
  have hval : ∀ (j : Nat) t v, Try.f8.params[j]? = some t → args[j]? = some v → Value.okWide Try.prog W .any base t v := hval0
  have hW' := hW
  obtain ⟨p, q, hA0, hV, rfl, hfz, hnd⟩ := hW
  have hA : DataW.TrodAll enc Try.prog W 0 (fun _ => true) true Try.f8.params.toList args.toList ds p := hA0
  rw [Try.params8] at hA hval
  obtain ⟨v0, vs0, d0, ds0, p0, q0, hargs, rfl, rfl, h0, r0⟩ := trodAll_cons hA
  obtain ⟨v1, vs1, d1, ds1, p1, q1, rfl, rfl, rfl, h1, r1⟩ := trodAll_cons r0
  obtain ⟨v2, vs2, d2, ds2, p2, q2, rfl, rfl, rfl, h2, r2⟩ := trodAll_cons r1
  obtain ⟨rfl, rfl, rfl⟩ := trodAll_nil r2
  obtain rfl : args = #[v0, v1, v2] := by cases args; simp_all
  obtain ⟨rfl, rfl⟩ := trodVars_none hV
  obtain ⟨a0, rfl, rfl, rfl, w0⟩ := open_int Try.underlying2 (hval 0 2 v0 rfl rfl) h0
  obtain ⟨a1, rfl, rfl, rfl, w1⟩ := open_int Try.underlying2 (hval 1 2 v1 rfl rfl) h1
  obtain ⟨a2, rfl, rfl, rfl, w2⟩ := open_int Try.underlying2 (hval 2 2 v2 rfl rfl) h2
  clear hA0 hval0
  simp only [List.append_nil] at hW'
  refine (walk a0 a1 a2 w0 w1 w2 W).mono fun e W' ⟨he, hg⟩ => ?_
  subst he
  exact ⟨_, rfl, post_of_same (pa := []) (pv := []) hW' (fun _ _ _ => (trodAll_cons_mk (shut_bool Try.underlying4 _) trodAll_mk0)) (fun sp _ => (trodAll_cons_mk (shut_int Try.underlying2 w0) (trodAll_cons_mk (shut_int Try.underlying2 w1) (trodAll_cons_mk (shut_int Try.underlying2 w2) trodAll_mk0)))) (fun _ _ => rfl) rfl
    (hg.frame _) hg.2.1 (ok_one (by kernel_rfl) rfl (okWide_bool_mk Try.underlying4 _))⟩

theorem over : Rows.spanGapsRow.holds Try.pinned (OpenSpec.ofChange Rows.spanGapsSpec) :=
  OpenClaim.holds_of_wide 8 Try.f8 rfl rfl rfl rfl rfl rfl rfl ⟨rfl, rfl, rfl, rfl, rfl⟩ rfl rfl rfl rfl rfl (by kernel_rfl) Try.func8 (by kernel_rfl)
    (of_decide_eq_true (by kernel_rfl)) (by unfold Func.isWrapper; first | (rw [if_pos (by decide +kernel)]; kernel_rfl) | (rw [if_neg (by decide +kernel)]; exact ⟨rfl, rfl⟩))
    (fun os started H enc _ => lifted os started H enc)

/-- ████ THE STATEMENT ████ -/
theorem proved : Rows.SpanGapsSaid :=
  over
#print axioms proved
end Go.Proofs.Ytmpiadeknfnelaa.spanGaps
