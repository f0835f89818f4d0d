/-
  PROVED HERE: for any three uint64s and any two ints, 'ordinatelaw2.SpanRises' returns true: a greater part has no lesser share, a greater n neither; all of it is n, none of it nothing. No conditions.
  (The frame was written by the guide's program proof-skeleton.mjs; the walk is mine.)
-/
import Derived.Test.YtmpiadeknfnelaaRows
import Derived.Test.YtmpiadeknfnelaaLaws
import Derived.WalkKit
import Derived.ProofKit
import Derived.OpenShut
namespace Go.Proofs.Ytmpiadeknfnelaa.spanRises
open Go.ChangeShapes Go.WideShapes Go.ChangeAt Go.RowKit
set_option linter.unusedVariables false      -- a walk need not use every 'w<i>' (that an integer argument fits its kind)

theorem own : ownKnob Try.prog.godebug = none := by kernel_rfl

/-! ### STEP 1: THE WALK: the Go text returns true. 'Grown w w'': the world has at most new blocks (Derived/RowKit3.lean). Part the cases AHEAD of 'go_enter' where a test parts the walk; take each callee by a contract of your own. -/
set_option maxHeartbeats 2000000 in
theorem walk (a0 : Int) (a1 : Int) (a2 : Int) (a3 : Int) (a4 : Int) (w0 : (Lit.int .u64 a0).wf = true) (w1 : (Lit.int .u64 a1).wf = true) (w2 : (Lit.int .u64 a2).wf = true) (w3 : (Lit.int .i64 a3).wf = true) (w4 : (Lit.int .i64 a4).wf = true) (w : World) :
    Calls Try.prog 6 #[.int .u64 a0, .int .u64 a1, .int .u64 a2, .int .i64 a3, .int .i64 a4] w fun e w' => e = .returned (.bool true) ∧ Grown w w' := by
  have w0' := bounds_u64 w0
  have w1' := bounds_u64 w1
  have w2' := bounds_u64 w2
  have c1 : 0 ≤ a3 % 65536 := by omega
  have c2 : a3 % 65536 < 65536 := by omega
  have c3 : 0 ≤ a4 % 65536 := by omega
  have c4 : a4 % 65536 < 65536 := by omega
  obtain ⟨n, hn⟩ : ∃ n, 1 + a3 % 65536 = n := ⟨_, rfl⟩
  obtain ⟨m, hm⟩ : ∃ n, 1 + a4 % 65536 = n := ⟨_, rfl⟩
  have n1 : 1 ≤ n ∧ n ≤ 65536 := by omega
  have m1 : 1 ≤ m ∧ m ≤ 65536 := by omega
  by_cases c : a2 = 0
  · subst c
    clear w0 w1 w2 w3 w4
    go_enter Try.func6, Try.ntmps6
    go_wp2_with (first | (go_at_call 10; refine (known_c _).mono ?_; rintro e w' ⟨rfl, k, rfl⟩) | (go_at_call 19; refine (cut_c _ _ (by decide) (by decide) _).mono ?_; rintro e w' ⟨rfl, rfl⟩))
    go_ret
    exact ⟨rfl, grown_drewN _ _⟩
  · obtain ⟨p, hp⟩ : ∃ p, min a0 a1 = p := ⟨_, rfl⟩
    obtain ⟨q, hq⟩ : ∃ p, max a0 a1 = p := ⟨_, rfl⟩
    obtain ⟨i, hi⟩ : ∃ p, min n m = p := ⟨_, rfl⟩
    obtain ⟨j, hj⟩ : ∃ p, max n m = p := ⟨_, rfl⟩
    have wp : (Lit.int .u64 p).wf = true := wf_u64 (by omega) (by omega)
    have wq : (Lit.int .u64 q).wf = true := wf_u64 (by omega) (by omega)
    have wn : (Lit.int .u64 0).wf = true := by decide
    have e1 : shareZ p a2 n ≤ shareZ q a2 n := share_part (by omega) n1 (by omega)
    have e2 : shareZ p a2 i ≤ shareZ p a2 j := share_more (by omega) (by omega) (by omega) (by omega) (by omega)
    have e3 : shareZ a2 a2 n = n := share_all (by omega) n1
    have e4 : shareZ 0 a2 n = 0 := share_nought (by omega)
    clear w0 w1 w3 w4
    go_enter Try.func6, Try.ntmps6
    go_wp2_with (first | (go_at_call 10; refine (known_c _).mono ?_; rintro e w' ⟨rfl, k, rfl⟩) | (go_at_call 12; refine (share_c _ _ _ ‹_› ‹_› _).mono ?_; rintro e w' ⟨rfl, k, rfl⟩) | (go_at_call 19; refine (cut_c _ _ (by decide) (by decide) _).mono ?_; rintro e w' ⟨rfl, rfl⟩))
    go_ret
    exact ⟨rfl, grown_drewN _ _⟩

/-! ### THE ROW's STEP: WRITTEN OUT: LEAVE IT -/
set_option maxRecDepth 100000 in
theorem lifted (os : Os) (started : os.Started) (H : Type) (enc : TypeId × Value → H) :
    ReturnsInHanded {} Try.checked os 6 .any (Rows.spanRisesSpec.pre6 enc Try.prog Try.f6 Rows.spanRisesRow.domain false) (Rows.spanRisesSpec.post enc Try.prog Try.f6 false true false false) := by
  refine returnsInHanded_of_change (C := Try.checked) own started (by kernel_rfl) Try.func6
    (ChangeSpec.witness6 (enc := enc) (C := Try.checked) false ⟨#[], #[.int .u64 0, .int .u64 0, .int .u64 0, .int .i64 0, .int .i64 0], []⟩ 8 (by kernel_rfl) (by kernel_rfl) (by kernel_rfl) (by kernel_rfl)) ?_
  intro W base args ds gs before hval0 hW hcnd _
  have hval : ∀ (j : Nat) t v, Try.f6.params[j]? = some t → args[j]? = some v → Value.okWide Try.prog W .any base t v := hval0
  have hW' := hW
  obtain ⟨p, q, hA0, hV, rfl, hfz, hnd⟩ := hW
  have hA : DataW.TrodAll enc Try.prog W 0 (fun _ => true) true Try.f6.params.toList args.toList ds p := hA0
  rw [Try.params6] at hA hval
  obtain ⟨v0, vs0, d0, ds0, p0, q0, hargs, rfl, rfl, h0, r0⟩ := trodAll_cons hA
  obtain ⟨v1, vs1, d1, ds1, p1, q1, rfl, rfl, rfl, h1, r1⟩ := trodAll_cons r0
  obtain ⟨v2, vs2, d2, ds2, p2, q2, rfl, rfl, rfl, h2, r2⟩ := trodAll_cons r1
  obtain ⟨v3, vs3, d3, ds3, p3, q3, rfl, rfl, rfl, h3, r3⟩ := trodAll_cons r2
  obtain ⟨v4, vs4, d4, ds4, p4, q4, rfl, rfl, rfl, h4, r4⟩ := trodAll_cons r3
  obtain ⟨rfl, rfl, rfl⟩ := trodAll_nil r4
  obtain rfl : args = #[v0, v1, v2, v3, v4] := by cases args; simp_all
  obtain ⟨rfl, rfl⟩ := trodVars_none hV
  obtain ⟨a0, rfl, rfl, rfl, w0⟩ := open_int Try.underlying23 (hval 0 23 v0 rfl rfl) h0
  obtain ⟨a1, rfl, rfl, rfl, w1⟩ := open_int Try.underlying23 (hval 1 23 v1 rfl rfl) h1
  obtain ⟨a2, rfl, rfl, rfl, w2⟩ := open_int Try.underlying23 (hval 2 23 v2 rfl rfl) h2
  obtain ⟨a3, rfl, rfl, rfl, w3⟩ := open_int Try.underlying3 (hval 3 3 v3 rfl rfl) h3
  obtain ⟨a4, rfl, rfl, rfl, w4⟩ := open_int Try.underlying3 (hval 4 3 v4 rfl rfl) h4
  clear hA0 hval0
  simp only [List.append_nil] at hW'
  refine (walk a0 a1 a2 a3 a4 w0 w1 w2 w3 w4 W).mono fun e W' ⟨he, hg⟩ => ?_
  subst he
  exact ⟨_, rfl, post_of_same (pa := []) (pv := []) hW' (fun _ _ _ => (trodAll_cons_mk (shut_bool Try.underlying4 _) trodAll_mk0)) (fun sp _ => (trodAll_cons_mk (shut_int Try.underlying23 w0) (trodAll_cons_mk (shut_int Try.underlying23 w1) (trodAll_cons_mk (shut_int Try.underlying23 w2) (trodAll_cons_mk (shut_int Try.underlying3 w3) (trodAll_cons_mk (shut_int Try.underlying3 w4) trodAll_mk0)))))) (fun _ _ => rfl) rfl
    (hg.frame _) hg.2.1 (ok_one (by kernel_rfl) rfl (okWide_bool_mk Try.underlying4 _))⟩

theorem over : Rows.spanRisesRow.holds Try.pinned (OpenSpec.ofChange Rows.spanRisesSpec) :=
  OpenClaim.holds_of_wide 6 Try.f6 rfl rfl rfl rfl rfl rfl rfl ⟨rfl, rfl, rfl, rfl, rfl⟩ rfl rfl rfl rfl rfl (by kernel_rfl) Try.func6 (by kernel_rfl)
    (of_decide_eq_true (by kernel_rfl)) (by unfold Func.isWrapper; first | (rw [if_pos (by decide +kernel)]; kernel_rfl) | (rw [if_neg (by decide +kernel)]; exact ⟨rfl, rfl⟩))
    (fun os started H enc _ => lifted os started H enc)

/-- ████ THE STATEMENT ████ -/
theorem proved : Rows.SpanRisesSaid :=
  over
#print axioms proved
end Go.Proofs.Ytmpiadeknfnelaa.spanRises
