/-
  PROVED HERE: 'ordinatelaw2.SpanKnown' returns true: chapter 2's examples, ends, noughts and numbers that may not be are answered as the document says. No conditions.
  (The frame was written by the guide's program proof-skeleton.mjs; the walk is mine.)
-/
import Derived.Test.YtmpiadeknfnelaaRows
import Derived.Test.YtmpiadeknfnelaaLaws
import Derived.WalkKit
import Derived.ProofKit
import Derived.OpenShut
namespace Go.Proofs.Ytmpiadeknfnelaa.spanKnown
open Go.ChangeShapes Go.WideShapes Go.ChangeAt Go.RowKit
set_option linter.unusedVariables false      -- a walk need not use every 'w<i>' (that an integer argument fits its kind)

theorem own : ownKnob Try.prog.godebug = none := by kernel_rfl

/-! ### STEP 1: THE WALK: the Go text returns true. 'Grown w w'': the world has at most new blocks (Derived/RowKit3.lean). Part the cases AHEAD of 'go_enter' where a test parts the walk; take each callee by a contract of your own. -/
set_option maxHeartbeats 2000000 in
theorem walk  (w : World) :
    Calls Try.prog 3 #[] w fun e w' => e = .returned (.bool true) ∧ Grown w w' := by
  have b1 : gapZ 5 5 = 0 := by decide
  have b2 : shareZ 18446744073709551615 18446744073709551615 65536 = 65536 := by decide
  have b3 : shareZ 5 5 65537 = 0 := by decide
  have b4 : shareZ 5 5 0 = 0 := by decide
  have b5 : rootZ 0 = 0 := by decide
  have b6 : rootZ 9223372036854775807 = 3037000499 := root_unique (by decide) (by decide) (by decide)
  have b7 : bitsZ 9223372036854775807 = 63 := by decide
  have b8 : bitsZ (-1) = 0 := by decide
  have b9 : plusZ 9223372036854775807 1 = 9223372036854775807 := by decide
  have b10 : timesZ 0 9223372036854775807 = 0 := by decide
  have b11 : timesZ (-1) (-1) = 0 := by decide
  have b12 : timesZ 3037000500 3037000500 = 9223372036854775807 := by decide
  have b13 : plusZ 0 0 = 0 := by decide
  go_enter Try.func3, Try.ntmps3
  go_wp2_with (first | (go_at_call 10; refine (known_c _).mono ?_; rintro e w' ⟨rfl, k, rfl⟩) | (go_at_call 11; refine (gap_c _ _ (by decide) (by decide) _).mono ?_; rintro e w' ⟨rfl, rfl⟩) | (go_at_call 12; refine (share_c _ _ _ (by decide) (by decide) _).mono ?_; rintro e w' ⟨rfl, k, rfl⟩) | (go_at_call 13; refine (root_c _ (by decide) _).mono ?_; rintro e w' ⟨rfl, rfl⟩) | (go_at_call 14; refine (bits_c _ (by decide) _).mono ?_; rintro e w' ⟨rfl, rfl⟩) | (go_at_call 15; refine (plus_c _ _ (by decide) (by decide) _).mono ?_; rintro e w' ⟨rfl, rfl⟩) | (go_at_call 16; refine (times_c _ _ (by decide) (by decide) _).mono ?_; rintro e w' ⟨rfl, rfl⟩))
  go_ret
  exact ⟨rfl, grown_drewN _ _⟩

/-! ### THE ROW's STEP: WRITTEN OUT: LEAVE IT -/
set_option maxRecDepth 100000 in
theorem lifted (os : Os) (started : os.Started) (H : Type) (enc : TypeId × Value → H) :
    ReturnsInHanded {} Try.checked os 3 .any (Rows.spanKnownSpec.pre6 enc Try.prog Try.f3 Rows.spanKnownRow.domain false) (Rows.spanKnownSpec.post enc Try.prog Try.f3 false true false false) := by
  refine returnsInHanded_of_change (C := Try.checked) own started (by kernel_rfl) Try.func3
    (ChangeSpec.witness6 (enc := enc) (C := Try.checked) false ⟨#[], #[], []⟩ 8 (by kernel_rfl) (by kernel_rfl) (by kernel_rfl) (by kernel_rfl)) ?_
  intro W base args ds gs before hval0 hW hcnd _
  have hval : ∀ (j : Nat) t v, Try.f3.params[j]? = some t → args[j]? = some v → Value.okWide Try.prog W .any base t v := hval0
  have hW' := hW
  obtain ⟨p, q, hA0, hV, rfl, hfz, hnd⟩ := hW
  have hA : DataW.TrodAll enc Try.prog W 0 (fun _ => true) true Try.f3.params.toList args.toList ds p := hA0
  rw [Try.params3] at hA hval
  obtain ⟨rfl, rfl, rfl⟩ := trodAll_none hA
  obtain ⟨rfl, rfl⟩ := trodVars_none hV
  clear hA0 hval0
  simp only [List.append_nil] at hW'
  refine (walk  W).mono fun e W' ⟨he, hg⟩ => ?_
  subst he
  exact ⟨_, rfl, post_of_same (pa := []) (pv := []) hW' (fun _ _ _ => (trodAll_cons_mk (shut_bool Try.underlying4 _) trodAll_mk0)) (fun sp _ => rfl) (fun _ _ => rfl) rfl
    (hg.frame _) hg.2.1 (ok_one (by kernel_rfl) rfl (okWide_bool_mk Try.underlying4 _))⟩

theorem over : Rows.spanKnownRow.holds Try.pinned (OpenSpec.ofChange Rows.spanKnownSpec) :=
  OpenClaim.holds_of_wide 3 Try.f3 rfl rfl rfl rfl rfl rfl rfl ⟨rfl, rfl, rfl, rfl, rfl⟩ rfl rfl rfl rfl rfl (by kernel_rfl) Try.func3 (by kernel_rfl)
    (of_decide_eq_true (by kernel_rfl)) (by unfold Func.isWrapper; first | (rw [if_pos (by decide +kernel)]; kernel_rfl) | (rw [if_neg (by decide +kernel)]; exact ⟨rfl, rfl⟩))
    (fun os started H enc _ => lifted os started H enc)

/-- ████ THE STATEMENT ████ -/
theorem proved : Rows.SpanKnownSaid :=
  over
#print axioms proved
end Go.Proofs.Ytmpiadeknfnelaa.spanKnown
