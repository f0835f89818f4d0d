/-
  PROVED HERE: 'ordinatelaw5.PartKnown' returns true: chapter 5's examples, ends, what is none. No conditions.
  (The frame was written by the guide's program proof-skeleton.mjs; the walk is mine.)
-/
import Derived.Test.YtnhjedohbpbpgaaRows
import Derived.Test.YtnhjedohbpbpgaaKn
import Derived.WalkKit
import Derived.ProofKit
import Derived.OpenShut
import Derived.ShutString
namespace Go.Proofs.Ytnhjedohbpbpgaa.partKnown
open Go.ChangeShapes Go.WideShapes Go.ChangeAt Go.RowKit
open Go.ChangeMaps (open_string shut_string)
set_option linter.unusedVariables false      -- a walk need not use every 'w<i>' (that an integer argument fits its kind)

theorem own : ownKnob Try.prog.godebug = none := by kernel_rfl

/-! ### STEP 1: THE WALK: the Go text returns true. 'Grown w w'': the world has at most new blocks (Derived/RowKit3.lean). Part the cases AHEAD of 'go_enter' where a test parts the walk; take each callee by a contract of your own. -/
set_option maxHeartbeats 4000000 in
theorem walk  (w : World) :
    Calls Try.prog 3 #[] w fun e w' => e = .returned (.bool true) ∧ Grown w w' := by
  have a1 : degZ 0 = 0 := deg_none (by decide)
  have a2 : degZ 1 = 0 := deg_none (by decide)
  have a3 := deg_3
  have a4 := deg_full
  have a5 : degZ 16385 = 0 := deg_none (by decide)
  have a6 : degZ (-4) = 0 := deg_none (by decide)
  have a7 : sizeZ 2 2 = 0 := size_none (Or.inr (by rw [deg_2]; decide))
  have a8 : sizeZ 9 (-1) = 0 := size_none (Or.inl (by decide))
  have a9 : fromZ 9 3 = 0 := from_none (Or.inr (by rw [deg_9]; decide))
  have a10 := cel_is_1
  have a11 : celZ (-1) = 0 := cel_none (by decide)
  have a12 : limZ 0 = 2 := by decide
  have a13 : limZ (-1) = 0 := by decide
  have a14 : limZ 16384 = 4098 := by decide
  have a15 := dep_is_0
  go_enter Try.func3, Try.ntmps3
  go_wp2_with (first | (go_at_call 10; refine (known_c _).mono ?_; rintro e w' ⟨rfl, k, rfl⟩) | (go_at_call 11; refine (deg_c _ (by decide) _).mono ?_; rintro e w' ⟨rfl, rfl⟩) | (go_at_call 12; refine (size_c _ _ (by decide) _).mono ?_; rintro e w' ⟨rfl, k, rfl⟩) | (go_at_call 13; refine (from_c _ _ (by decide) _).mono ?_; rintro e w' ⟨rfl, k, rfl⟩) | (go_at_call 14; refine (cells_c _ (by decide) _).mono ?_; rintro e w' ⟨rfl, k, rfl⟩) | (go_at_call 15; refine (lim_c _ (by decide) _).mono ?_; rintro e w' ⟨rfl, rfl⟩) | (go_at_call 16; refine (depth_c _ (by decide) _).mono ?_; rintro e w' ⟨rfl, k, rfl⟩))
  go_ret
  exact ⟨rfl, grown_drewN _ _⟩

/-! ### THE ROW's STEP: WRITTEN OUT: LEAVE IT -/
set_option maxRecDepth 100000 in
theorem lifted (os : Os) (started : os.Started) (H : Type) (enc : TypeId × Value → H) :
    ReturnsInHanded {} Try.checked os 3 .any (Rows.partKnownSpec.pre6 enc Try.prog Try.f3 Rows.partKnownRow.domain false) (Rows.partKnownSpec.post enc Try.prog Try.f3 false true false false) := by
  refine returnsInHanded_of_change (C := Try.checked) own started (by kernel_rfl) Try.func3
    (ChangeSpec.witness6 (enc := enc) (C := Try.checked) false ⟨#[], #[], []⟩ 8 (by kernel_rfl) (by kernel_rfl) (by kernel_rfl) (by kernel_rfl)) ?_
  intro W base args ds gs before hval0 hW hcnd _
  have hval : ∀ (j : Nat) t v, Try.f3.params[j]? = some t → args[j]? = some v → Value.okWide Try.prog W .any base t v := hval0
  have hW' := hW
  obtain ⟨p, q, hA0, hV, rfl, hfz, hnd⟩ := hW
  have hA : DataW.TrodAll enc Try.prog W 0 (fun _ => true) true Try.f3.params.toList args.toList ds p := hA0
  rw [Try.params3] at hA hval
  obtain ⟨rfl, rfl, rfl⟩ := trodAll_none hA
  obtain ⟨rfl, rfl⟩ := trodVars_none hV
  clear hA0 hval0
  simp only [List.append_nil] at hW'
  refine (walk  W).mono fun e W' ⟨he, hg⟩ => ?_
  subst he
  exact ⟨_, rfl, post_of_same (pa := []) (pv := []) hW' (fun _ _ _ => (trodAll_cons_mk (shut_bool Try.underlying4 _) trodAll_mk0)) (fun sp _ => rfl) (fun _ _ => rfl) rfl
    (hg.frame _) hg.2.1 (ok_one (by kernel_rfl) rfl (okWide_bool_mk Try.underlying4 _))⟩

theorem over : Rows.partKnownRow.holds Try.pinned (OpenSpec.ofChange Rows.partKnownSpec) :=
  OpenClaim.holds_of_wide 3 Try.f3 rfl rfl rfl rfl rfl rfl rfl ⟨rfl, rfl, rfl, rfl, rfl⟩ rfl rfl rfl rfl rfl (by kernel_rfl) Try.func3 (by kernel_rfl)
    (of_decide_eq_true (by kernel_rfl)) (by unfold Func.isWrapper; first | (rw [if_pos (by decide +kernel)]; kernel_rfl) | (rw [if_neg (by decide +kernel)]; exact ⟨rfl, rfl⟩))
    (fun os started H enc _ => lifted os started H enc)

/-- ████ THE STATEMENT ████ -/
theorem proved : Rows.PartKnownSaid :=
  over
#print axioms proved
end Go.Proofs.Ytnhjedohbpbpgaa.partKnown
