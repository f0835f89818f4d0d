/-
  PROVED HERE: for any three ints, 'ordinatelaw1.RefNear' returns true: a word turned by less than 8 refers to the same address with another kind, or to nothing; turned by 8 to the next one with its kind. No conditions.
  (The frame was written by the guide's program proof-skeleton.mjs; the walk is mine.)
-/
import Derived.Test.YtokhlbjkbofikaaRows
import Derived.Test.YtokhlbjkbofikaaCon
import Derived.Test.YtokhlbjkbofikaaPlain
import Derived.WalkKit
import Derived.ProofKit
import Derived.OpenShut
import Derived.ShutString
namespace Go.Proofs.Ytokhlbjkbofikaa.refNear
open Go.ChangeShapes Go.WideShapes Go.ChangeAt Go.RowKit
open Go.ChangeMaps (open_string shut_string)
set_option linter.unusedVariables false      -- a walk need not use every 'w<i>' (that an integer argument fits its kind)

theorem own : ownKnob Try.prog.godebug = none := by kernel_rfl

/-! ### STEP 1: THE WALK: the Go text returns true. 'Grown w w'': the world has at most new blocks (Derived/RowKit3.lean). Part the cases AHEAD of 'go_enter' where a test parts the walk; take each callee by a contract of your own. -/
theorem walk (a0 : Int) (a1 : Int) (a2 : Int) (w0 : (Lit.int .i64 a0).wf = true) (w1 : (Lit.int .i64 a1).wf = true) (w2 : (Lit.int .i64 a2).wf = true) (w : World) :
    Calls Try.prog 7 #[.int .i64 a0, .int .i64 a1, .int .i64 a2] w fun e w' => e = .returned (.bool true) ∧ Grown w w' := by
  obtain ⟨p, hp⟩ : ∃ p, a0 % 5 = p := ⟨_, rfl⟩
  obtain ⟨q, hq⟩ : ∃ p, a1 % 65535 = p := ⟨_, rfl⟩
  obtain ⟨r, hr⟩ : ∃ p, a2 % 8 = p := ⟨_, rfl⟩
  have bp : 0 ≤ p ∧ p < 5 := by omega
  have bq : 0 ≤ q ∧ q < 65535 := by omega
  have br : 0 ≤ r ∧ r < 8 := by omega
  clear w0 w1 w2
  obtain ⟨x, hx⟩ : ∃ x, x = 8 * (1 + q) + (1 + p) := ⟨_, rfl⟩
  have j1 : ofZ (1 + p) (1 + q) = x := by rw [of_may (by omega), hx]
  have hx8 : x + 8 = 8 * (1 + q + 1) + (1 + p) := by omega
  have j2 : atZ (x + 8) = 1 + q + 1 := by rw [hx8, at_made (by omega)]
  have j3 : kindZ (x + 8) = 1 + p := by rw [hx8, kind_made (by omega)]
  have wx : (Lit.int .i64 (x + 8)).wf = true := wf_of (by omega) (by omega)
  have wr : (Lit.int .i64 (8 * (1 + q) + r)).wf = true := wf_of (by omega) (by omega)
  have bx : 0 ≤ x ∧ x ≤ 600000 := by omega
  clear hx hx8
  have hk : (1 ≤ r ∧ r ≤ 5) ∨ (¬ 1 ≤ r) ∨ (1 ≤ r ∧ ¬ r ≤ 5) := by omega
  rcases hk with ⟨c1, c2⟩ | c1 | ⟨c1, c2⟩
  · have k1 : rt (8 * (1 + q) + r) = true := rt_made (by omega)
    have k2 : atZ (8 * (1 + q) + r) = 1 + q := at_made (by omega)
    have k3 : kindZ (8 * (1 + q) + r) = r := kind_made (by omega)
    go_enter Try.func7, Try.ntmps7
    go_wp2_with (first | (go_at_call 8; refine (known_c _).mono ?_; rintro e w' ⟨rfl, rfl⟩) | (go_at_call 9; refine (of_c _ _ _).mono ?_; rintro e w' ⟨rfl, rfl⟩) | (go_at_call 17; refine (cut_c _ _ (by decide) (by decide) _).mono ?_; rintro e w' ⟨rfl, rfl⟩) | (go_at_call 10; refine (right_c _ ‹_› _).mono ?_; rintro e w' ⟨rfl, rfl⟩) | (go_at_call 14; refine (kind_c _ ‹_› _).mono ?_; rintro e w' ⟨rfl, rfl⟩) | (go_at_call 11; refine (at_c _ ‹_› _).mono ?_; rintro e w' ⟨rfl, rfl⟩))
    go_ret
    exact ⟨rfl, Grown.refl _⟩
  · have k1 : rt (8 * (1 + q) + r) = false := rt_other (by omega) (by omega)
    go_enter Try.func7, Try.ntmps7
    go_wp2_with (first | (go_at_call 8; refine (known_c _).mono ?_; rintro e w' ⟨rfl, rfl⟩) | (go_at_call 9; refine (of_c _ _ _).mono ?_; rintro e w' ⟨rfl, rfl⟩) | (go_at_call 17; refine (cut_c _ _ (by decide) (by decide) _).mono ?_; rintro e w' ⟨rfl, rfl⟩) | (go_at_call 10; refine (right_c _ ‹_› _).mono ?_; rintro e w' ⟨rfl, rfl⟩) | (go_at_call 14; refine (kind_c _ ‹_› _).mono ?_; rintro e w' ⟨rfl, rfl⟩) | (go_at_call 11; refine (at_c _ ‹_› _).mono ?_; rintro e w' ⟨rfl, rfl⟩))
    go_ret
    exact ⟨rfl, Grown.refl _⟩
  · have k1 : rt (8 * (1 + q) + r) = false := rt_other (by omega) (by omega)
    go_enter Try.func7, Try.ntmps7
    go_wp2_with (first | (go_at_call 8; refine (known_c _).mono ?_; rintro e w' ⟨rfl, rfl⟩) | (go_at_call 9; refine (of_c _ _ _).mono ?_; rintro e w' ⟨rfl, rfl⟩) | (go_at_call 17; refine (cut_c _ _ (by decide) (by decide) _).mono ?_; rintro e w' ⟨rfl, rfl⟩) | (go_at_call 10; refine (right_c _ ‹_› _).mono ?_; rintro e w' ⟨rfl, rfl⟩) | (go_at_call 14; refine (kind_c _ ‹_› _).mono ?_; rintro e w' ⟨rfl, rfl⟩) | (go_at_call 11; refine (at_c _ ‹_› _).mono ?_; rintro e w' ⟨rfl, rfl⟩))
    go_ret
    exact ⟨rfl, Grown.refl _⟩

/-! ### THE ROW's STEP: WRITTEN OUT: LEAVE IT -/
set_option maxRecDepth 100000 in
theorem lifted (os : Os) (started : os.Started) (H : Type) (enc : TypeId × Value → H) :
    ReturnsInHanded {} Try.checked os 7 .any (Rows.refNearSpec.pre6 enc Try.prog Try.f7 Rows.refNearRow.domain false) (Rows.refNearSpec.post enc Try.prog Try.f7 false true false false) := by
  refine returnsInHanded_of_change (C := Try.checked) own started (by kernel_rfl) Try.func7
    (ChangeSpec.witness6 (enc := enc) (C := Try.checked) false ⟨#[], #[.int .i64 0, .int .i64 0, .int .i64 0], []⟩ 8 (by kernel_rfl) (by kernel_rfl) (by kernel_rfl) (by kernel_rfl)) ?_
  intro W base args ds gs before hval0 hW hcnd _
  have hval : ∀ (j : Nat) t v, Try.f7.params[j]? = some t → args[j]? = some v → Value.okWide Try.prog W .any base t v := hval0
  have hW' := hW
  obtain ⟨p, q, hA0, hV, rfl, hfz, hnd⟩ := hW
  have hA : DataW.TrodAll enc Try.prog W 0 (fun _ => true) true Try.f7.params.toList args.toList ds p := hA0
  rw [Try.params7] at hA hval
  obtain ⟨v0, vs0, d0, ds0, p0, q0, hargs, rfl, rfl, h0, r0⟩ := trodAll_cons hA
  obtain ⟨v1, vs1, d1, ds1, p1, q1, rfl, rfl, rfl, h1, r1⟩ := trodAll_cons r0
  obtain ⟨v2, vs2, d2, ds2, p2, q2, rfl, rfl, rfl, h2, r2⟩ := trodAll_cons r1
  obtain ⟨rfl, rfl, rfl⟩ := trodAll_nil r2
  obtain rfl : args = #[v0, v1, v2] := by cases args; simp_all
  obtain ⟨rfl, rfl⟩ := trodVars_none hV
  obtain ⟨a0, rfl, rfl, rfl, w0⟩ := open_int Try.underlying3 (hval 0 3 v0 rfl rfl) h0
  obtain ⟨a1, rfl, rfl, rfl, w1⟩ := open_int Try.underlying3 (hval 1 3 v1 rfl rfl) h1
  obtain ⟨a2, rfl, rfl, rfl, w2⟩ := open_int Try.underlying3 (hval 2 3 v2 rfl rfl) h2
  clear hA0 hval0
  simp only [List.append_nil] at hW'
  refine (walk a0 a1 a2 w0 w1 w2 W).mono fun e W' ⟨he, hg⟩ => ?_
  subst he
  exact ⟨_, rfl, post_of_same (pa := []) (pv := []) hW' (fun _ _ _ => (trodAll_cons_mk (shut_bool Try.underlying4 _) trodAll_mk0)) (fun sp _ => (trodAll_cons_mk (shut_int Try.underlying3 w0) (trodAll_cons_mk (shut_int Try.underlying3 w1) (trodAll_cons_mk (shut_int Try.underlying3 w2) trodAll_mk0)))) (fun _ _ => rfl) rfl
    (hg.frame _) hg.2.1 (ok_one (by kernel_rfl) rfl (okWide_bool_mk Try.underlying4 _))⟩

theorem over : Rows.refNearRow.holds Try.pinned (OpenSpec.ofChange Rows.refNearSpec) :=
  OpenClaim.holds_of_wide 7 Try.f7 rfl rfl rfl rfl rfl rfl rfl ⟨rfl, rfl, rfl, rfl, rfl⟩ rfl rfl rfl rfl rfl (by kernel_rfl) Try.func7 (by kernel_rfl)
    (of_decide_eq_true (by kernel_rfl)) (by unfold Func.isWrapper; first | (rw [if_pos (by decide +kernel)]; kernel_rfl) | (rw [if_neg (by decide +kernel)]; exact ⟨rfl, rfl⟩))
    (fun os started H enc _ => lifted os started H enc)

/-- ████ THE STATEMENT ████ -/
theorem proved : Rows.RefNearSaid :=
  over
#print axioms proved
end Go.Proofs.Ytokhlbjkbofikaa.refNear
