/-
  PROVED HERE: for any int, 'ordinatelaw2.SpanRoot' returns true: a root's square is not above its number, the next one's is; a number of so many digits lies between powers of two. No conditions.
  (The frame was written by the guide's program proof-skeleton.mjs; the walk is mine.)
-/
import Derived.Test.YtmpiadeknfnelaaRows
import Derived.Test.YtmpiadeknfnelaaLaws
import Derived.WalkKit
import Derived.ProofKit
import Derived.OpenShut
namespace Go.Proofs.Ytmpiadeknfnelaa.spanRoot
open Go.ChangeShapes Go.WideShapes Go.ChangeAt Go.RowKit
set_option linter.unusedVariables false      -- a walk need not use every 'w<i>' (that an integer argument fits its kind)

theorem own : ownKnob Try.prog.godebug = none := by kernel_rfl

/-! ### STEP 1: THE WALK: the Go text returns true. 'Grown w w'': the world has at most new blocks (Derived/RowKit3.lean). Part the cases AHEAD of 'go_enter' where a test parts the walk; take each callee by a contract of your own. -/
set_option maxHeartbeats 2000000 in
theorem walk (a0 : Int) (w0 : (Lit.int .i64 a0).wf = true) (w : World) :
    Calls Try.prog 7 #[.int .i64 a0] w fun e w' => e = .returned (.bool true) ∧ Grown w w' := by
  have w0' := bounds_i64 w0
  have hr := root_c a0 w0
  have hb := bits_c a0 w0
  by_cases c : a0 < 1
  · rw [root_none c] at hr
    rw [bits_none c] at hb
    clear w0
    go_enter Try.func7, Try.ntmps7
    go_wp2_with (first | (go_at_call 10; refine (known_c _).mono ?_; rintro e w' ⟨rfl, k, rfl⟩) | (go_at_call 13; refine (hr _).mono ?_; rintro e w' ⟨rfl, rfl⟩) | (go_at_call 14; refine (hb _).mono ?_; rintro e w' ⟨rfl, rfl⟩))
    go_ret
    exact ⟨rfl, grown_drewN _ _⟩
  · obtain ⟨L, eL, l1, l2, b1, b2⟩ := bits_spec (n := a0) (by omega) w0'.2
    obtain ⟨r0, r1, r2⟩ := root_spec (n := a0) (by omega)
    rw [eL] at hb
    obtain ⟨r, er⟩ : ∃ r, rootZ a0 = r := ⟨_, rfl⟩
    rw [er] at hr r0 r1 r2
    have r3 := lt_of_self (a := r) (b := 3037000500) (by omega) (by omega)
    have r4 := lt_of_self (a := 0) (b := r + 1) (by omega) (by omega)
    have r5 : 1 ≤ r := by
      rcases Int.lt_or_le r 1 with h | h
      · obtain rfl : r = 0 := by omega
        omega
      · exact h
    have r6 : (r + 1) * (r + 1) ≤ 3037000500 * 3037000500 := mul_self_le (by omega) (by omega)
    have e1 : wrap64 (r * r) = r * r := wrap_same (by have := Int.mul_nonneg r0 r0; omega) (by omega)
    have e2 : IntKind.u64.wrap ((r + 1) * (r + 1)) = (r + 1) * (r + 1) := by rw [IntKind.wrap_u64]; omega
    have e3 : a0 / 2 ^ (L - 1) = 1 := by
      rw [pow_cast]
      refine k_quo (by omega) ?_ (by have : 1 ≤ 2 ^ (L - 1) := Nat.one_le_two_pow; omega)
      have e : ((2 ^ L : Nat) : Int) = 2 * ((2 ^ (L - 1) : Nat) : Int) := by
        obtain ⟨j, rfl⟩ : ∃ j, L = j + 1 := ⟨L - 1, by omega⟩
        rw [Nat.pow_succ, Nat.add_sub_cancel]; omega
      omega
    obtain ⟨m, hm⟩ : ∃ m, r * r = m := ⟨_, rfl⟩
    obtain ⟨u, hu⟩ : ∃ m, (r + 1) * (r + 1) = m := ⟨_, rfl⟩
    rw [hm] at r1
    rw [hu] at r2
    have e1' : wrap64 (r * r) = m := by rw [e1, hm]
    have e2' : IntKind.u64.wrap ((r + 1) * (r + 1)) = u := by rw [e2, hu]
    clear w0 eL er b1 b2 r4 r6 e1 e2 hm hu
    go_enter Try.func7, Try.ntmps7
    go_wp2_with (first | (go_at_call 10; refine (known_c _).mono ?_; rintro e w' ⟨rfl, k, rfl⟩) | (go_at_call 13; refine (hr _).mono ?_; rintro e w' ⟨rfl, rfl⟩) | (go_at_call 14; refine (hb _).mono ?_; rintro e w' ⟨rfl, rfl⟩))
    go_ret
    exact ⟨rfl, grown_drewN _ _⟩

/-! ### THE ROW's STEP: WRITTEN OUT: LEAVE IT -/
set_option maxRecDepth 100000 in
theorem lifted (os : Os) (started : os.Started) (H : Type) (enc : TypeId × Value → H) :
    ReturnsInHanded {} Try.checked os 7 .any (Rows.spanRootSpec.pre6 enc Try.prog Try.f7 Rows.spanRootRow.domain false) (Rows.spanRootSpec.post enc Try.prog Try.f7 false true false false) := by
  refine returnsInHanded_of_change (C := Try.checked) own started (by kernel_rfl) Try.func7
    (ChangeSpec.witness6 (enc := enc) (C := Try.checked) false ⟨#[], #[.int .i64 0], []⟩ 8 (by kernel_rfl) (by kernel_rfl) (by kernel_rfl) (by kernel_rfl)) ?_
  intro W base args ds gs before hval0 hW hcnd _
  have hval : ∀ (j : Nat) t v, Try.f7.params[j]? = some t → args[j]? = some v → Value.okWide Try.prog W .any base t v := hval0
  have hW' := hW
  obtain ⟨p, q, hA0, hV, rfl, hfz, hnd⟩ := hW
  have hA : DataW.TrodAll enc Try.prog W 0 (fun _ => true) true Try.f7.params.toList args.toList ds p := hA0
  rw [Try.params7] at hA hval
  obtain ⟨v0, vs0, d0, ds0, p0, q0, hargs, rfl, rfl, h0, r0⟩ := trodAll_cons hA
  obtain ⟨rfl, rfl, rfl⟩ := trodAll_nil r0
  obtain rfl : args = #[v0] := by cases args; simp_all
  obtain ⟨rfl, rfl⟩ := trodVars_none hV
  obtain ⟨a0, rfl, rfl, rfl, w0⟩ := open_int Try.underlying3 (hval 0 3 v0 rfl rfl) h0
  clear hA0 hval0
  simp only [List.append_nil] at hW'
  refine (walk a0 w0 W).mono fun e W' ⟨he, hg⟩ => ?_
  subst he
  exact ⟨_, rfl, post_of_same (pa := []) (pv := []) hW' (fun _ _ _ => (trodAll_cons_mk (shut_bool Try.underlying4 _) trodAll_mk0)) (fun sp _ => (trodAll_cons_mk (shut_int Try.underlying3 w0) trodAll_mk0)) (fun _ _ => rfl) rfl
    (hg.frame _) hg.2.1 (ok_one (by kernel_rfl) rfl (okWide_bool_mk Try.underlying4 _))⟩

theorem over : Rows.spanRootRow.holds Try.pinned (OpenSpec.ofChange Rows.spanRootSpec) :=
  OpenClaim.holds_of_wide 7 Try.f7 rfl rfl rfl rfl rfl rfl rfl ⟨rfl, rfl, rfl, rfl, rfl⟩ rfl rfl rfl rfl rfl (by kernel_rfl) Try.func7 (by kernel_rfl)
    (of_decide_eq_true (by kernel_rfl)) (by unfold Func.isWrapper; first | (rw [if_pos (by decide +kernel)]; kernel_rfl) | (rw [if_neg (by decide +kernel)]; exact ⟨rfl, rfl⟩))
    (fun os started H enc _ => lifted os started H enc)

/-- ████ THE STATEMENT ████ -/
theorem proved : Rows.SpanRootSaid :=
  over
#print axioms proved
end Go.Proofs.Ytmpiadeknfnelaa.spanRoot
