/-
  PROVED HERE: for any three ints, 'ordinatelaw2.SpanSums' returns true: sums and products hang not on the order, never go below what they are made of, nor round. No conditions.
  (The frame was written by the guide's program proof-skeleton.mjs; the walk is mine.)
-/
import Derived.Test.YtmpiadeknfnelaaRows
import Derived.Test.YtmpiadeknfnelaaLaws
import Derived.WalkKit
import Derived.ProofKit
import Derived.OpenShut
namespace Go.Proofs.Ytmpiadeknfnelaa.spanSums
open Go.ChangeShapes Go.WideShapes Go.ChangeAt Go.RowKit
set_option linter.unusedVariables false      -- a walk need not use every 'w<i>' (that an integer argument fits its kind)

theorem own : ownKnob Try.prog.godebug = none := by kernel_rfl

/-! ### STEP 1: THE WALK: the Go text returns true. 'Grown w w'': the world has at most new blocks (Derived/RowKit3.lean). Part the cases AHEAD of 'go_enter' where a test parts the walk; take each callee by a contract of your own. -/
set_option maxHeartbeats 2000000 in
theorem walk (a0 : Int) (a1 : Int) (a2 : Int) (w0 : (Lit.int .i64 a0).wf = true) (w1 : (Lit.int .i64 a1).wf = true) (w2 : (Lit.int .i64 a2).wf = true) (w : World) :
    Calls Try.prog 9 #[.int .i64 a0, .int .i64 a1, .int .i64 a2] w fun e w' => e = .returned (.bool true) ∧ Grown w w' := by
  have w0' := bounds_i64 w0
  have w1' := bounds_i64 w1
  have w2' := bounds_i64 w2
  have e1 := plus_comm a0 a1
  have e2 := times_comm a0 a1
  by_cases c0 : a0 < 0
  · have e3 := plus_neg (a := a0) (b := a1) (Or.inl c0)
    have e4 := times_neg (a := a0) (b := a1) (Or.inl c0)
    rw [e3] at e1
    rw [e4] at e2
    go_enter Try.func9, Try.ntmps9
    go_wp2_with (first | (go_at_call 10; refine (known_c _).mono ?_; rintro e w' ⟨rfl, k, rfl⟩) | (go_at_call 15; refine (plus_c _ _ ‹_› ‹_› _).mono ?_; rintro e w' ⟨rfl, rfl⟩) | (go_at_call 16; refine (times_c _ _ ‹_› ‹_› _).mono ?_; rintro e w' ⟨rfl, rfl⟩))
    go_ret
    exact ⟨rfl, grown_drewN _ _⟩
  · by_cases c1 : a1 < 0
    · have e3 := plus_neg (a := a0) (b := a1) (Or.inr c1)
      have e4 := times_neg (a := a0) (b := a1) (Or.inr c1)
      rw [e3] at e1
      rw [e4] at e2
      go_enter Try.func9, Try.ntmps9
      go_wp2_with (first | (go_at_call 10; refine (known_c _).mono ?_; rintro e w' ⟨rfl, k, rfl⟩) | (go_at_call 15; refine (plus_c _ _ ‹_› ‹_› _).mono ?_; rintro e w' ⟨rfl, rfl⟩) | (go_at_call 16; refine (times_c _ _ ‹_› ‹_› _).mono ?_; rintro e w' ⟨rfl, rfl⟩))
      go_ret
      exact ⟨rfl, grown_drewN _ _⟩
    · by_cases c2 : a2 < 0
      · go_enter Try.func9, Try.ntmps9
        go_wp2_with (first | (go_at_call 10; refine (known_c _).mono ?_; rintro e w' ⟨rfl, k, rfl⟩) | (go_at_call 15; refine (plus_c _ _ ‹_› ‹_› _).mono ?_; rintro e w' ⟨rfl, rfl⟩) | (go_at_call 16; refine (times_c _ _ ‹_› ‹_› _).mono ?_; rintro e w' ⟨rfl, rfl⟩))
        go_ret
        exact ⟨rfl, grown_drewN _ _⟩
      · have u0 : 0 ≤ a0 := by omega
        have u1 : 0 ≤ a1 := by omega
        have u2 : 0 ≤ a2 := by omega
        have e3 := plus_assoc u0 u1 u2
        have e4 := times_assoc u0 u1 u2
        have e5 := times_one u0 w0'.2
        have e6 := plus_nought u0 w0'.2
        have e7 := plus_eq u0 u1
        have t1 := fun h => times_ge (a := a0) (b := a1) u0 h w0'.2
        have b1 := plus_bound a0 a1
        have b2 := plus_bound a1 a2
        have b3 := times_bound a0 a1
        have b4 := times_bound a1 a2
        have x1 : (Lit.int .i64 (plusZ a0 a1)).wf = true := wf_of (by omega) (by omega)
        have x2 : (Lit.int .i64 (plusZ a1 a2)).wf = true := wf_of (by omega) (by omega)
        have x3 : (Lit.int .i64 (timesZ a0 a1)).wf = true := wf_of (by omega) (by omega)
        have x4 : (Lit.int .i64 (timesZ a1 a2)).wf = true := wf_of (by omega) (by omega)
        have x5 : (Lit.int .i64 0).wf = true := by decide
        have x6 : (Lit.int .i64 1).wf = true := by decide
        by_cases c4 : a0 + a1 ≤ 9223372036854775807
        · have e8 : plusZ a0 a1 = a0 + a1 := by omega
          have t3 : max a0 a1 ≤ a0 + a1 := by omega
          clear e7
          rw [e8] at e1 e3 x1 b1
          by_cases c3 : 0 < a1
          · have t2 := t1 c3
            clear t1
            go_enter Try.func9, Try.ntmps9
            go_wp2_with (first | (go_at_call 10; refine (known_c _).mono ?_; rintro e w' ⟨rfl, k, rfl⟩) | (go_at_call 15; refine (plus_c _ _ ‹_› ‹_› _).mono ?_; rintro e w' ⟨rfl, rfl⟩) | (go_at_call 16; refine (times_c _ _ ‹_› ‹_› _).mono ?_; rintro e w' ⟨rfl, rfl⟩))
            go_ret
            exact ⟨rfl, grown_drewN _ _⟩
          · clear t1
            go_enter Try.func9, Try.ntmps9
            go_wp2_with (first | (go_at_call 10; refine (known_c _).mono ?_; rintro e w' ⟨rfl, k, rfl⟩) | (go_at_call 15; refine (plus_c _ _ ‹_› ‹_› _).mono ?_; rintro e w' ⟨rfl, rfl⟩) | (go_at_call 16; refine (times_c _ _ ‹_› ‹_› _).mono ?_; rintro e w' ⟨rfl, rfl⟩))
            go_ret
            exact ⟨rfl, grown_drewN _ _⟩
        · have e8 : plusZ a0 a1 = 9223372036854775807 := by omega
          have t3 : max a0 a1 ≤ 9223372036854775807 := by omega
          have c3 : 0 < a1 := by omega
          have t2 := t1 c3
          have x7 : (Lit.int .i64 9223372036854775807).wf = true := by decide
          clear e7 t1
          rw [e8] at e1 e3
          obtain ⟨v, hv⟩ : ∃ v, wrap64 (a0 + a1) = v := ⟨_, rfl⟩
          have v1 : v < 0 := by unfold wrap64 at hv; omega
          have ne : ¬ 9223372036854775807 = v := by omega
          have nb : (9223372036854775807 == v) = false := by simp only [beq_eq_false_iff_ne, ne_eq]; exact ne
          clear x1 b1
          go_enter Try.func9, Try.ntmps9
          go_wp2_with (first | (go_at_call 10; refine (known_c _).mono ?_; rintro e w' ⟨rfl, k, rfl⟩) | (go_at_call 15; refine (plus_c _ _ ‹_› ‹_› _).mono ?_; rintro e w' ⟨rfl, rfl⟩) | (go_at_call 16; refine (times_c _ _ ‹_› ‹_› _).mono ?_; rintro e w' ⟨rfl, rfl⟩))
          all_goals go_ret
          all_goals exact ⟨rfl, grown_drewN _ _⟩

/-! ### THE ROW's STEP: WRITTEN OUT: LEAVE IT -/
set_option maxRecDepth 100000 in
theorem lifted (os : Os) (started : os.Started) (H : Type) (enc : TypeId × Value → H) :
    ReturnsInHanded {} Try.checked os 9 .any (Rows.spanSumsSpec.pre6 enc Try.prog Try.f9 Rows.spanSumsRow.domain false) (Rows.spanSumsSpec.post enc Try.prog Try.f9 false true false false) := by
  refine returnsInHanded_of_change (C := Try.checked) own started (by kernel_rfl) Try.func9
    (ChangeSpec.witness6 (enc := enc) (C := Try.checked) false ⟨#[], #[.int .i64 0, .int .i64 0, .int .i64 0], []⟩ 8 (by kernel_rfl) (by kernel_rfl) (by kernel_rfl) (by kernel_rfl)) ?_
  intro W base args ds gs before hval0 hW hcnd _
  have hval : ∀ (j : Nat) t v, Try.f9.params[j]? = some t → args[j]? = some v → Value.okWide Try.prog W .any base t v := hval0
  have hW' := hW
  obtain ⟨p, q, hA0, hV, rfl, hfz, hnd⟩ := hW
  have hA : DataW.TrodAll enc Try.prog W 0 (fun _ => true) true Try.f9.params.toList args.toList ds p := hA0
  rw [Try.params9] at hA hval
  obtain ⟨v0, vs0, d0, ds0, p0, q0, hargs, rfl, rfl, h0, r0⟩ := trodAll_cons hA
  obtain ⟨v1, vs1, d1, ds1, p1, q1, rfl, rfl, rfl, h1, r1⟩ := trodAll_cons r0
  obtain ⟨v2, vs2, d2, ds2, p2, q2, rfl, rfl, rfl, h2, r2⟩ := trodAll_cons r1
  obtain ⟨rfl, rfl, rfl⟩ := trodAll_nil r2
  obtain rfl : args = #[v0, v1, v2] := by cases args; simp_all
  obtain ⟨rfl, rfl⟩ := trodVars_none hV
  obtain ⟨a0, rfl, rfl, rfl, w0⟩ := open_int Try.underlying3 (hval 0 3 v0 rfl rfl) h0
  obtain ⟨a1, rfl, rfl, rfl, w1⟩ := open_int Try.underlying3 (hval 1 3 v1 rfl rfl) h1
  obtain ⟨a2, rfl, rfl, rfl, w2⟩ := open_int Try.underlying3 (hval 2 3 v2 rfl rfl) h2
  clear hA0 hval0
  simp only [List.append_nil] at hW'
  refine (walk a0 a1 a2 w0 w1 w2 W).mono fun e W' ⟨he, hg⟩ => ?_
  subst he
  exact ⟨_, rfl, post_of_same (pa := []) (pv := []) hW' (fun _ _ _ => (trodAll_cons_mk (shut_bool Try.underlying4 _) trodAll_mk0)) (fun sp _ => (trodAll_cons_mk (shut_int Try.underlying3 w0) (trodAll_cons_mk (shut_int Try.underlying3 w1) (trodAll_cons_mk (shut_int Try.underlying3 w2) trodAll_mk0)))) (fun _ _ => rfl) rfl
    (hg.frame _) hg.2.1 (ok_one (by kernel_rfl) rfl (okWide_bool_mk Try.underlying4 _))⟩

theorem over : Rows.spanSumsRow.holds Try.pinned (OpenSpec.ofChange Rows.spanSumsSpec) :=
  OpenClaim.holds_of_wide 9 Try.f9 rfl rfl rfl rfl rfl rfl rfl ⟨rfl, rfl, rfl, rfl, rfl⟩ rfl rfl rfl rfl rfl (by kernel_rfl) Try.func9 (by kernel_rfl)
    (of_decide_eq_true (by kernel_rfl)) (by unfold Func.isWrapper; first | (rw [if_pos (by decide +kernel)]; kernel_rfl) | (rw [if_neg (by decide +kernel)]; exact ⟨rfl, rfl⟩))
    (fun os started H enc _ => lifted os started H enc)

/-- ████ THE STATEMENT ████ -/
theorem proved : Rows.SpanSumsSaid :=
  over
#print axioms proved
end Go.Proofs.Ytmpiadeknfnelaa.spanSums
