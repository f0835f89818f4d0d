/-
  PROVED HERE: for any kind, any address (int) and any word (int64), 'ordinatelaw1.RefBack' returns true: a word that is made tells its kind and address again, one that is Right is just what they make. No conditions.
  (The frame was written by the guide's program proof-skeleton.mjs; the walk is mine.)
-/
import Derived.Test.YtokhlbjkbofikaaRows
import Derived.Test.YtokhlbjkbofikaaCon
import Derived.Test.YtokhlbjkbofikaaPlain
import Derived.WalkKit
import Derived.ProofKit
import Derived.OpenShut
import Derived.ShutString
namespace Go.Proofs.Ytokhlbjkbofikaa.refBack
open Go.ChangeShapes Go.WideShapes Go.ChangeAt Go.RowKit
open Go.ChangeMaps (open_string shut_string)
set_option linter.unusedVariables false      -- a walk need not use every 'w<i>' (that an integer argument fits its kind)

theorem own : ownKnob Try.prog.godebug = none := by kernel_rfl

/-! ### STEP 1: THE WALK: the Go text returns true. 'Grown w w'': the world has at most new blocks (Derived/RowKit3.lean). Part the cases AHEAD of 'go_enter' where a test parts the walk; take each callee by a contract of your own. -/
set_option maxHeartbeats 1000000 in
theorem walk (a0 : Int) (a1 : Int) (a2 : Int) (w0 : (Lit.int .i64 a0).wf = true) (w1 : (Lit.int .i64 a1).wf = true) (w2 : (Lit.int .i64 a2).wf = true) (w : World) :
    Calls Try.prog 5 #[.int .i64 a0, .int .i64 a1, .int .i64 a2] w fun e w' => e = .returned (.bool true) ∧ Grown w w' := by
  have hw : (∃ k t, (1 ≤ k ∧ k ≤ 5 ∧ 1 ≤ t ∧ t ≤ 65536) ∧ a2 = 8 * t + k) ∨ rt a2 = false := by
    cases h : rt a2
    · exact .inr rfl
    · exact .inl (rt_split h)
  have hk : (1 ≤ a0 ∧ a0 ≤ 5 ∧ 1 ≤ a1 ∧ a1 ≤ 65536) ∨ (¬ 1 ≤ a0) ∨ (1 ≤ a0 ∧ ¬ a0 ≤ 5) ∨ (1 ≤ a0 ∧ a0 ≤ 5 ∧ ¬ 1 ≤ a1) ∨ (1 ≤ a0 ∧ a0 ≤ 5 ∧ 1 ≤ a1 ∧ ¬ a1 ≤ 65536) := by omega
  clear w0 w1
  rcases hk with hm | hn
  · obtain ⟨x, hx⟩ : ∃ x, x = 8 * a1 + a0 := ⟨_, rfl⟩
    have wx : (Lit.int .i64 x).wf = true := wf_of (by omega) (by omega)
    have j1 : ofZ a0 a1 = x := by rw [of_may hm, hx]
    have j2 : rt x = true := by rw [hx, rt_made hm]
    have j3 : kindZ x = a0 := by rw [hx, kind_made hm]
    have j4 : atZ x = a1 := by rw [hx, at_made hm]
    have hx0 : (x != 0) = true := by simp only [bne_iff_ne, ne_eq]; omega
    clear hx
    obtain ⟨c1, c2, c3, c4⟩ := hm
    rcases hw with ⟨k, t, hm2, hx2⟩ | k2
    · have j5 : ofZ k t = a2 := by rw [of_may hm2, hx2]
      have k2 : rt a2 = true := by rw [hx2, rt_made hm2]
      have k4 : kindZ a2 = k := by rw [hx2, kind_made hm2]
      have k6 : atZ a2 = t := by rw [hx2, at_made hm2]
      have h1 : (k != 0) = true := by simp only [bne_iff_ne, ne_eq]; omega
      have h2 : (t != 0) = true := by simp only [bne_iff_ne, ne_eq]; omega
      clear hm2 hx2
      go_enter Try.func5, Try.ntmps5
      go_wp2_with (first | (go_at_call 8; refine (known_c _).mono ?_; rintro e w' ⟨rfl, rfl⟩) | (go_at_call 9; refine (of_c _ _ _).mono ?_; rintro e w' ⟨rfl, rfl⟩) | (go_at_call 10; refine (right_c _ ‹_› _).mono ?_; rintro e w' ⟨rfl, rfl⟩) | (go_at_call 14; refine (kind_c _ ‹_› _).mono ?_; rintro e w' ⟨rfl, rfl⟩) | (go_at_call 11; refine (at_c _ ‹_› _).mono ?_; rintro e w' ⟨rfl, rfl⟩))
      go_ret
      exact ⟨rfl, Grown.refl _⟩
    · have k4 := kind_not k2
      have k6 := at_not k2
      go_enter Try.func5, Try.ntmps5
      go_wp2_with (first | (go_at_call 8; refine (known_c _).mono ?_; rintro e w' ⟨rfl, rfl⟩) | (go_at_call 9; refine (of_c _ _ _).mono ?_; rintro e w' ⟨rfl, rfl⟩) | (go_at_call 10; refine (right_c _ ‹_› _).mono ?_; rintro e w' ⟨rfl, rfl⟩) | (go_at_call 14; refine (kind_c _ ‹_› _).mono ?_; rintro e w' ⟨rfl, rfl⟩) | (go_at_call 11; refine (at_c _ ‹_› _).mono ?_; rintro e w' ⟨rfl, rfl⟩))
      go_ret
      exact ⟨rfl, Grown.refl _⟩
  · have j1 : ofZ a0 a1 = 0 := of_not (by omega)
    rcases hw with ⟨k, t, hm2, hx2⟩ | k2
    · have j5 : ofZ k t = a2 := by rw [of_may hm2, hx2]
      have k2 : rt a2 = true := by rw [hx2, rt_made hm2]
      have k4 : kindZ a2 = k := by rw [hx2, kind_made hm2]
      have k6 : atZ a2 = t := by rw [hx2, at_made hm2]
      have h1 : (k != 0) = true := by simp only [bne_iff_ne, ne_eq]; omega
      have h2 : (t != 0) = true := by simp only [bne_iff_ne, ne_eq]; omega
      clear hm2 hx2
      rcases hn with c1 | ⟨c1, c2⟩ | ⟨c1, c2, c3⟩ | ⟨c1, c2, c3, c4⟩
      · go_enter Try.func5, Try.ntmps5
        go_wp2_with (first | (go_at_call 8; refine (known_c _).mono ?_; rintro e w' ⟨rfl, rfl⟩) | (go_at_call 9; refine (of_c _ _ _).mono ?_; rintro e w' ⟨rfl, rfl⟩) | (go_at_call 10; refine (right_c _ ‹_› _).mono ?_; rintro e w' ⟨rfl, rfl⟩) | (go_at_call 14; refine (kind_c _ ‹_› _).mono ?_; rintro e w' ⟨rfl, rfl⟩) | (go_at_call 11; refine (at_c _ ‹_› _).mono ?_; rintro e w' ⟨rfl, rfl⟩))
        go_ret
        exact ⟨rfl, Grown.refl _⟩
      · go_enter Try.func5, Try.ntmps5
        go_wp2_with (first | (go_at_call 8; refine (known_c _).mono ?_; rintro e w' ⟨rfl, rfl⟩) | (go_at_call 9; refine (of_c _ _ _).mono ?_; rintro e w' ⟨rfl, rfl⟩) | (go_at_call 10; refine (right_c _ ‹_› _).mono ?_; rintro e w' ⟨rfl, rfl⟩) | (go_at_call 14; refine (kind_c _ ‹_› _).mono ?_; rintro e w' ⟨rfl, rfl⟩) | (go_at_call 11; refine (at_c _ ‹_› _).mono ?_; rintro e w' ⟨rfl, rfl⟩))
        go_ret
        exact ⟨rfl, Grown.refl _⟩
      · go_enter Try.func5, Try.ntmps5
        go_wp2_with (first | (go_at_call 8; refine (known_c _).mono ?_; rintro e w' ⟨rfl, rfl⟩) | (go_at_call 9; refine (of_c _ _ _).mono ?_; rintro e w' ⟨rfl, rfl⟩) | (go_at_call 10; refine (right_c _ ‹_› _).mono ?_; rintro e w' ⟨rfl, rfl⟩) | (go_at_call 14; refine (kind_c _ ‹_› _).mono ?_; rintro e w' ⟨rfl, rfl⟩) | (go_at_call 11; refine (at_c _ ‹_› _).mono ?_; rintro e w' ⟨rfl, rfl⟩))
        go_ret
        exact ⟨rfl, Grown.refl _⟩
      · go_enter Try.func5, Try.ntmps5
        go_wp2_with (first | (go_at_call 8; refine (known_c _).mono ?_; rintro e w' ⟨rfl, rfl⟩) | (go_at_call 9; refine (of_c _ _ _).mono ?_; rintro e w' ⟨rfl, rfl⟩) | (go_at_call 10; refine (right_c _ ‹_› _).mono ?_; rintro e w' ⟨rfl, rfl⟩) | (go_at_call 14; refine (kind_c _ ‹_› _).mono ?_; rintro e w' ⟨rfl, rfl⟩) | (go_at_call 11; refine (at_c _ ‹_› _).mono ?_; rintro e w' ⟨rfl, rfl⟩))
        go_ret
        exact ⟨by simp; omega, Grown.refl _⟩
    · have k4 := kind_not k2
      have k6 := at_not k2
      rcases hn with c1 | ⟨c1, c2⟩ | ⟨c1, c2, c3⟩ | ⟨c1, c2, c3, c4⟩
      · go_enter Try.func5, Try.ntmps5
        go_wp2_with (first | (go_at_call 8; refine (known_c _).mono ?_; rintro e w' ⟨rfl, rfl⟩) | (go_at_call 9; refine (of_c _ _ _).mono ?_; rintro e w' ⟨rfl, rfl⟩) | (go_at_call 10; refine (right_c _ ‹_› _).mono ?_; rintro e w' ⟨rfl, rfl⟩) | (go_at_call 14; refine (kind_c _ ‹_› _).mono ?_; rintro e w' ⟨rfl, rfl⟩) | (go_at_call 11; refine (at_c _ ‹_› _).mono ?_; rintro e w' ⟨rfl, rfl⟩))
        go_ret
        exact ⟨rfl, Grown.refl _⟩
      · go_enter Try.func5, Try.ntmps5
        go_wp2_with (first | (go_at_call 8; refine (known_c _).mono ?_; rintro e w' ⟨rfl, rfl⟩) | (go_at_call 9; refine (of_c _ _ _).mono ?_; rintro e w' ⟨rfl, rfl⟩) | (go_at_call 10; refine (right_c _ ‹_› _).mono ?_; rintro e w' ⟨rfl, rfl⟩) | (go_at_call 14; refine (kind_c _ ‹_› _).mono ?_; rintro e w' ⟨rfl, rfl⟩) | (go_at_call 11; refine (at_c _ ‹_› _).mono ?_; rintro e w' ⟨rfl, rfl⟩))
        go_ret
        exact ⟨rfl, Grown.refl _⟩
      · go_enter Try.func5, Try.ntmps5
        go_wp2_with (first | (go_at_call 8; refine (known_c _).mono ?_; rintro e w' ⟨rfl, rfl⟩) | (go_at_call 9; refine (of_c _ _ _).mono ?_; rintro e w' ⟨rfl, rfl⟩) | (go_at_call 10; refine (right_c _ ‹_› _).mono ?_; rintro e w' ⟨rfl, rfl⟩) | (go_at_call 14; refine (kind_c _ ‹_› _).mono ?_; rintro e w' ⟨rfl, rfl⟩) | (go_at_call 11; refine (at_c _ ‹_› _).mono ?_; rintro e w' ⟨rfl, rfl⟩))
        go_ret
        exact ⟨rfl, Grown.refl _⟩
      · go_enter Try.func5, Try.ntmps5
        go_wp2_with (first | (go_at_call 8; refine (known_c _).mono ?_; rintro e w' ⟨rfl, rfl⟩) | (go_at_call 9; refine (of_c _ _ _).mono ?_; rintro e w' ⟨rfl, rfl⟩) | (go_at_call 10; refine (right_c _ ‹_› _).mono ?_; rintro e w' ⟨rfl, rfl⟩) | (go_at_call 14; refine (kind_c _ ‹_› _).mono ?_; rintro e w' ⟨rfl, rfl⟩) | (go_at_call 11; refine (at_c _ ‹_› _).mono ?_; rintro e w' ⟨rfl, rfl⟩))
        go_ret
        exact ⟨by simp; omega, Grown.refl _⟩

/-! ### THE ROW's STEP: WRITTEN OUT: LEAVE IT -/
set_option maxRecDepth 100000 in
theorem lifted (os : Os) (started : os.Started) (H : Type) (enc : TypeId × Value → H) :
    ReturnsInHanded {} Try.checked os 5 .any (Rows.refBackSpec.pre6 enc Try.prog Try.f5 Rows.refBackRow.domain false) (Rows.refBackSpec.post enc Try.prog Try.f5 false true false false) := by
  refine returnsInHanded_of_change (C := Try.checked) own started (by kernel_rfl) Try.func5
    (ChangeSpec.witness6 (enc := enc) (C := Try.checked) false ⟨#[], #[.int .i64 0, .int .i64 0, .int .i64 0], []⟩ 8 (by kernel_rfl) (by kernel_rfl) (by kernel_rfl) (by kernel_rfl)) ?_
  intro W base args ds gs before hval0 hW hcnd _
  have hval : ∀ (j : Nat) t v, Try.f5.params[j]? = some t → args[j]? = some v → Value.okWide Try.prog W .any base t v := hval0
  have hW' := hW
  obtain ⟨p, q, hA0, hV, rfl, hfz, hnd⟩ := hW
  have hA : DataW.TrodAll enc Try.prog W 0 (fun _ => true) true Try.f5.params.toList args.toList ds p := hA0
  rw [Try.params5] at hA hval
  obtain ⟨v0, vs0, d0, ds0, p0, q0, hargs, rfl, rfl, h0, r0⟩ := trodAll_cons hA
  obtain ⟨v1, vs1, d1, ds1, p1, q1, rfl, rfl, rfl, h1, r1⟩ := trodAll_cons r0
  obtain ⟨v2, vs2, d2, ds2, p2, q2, rfl, rfl, rfl, h2, r2⟩ := trodAll_cons r1
  obtain ⟨rfl, rfl, rfl⟩ := trodAll_nil r2
  obtain rfl : args = #[v0, v1, v2] := by cases args; simp_all
  obtain ⟨rfl, rfl⟩ := trodVars_none hV
  obtain ⟨a0, rfl, rfl, rfl, w0⟩ := open_int Try.underlying3 (hval 0 3 v0 rfl rfl) h0
  obtain ⟨a1, rfl, rfl, rfl, w1⟩ := open_int Try.underlying3 (hval 1 3 v1 rfl rfl) h1
  obtain ⟨a2, rfl, rfl, rfl, w2⟩ := open_int Try.underlying2 (hval 2 2 v2 rfl rfl) h2
  clear hA0 hval0
  simp only [List.append_nil] at hW'
  refine (walk a0 a1 a2 w0 w1 w2 W).mono fun e W' ⟨he, hg⟩ => ?_
  subst he
  exact ⟨_, rfl, post_of_same (pa := []) (pv := []) hW' (fun _ _ _ => (trodAll_cons_mk (shut_bool Try.underlying4 _) trodAll_mk0)) (fun sp _ => (trodAll_cons_mk (shut_int Try.underlying3 w0) (trodAll_cons_mk (shut_int Try.underlying3 w1) (trodAll_cons_mk (shut_int Try.underlying2 w2) trodAll_mk0)))) (fun _ _ => rfl) rfl
    (hg.frame _) hg.2.1 (ok_one (by kernel_rfl) rfl (okWide_bool_mk Try.underlying4 _))⟩

theorem over : Rows.refBackRow.holds Try.pinned (OpenSpec.ofChange Rows.refBackSpec) :=
  OpenClaim.holds_of_wide 5 Try.f5 rfl rfl rfl rfl rfl rfl rfl ⟨rfl, rfl, rfl, rfl, rfl⟩ rfl rfl rfl rfl rfl (by kernel_rfl) Try.func5 (by kernel_rfl)
    (of_decide_eq_true (by kernel_rfl)) (by unfold Func.isWrapper; first | (rw [if_pos (by decide +kernel)]; kernel_rfl) | (rw [if_neg (by decide +kernel)]; exact ⟨rfl, rfl⟩))
    (fun os started H enc _ => lifted os started H enc)

/-- ████ THE STATEMENT ████ -/
theorem proved : Rows.RefBackSaid :=
  over
#print axioms proved
end Go.Proofs.Ytokhlbjkbofikaa.refBack
