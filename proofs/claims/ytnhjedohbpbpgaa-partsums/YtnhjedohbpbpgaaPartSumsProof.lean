/-
  PROVED HERE: for any int, 'ordinatelaw5.PartSums' returns true: the parts are as many as the degree, none empty, no two unlike by more than one, the longer ones first, and have all keys. No conditions.
  (The frame was written by the guide's program proof-skeleton.mjs; the walk is mine.)
-/
import Derived.Test.YtnhjedohbpbpgaaRows
import Derived.Test.YtnhjedohbpbpgaaKn
import Derived.Test.YtnhjedohbpbpgaaNear
import Derived.WalkKit
import Derived.ProofKit
import Derived.OpenShut
import Derived.ShutString
namespace Go.Proofs.Ytnhjedohbpbpgaa.partSums
open Go.ChangeShapes Go.WideShapes Go.ChangeAt Go.RowKit
open Go.ChangeMaps (open_string shut_string)
set_option linter.unusedVariables false      -- a walk need not use every 'w<i>' (that an integer argument fits its kind)

theorem own : ownKnob Try.prog.godebug = none := by kernel_rfl

/-! ### STEP 1: THE WALK: the Go text returns true. 'Grown w w'': the world has at most new blocks (Derived/RowKit3.lean). Part the cases AHEAD of 'go_enter' where a test parts the walk; take each callee by a contract of your own. -/
set_option maxHeartbeats 4000000 in
theorem walk (a0 : Int) (w0 : (Lit.int .i64 a0).wf = true) (w : World) :
    Calls Try.prog 5 #[.int .i64 a0] w fun e w' => e = .returned (.bool true) ∧ Grown w w' := by
  have hk := cut_c a0 16385 (by omega) (by omega)
  have k0 := Int.emod_nonneg a0 (show (16385 : Int) ≠ 0 by omega)
  have k1 := Int.emod_lt_of_pos a0 (show (0 : Int) < 16385 by omega)
  generalize a0 % 16385 = x at *
  have wx : (Lit.int .i64 x).wf = true := wf_int (by omega) (by omega)
  have hd := deg_c x wx
  clear w0
  by_cases c : x < 2
  · have hs := size_c x 0 wx
    rw [size_none (by rw [deg_none (Or.inl c)]; omega)] at hs
    rw [deg_none (Or.inl c)] at hd
    clear wx
    go_enter Try.func5, Try.ntmps5
    go_wp2_with fail
    refine (hk _).mono ?_
    rintro e w' ⟨rfl, rfl⟩
    go_wp2_with fail
    refine (hd _).mono ?_
    rintro e w' ⟨rfl, rfl⟩
    go_wp2
    refine wp_loop_rounds 1 ?_
    rw [rounds_succ]
    go_wp2_with fail
    refine (known_c _).mono ?_
    rintro e w' ⟨rfl, k2, rfl⟩
    go_wp2_with fail
    refine (hs _).mono ?_
    rintro e w' ⟨rfl, k3, rfl⟩
    go_wp2
    go_ret
    exact ⟨rfl, grown_drewN _ _⟩
  · have d := deg_bound (n := x) (by omega) (by omega)
    have hs := size_c x (degZ x) wx
    rw [size_none (by omega)] at hs
    obtain ⟨z, ez⟩ : ∃ z, degZ x = z := ⟨_, rfl⟩
    have HZ := hide ez
    rw [ez] at hd d hs
    have WX := hide wx
    have q0 : (z == 0) = false := by simp; omega
    clear ez wx
    go_enter Try.func5, Try.ntmps5
    go_wp2_with fail
    refine (hk _).mono ?_
    rintro e w' ⟨rfl, rfl⟩
    go_wp2_with fail
    refine (hd _).mono ?_
    rintro e w' ⟨rfl, rfl⟩
    go_wp2
    go_loopw [4, 5, 6] (fun a i _ wr => ∃ (u y : Int) (k : Nat), Hid (aheadZ x y = u) ∧ 0 ≤ y ∧ y ≤ z ∧ a = .int .i64 u ∧ i = .int .i64 y ∧ wr = w.drewN k) (fun _ i _ _ => (z - intOf i).toNat)
    case atStart => exact ⟨0, 0, 0, hide (ahead_zero (by have := HZ.out; omega)), by omega, by omega, rfl, rfl, rfl⟩
    case round =>
      obtain ⟨u, y, k, H, y0, y1, rfl, rfl, rfl⟩ := hrel
      by_cases g : y < z
      · have s1 := size_c x y WX.out
        have s2 := from_c x y WX.out
        have s3 := size_c x 0 WX.out
        have s4 := size_c x (y - 1) WX.out
        rw [from_some y0 (by have := HZ.out; omega), H.out] at s2
        have b1 := size_bound (n := x) (i := y) y0 (by have := HZ.out; omega)
        have b2 := size_near (n := x) (i := 0) (j := y) (by omega) y0 (by have := HZ.out; omega)
        have b3 : 0 < y → sizeZ x y ≤ sizeZ x (y - 1) := fun h => (size_near (n := x) (i := y - 1) (j := y) (by omega) (by omega) (by have := HZ.out; omega)).1
        have b4 := ahead_bound (n := x) (i := y) (by omega) (by have := HZ.out; omega) (by have := HZ.out; omega)
        have b5 := ahead_bound (n := x) (i := y + 1) (by omega) (by have := HZ.out; omega) (by have := HZ.out; omega)
        have st := ahead_step (n := x) (i := y) y0 (by have := HZ.out; omega)
        rw [H.out] at b4 st
        rw [st] at b5
        have b4' := b4.2.2
        have b5' := b5.2.2
        have H2 := hide st
        clear b4 b5 st H HZ WX hd hs hk
        generalize sizeZ x y = s at *
        generalize sizeZ x 0 = s0 at *
        generalize sizeZ x (y - 1) = sp at *
        by_cases yp : 0 < y
        · have b3' := b3 yp
          clear b3
          go_wp2_with fail
          refine (s1 _).mono ?_
          rintro e w' ⟨rfl, k1, rfl⟩
          go_wp2_with fail
          refine (s2 _).mono ?_
          rintro e w' ⟨rfl, k2, rfl⟩
          go_wp2_with fail
          refine (s3 _).mono ?_
          rintro e w' ⟨rfl, k3, rfl⟩
          go_wp2_with fail
          refine (s3 _).mono ?_
          rintro e w' ⟨rfl, k4, rfl⟩
          go_wp2_with fail
          refine (s4 _).mono ?_
          rintro e w' ⟨rfl, k5, rfl⟩
          go_wp2
          go_roundw
          case rel => exact ⟨u + s, y + 1, _, H2, by omega, by omega, rfl, rfl, rfl⟩
          case measure => simp [intOf]; omega
        · clear b3
          go_wp2_with fail
          refine (s1 _).mono ?_
          rintro e w' ⟨rfl, k1, rfl⟩
          go_wp2_with fail
          refine (s2 _).mono ?_
          rintro e w' ⟨rfl, k2, rfl⟩
          go_wp2_with fail
          refine (s3 _).mono ?_
          rintro e w' ⟨rfl, k3, rfl⟩
          go_wp2_with fail
          refine (s3 _).mono ?_
          rintro e w' ⟨rfl, k4, rfl⟩
          go_wp2
          go_roundw
          case rel => exact ⟨u + s, y + 1, _, H2, by omega, by omega, rfl, rfl, rfl⟩
          case measure => simp [intOf]; omega
      · obtain rfl : y = z := by omega
        have e : u = x := by rw [← H.out, ← HZ.out]; exact ahead_end (by have := HZ.out; omega)
        subst e
        clear H HZ WX hk hd
        go_wp2_with fail
        refine (known_c _).mono ?_
        rintro e w' ⟨rfl, k2, rfl⟩
        go_wp2_with fail
        refine (hs _).mono ?_
        rintro e w' ⟨rfl, k3, rfl⟩
        go_wp2
        go_ret
        exact ⟨congrArg (fun b => Ending.returned (.bool b)) (show (!decide (u < 2)) = true by rw [decide_eq_false (by omega)]; rfl), grown_drewN _ _⟩

/-! ### THE ROW's STEP: WRITTEN OUT: LEAVE IT -/
set_option maxRecDepth 100000 in
theorem lifted (os : Os) (started : os.Started) (H : Type) (enc : TypeId × Value → H) :
    ReturnsInHanded {} Try.checked os 5 .any (Rows.partSumsSpec.pre6 enc Try.prog Try.f5 Rows.partSumsRow.domain false) (Rows.partSumsSpec.post enc Try.prog Try.f5 false true false false) := by
  refine returnsInHanded_of_change (C := Try.checked) own started (by kernel_rfl) Try.func5
    (ChangeSpec.witness6 (enc := enc) (C := Try.checked) false ⟨#[], #[.int .i64 0], []⟩ 8 (by kernel_rfl) (by kernel_rfl) (by kernel_rfl) (by kernel_rfl)) ?_
  intro W base args ds gs before hval0 hW hcnd _
  have hval : ∀ (j : Nat) t v, Try.f5.params[j]? = some t → args[j]? = some v → Value.okWide Try.prog W .any base t v := hval0
  have hW' := hW
  obtain ⟨p, q, hA0, hV, rfl, hfz, hnd⟩ := hW
  have hA : DataW.TrodAll enc Try.prog W 0 (fun _ => true) true Try.f5.params.toList args.toList ds p := hA0
  rw [Try.params5] at hA hval
  obtain ⟨v0, vs0, d0, ds0, p0, q0, hargs, rfl, rfl, h0, r0⟩ := trodAll_cons hA
  obtain ⟨rfl, rfl, rfl⟩ := trodAll_nil r0
  obtain rfl : args = #[v0] := by cases args; simp_all
  obtain ⟨rfl, rfl⟩ := trodVars_none hV
  obtain ⟨a0, rfl, rfl, rfl, w0⟩ := open_int Try.underlying3 (hval 0 3 v0 rfl rfl) h0
  clear hA0 hval0
  simp only [List.append_nil] at hW'
  refine (walk a0 w0 W).mono fun e W' ⟨he, hg⟩ => ?_
  subst he
  exact ⟨_, rfl, post_of_same (pa := []) (pv := []) hW' (fun _ _ _ => (trodAll_cons_mk (shut_bool Try.underlying4 _) trodAll_mk0)) (fun sp _ => (trodAll_cons_mk (shut_int Try.underlying3 w0) trodAll_mk0)) (fun _ _ => rfl) rfl
    (hg.frame _) hg.2.1 (ok_one (by kernel_rfl) rfl (okWide_bool_mk Try.underlying4 _))⟩

theorem over : Rows.partSumsRow.holds Try.pinned (OpenSpec.ofChange Rows.partSumsSpec) :=
  OpenClaim.holds_of_wide 5 Try.f5 rfl rfl rfl rfl rfl rfl rfl ⟨rfl, rfl, rfl, rfl, rfl⟩ rfl rfl rfl rfl rfl (by kernel_rfl) Try.func5 (by kernel_rfl)
    (of_decide_eq_true (by kernel_rfl)) (by unfold Func.isWrapper; first | (rw [if_pos (by decide +kernel)]; kernel_rfl) | (rw [if_neg (by decide +kernel)]; exact ⟨rfl, rfl⟩))
    (fun os started H enc _ => lifted os started H enc)

/-- ████ THE STATEMENT ████ -/
theorem proved : Rows.PartSumsSaid :=
  over
#print axioms proved
end Go.Proofs.Ytnhjedohbpbpgaa.partSums
