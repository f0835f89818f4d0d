/-
  PROVED HERE: for any int, 'ordinatelaw5.PartDeep' returns true: a tree is one deeper than the deepest of its parts', and has the cells of its parts' and its own. No conditions.
  (The frame was written by the guide's program proof-skeleton.mjs; the walk is mine.)
-/
import Derived.Test.YtnhjedohbpbpgaaRows
import Derived.Test.YtnhjedohbpbpgaaKn
import Derived.WalkKit
import Derived.ProofKit
import Derived.OpenShut
import Derived.ShutString
namespace Go.Proofs.Ytnhjedohbpbpgaa.partDeep
open Go.ChangeShapes Go.WideShapes Go.ChangeAt Go.RowKit
open Go.ChangeMaps (open_string shut_string)
set_option linter.unusedVariables false      -- a walk need not use every 'w<i>' (that an integer argument fits its kind)

theorem own : ownKnob Try.prog.godebug = none := by kernel_rfl

/-! ### STEP 1: THE WALK: the Go text returns true. 'Grown w w'': the world has at most new blocks (Derived/RowKit3.lean). Part the cases AHEAD of 'go_enter' where a test parts the walk; take each callee by a contract of your own. -/
set_option maxHeartbeats 4000000 in
theorem walk (a0 : Int) (w0 : (Lit.int .i64 a0).wf = true) (w : World) :
    Calls Try.prog 7 #[.int .i64 a0] w fun e w' => e = .returned (.bool true) ∧ Grown w w' := by
  have hk := cut_c a0 3000 (by omega) (by omega)
  have k0 := Int.emod_nonneg a0 (show (3000 : Int) ≠ 0 by omega)
  have k1 := Int.emod_lt_of_pos a0 (show (0 : Int) < 3000 by omega)
  generalize a0 % 3000 = x at *
  have wx : (Lit.int .i64 x).wf = true := wf_int (by omega) (by omega)
  have hd := deg_c x wx
  have hp := depth_c x wx
  have hc := cells_c x wx
  clear w0
  by_cases c : x < 2
  · rw [deg_none (Or.inl c)] at hd
    rw [dep_none (Or.inl c)] at hp
    rw [cel_few k0 c] at hc
    clear wx
    go_enter Try.func7, Try.ntmps7
    go_wp2_with fail
    refine (hk _).mono ?_
    rintro e w' ⟨rfl, rfl⟩
    go_wp2_with fail
    refine (hd _).mono ?_
    rintro e w' ⟨rfl, rfl⟩
    go_wp2_with fail
    refine (known_c _).mono ?_
    rintro e w' ⟨rfl, k2, rfl⟩
    go_wp2_with fail
    refine (hp _).mono ?_
    rintro e w' ⟨rfl, k3, rfl⟩
    go_wp2_with fail
    refine (hc _).mono ?_
    rintro e w' ⟨rfl, k4, rfl⟩
    go_wp2
    go_ret
    exact ⟨rfl, grown_drewN _ _⟩
  · have d := deg_bound (n := x) (by omega) (by omega)
    have HE := hide (cs_end (n := x) (by omega))
    have HD := hide (dep_mx (n := x) (by omega))
    obtain ⟨z, ez⟩ : ∃ z, degZ x = z := ⟨_, rfl⟩
    have HZ := hide ez
    rw [ez] at hd d HE HD
    have WX := hide wx
    have q0 : (z == 0) = false := by simp; omega
    have cb := cel_nat x
    obtain ⟨C, eC⟩ : ∃ C, celZ x = C := ⟨_, rfl⟩
    rw [eC] at hc HE cb
    obtain ⟨D, eD⟩ : ∃ D, depZ x = D := ⟨_, rfl⟩
    rw [eD] at hp HD
    clear ez wx eC eD
    go_enter Try.func7, Try.ntmps7
    go_wp2_with fail
    refine (hk _).mono ?_
    rintro e w' ⟨rfl, rfl⟩
    go_wp2_with fail
    refine (hd _).mono ?_
    rintro e w' ⟨rfl, rfl⟩
    go_wp2
    go_loopw [4, 5, 6, 7] (fun a b i _ wr => ∃ (u v y : Int) (k : Nat), Hid (4 + z * 2 + csZ x y = u) ∧ Hid (mxZ x y = v) ∧ 0 ≤ y ∧ y ≤ z ∧ a = .int .i64 u ∧ b = .int .i64 v ∧ i = .int .i64 y ∧ wr = w.drewN k) (fun _ _ i _ _ => (z - intOf i).toNat)
    case atStart => exact ⟨2 * z + 4, 0, 0, 0, hide (by rw [cs_zero (by have := HZ.out; omega)]; omega), hide (mx_zero x), by omega, by omega, rfl, rfl, rfl, rfl⟩
    case round =>
      obtain ⟨u, v, y, k, H, HM, y0, y1, rfl, rfl, rfl, rfl⟩ := hrel
      by_cases g : y < z
      · have sb := size_bound (n := x) (i := y) y0 (by have := HZ.out; omega)
        have s1 := size_c x y WX.out
        have s2 := cells_c (sizeZ x y) (wf_int (by omega) (by omega))
        have s3 := depth_c (sizeZ x y) (wf_int (by omega) (by omega))
        have c1 := cel_nat (sizeZ x y)
        have c2 := dep_nat (sizeZ x y)
        have nb := cs_nat (n := x) (i := y) (by have := HZ.out; omega) y0 (by have := HZ.out; omega)
        have mb := mx_bound x y
        have st := cs_step (n := x) (i := y) y0 (by have := HZ.out; omega)
        have mt := mx_step (n := x) (i := y) y0 (by have := HZ.out; omega)
        have ub : 0 ≤ u ∧ u ≤ 100000000 := by have := H.out; omega
        rw [HM.out] at mb mt
        have H2 := hide (show 4 + z * 2 + csZ x (y + 1) = u + celZ (sizeZ x y) by rw [st]; have := H.out; omega)
        have H3 := hide mt
        clear nb st mt H HM HZ WX HE HD hd hk hp hc
        generalize celZ (sizeZ x y) = A at *
        generalize depZ (sizeZ x y) = B at *
        generalize sizeZ x y = s at *
        go_wp2_with fail
        refine (s1 _).mono ?_
        rintro e w' ⟨rfl, k1, rfl⟩
        go_wp2_with fail
        refine (s2 _).mono ?_
        rintro e w' ⟨rfl, k2, rfl⟩
        go_wp2_with fail
        refine (s3 _).mono ?_
        rintro e w' ⟨rfl, k3, rfl⟩
        go_wp2
        go_roundw
        case rel => exact ⟨u + A, max v B, y + 1, _, H2, H3, by omega, by omega, rfl, rfl, rfl, rfl⟩
        case measure => simp [intOf]; omega
      · obtain rfl : y = z := by omega
        have e : u = C := by rw [← H.out, HE.out]
        subst e
        have mb := mx_bound x y
        rw [HM.out] at mb
        have e2 : D = 1 + v := by rw [← HM.out, HD.out]
        subst e2
        clear H HM HZ WX HE HD hk hd
        go_wp2_with fail
        refine (known_c _).mono ?_
        rintro e w' ⟨rfl, k2, rfl⟩
        go_wp2_with fail
        refine (hp _).mono ?_
        rintro e w' ⟨rfl, k3, rfl⟩
        go_wp2_with fail
        refine (hc _).mono ?_
        rintro e w' ⟨rfl, k4, rfl⟩
        go_wp2
        go_ret
        exact ⟨rfl, grown_drewN _ _⟩

/-! ### THE ROW's STEP: WRITTEN OUT: LEAVE IT -/
set_option maxRecDepth 100000 in
theorem lifted (os : Os) (started : os.Started) (H : Type) (enc : TypeId × Value → H) :
    ReturnsInHanded {} Try.checked os 7 .any (Rows.partDeepSpec.pre6 enc Try.prog Try.f7 Rows.partDeepRow.domain false) (Rows.partDeepSpec.post enc Try.prog Try.f7 false true false false) := by
  refine returnsInHanded_of_change (C := Try.checked) own started (by kernel_rfl) Try.func7
    (ChangeSpec.witness6 (enc := enc) (C := Try.checked) false ⟨#[], #[.int .i64 0], []⟩ 8 (by kernel_rfl) (by kernel_rfl) (by kernel_rfl) (by kernel_rfl)) ?_
  intro W base args ds gs before hval0 hW hcnd _
  have hval : ∀ (j : Nat) t v, Try.f7.params[j]? = some t → args[j]? = some v → Value.okWide Try.prog W .any base t v := hval0
  have hW' := hW
  obtain ⟨p, q, hA0, hV, rfl, hfz, hnd⟩ := hW
  have hA : DataW.TrodAll enc Try.prog W 0 (fun _ => true) true Try.f7.params.toList args.toList ds p := hA0
  rw [Try.params7] at hA hval
  obtain ⟨v0, vs0, d0, ds0, p0, q0, hargs, rfl, rfl, h0, r0⟩ := trodAll_cons hA
  obtain ⟨rfl, rfl, rfl⟩ := trodAll_nil r0
  obtain rfl : args = #[v0] := by cases args; simp_all
  obtain ⟨rfl, rfl⟩ := trodVars_none hV
  obtain ⟨a0, rfl, rfl, rfl, w0⟩ := open_int Try.underlying3 (hval 0 3 v0 rfl rfl) h0
  clear hA0 hval0
  simp only [List.append_nil] at hW'
  refine (walk a0 w0 W).mono fun e W' ⟨he, hg⟩ => ?_
  subst he
  exact ⟨_, rfl, post_of_same (pa := []) (pv := []) hW' (fun _ _ _ => (trodAll_cons_mk (shut_bool Try.underlying4 _) trodAll_mk0)) (fun sp _ => (trodAll_cons_mk (shut_int Try.underlying3 w0) trodAll_mk0)) (fun _ _ => rfl) rfl
    (hg.frame _) hg.2.1 (ok_one (by kernel_rfl) rfl (okWide_bool_mk Try.underlying4 _))⟩

theorem over : Rows.partDeepRow.holds Try.pinned (OpenSpec.ofChange Rows.partDeepSpec) :=
  OpenClaim.holds_of_wide 7 Try.f7 rfl rfl rfl rfl rfl rfl rfl ⟨rfl, rfl, rfl, rfl, rfl⟩ rfl rfl rfl rfl rfl (by kernel_rfl) Try.func7 (by kernel_rfl)
    (of_decide_eq_true (by kernel_rfl)) (by unfold Func.isWrapper; first | (rw [if_pos (by decide +kernel)]; kernel_rfl) | (rw [if_neg (by decide +kernel)]; exact ⟨rfl, rfl⟩))
    (fun os started H enc _ => lifted os started H enc)

/-- ████ THE STATEMENT ████ -/
theorem proved : Rows.PartDeepSaid :=
  over
#print axioms proved
end Go.Proofs.Ytnhjedohbpbpgaa.partDeep
