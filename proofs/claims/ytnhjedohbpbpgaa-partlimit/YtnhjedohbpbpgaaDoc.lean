/-
  What the document's From, Depth and Cells answer, each in one sentence (a contract), for every number that may be handed to them; no world is turned.
-/
import Derived.Test.YtnhjedohbpbpgaaDeep
namespace Go.Proofs.Ytnhjedohbpbpgaa
open Go.ChangeShapes Go.WideShapes Go.ChangeAt Go.RowKit

theorem from_r (n i : Int) (hn : (Lit.int .i64 n).wf = true) (w : World) :
    Calls Try.prog 21 #[.int .i64 n, .int .i64 i] w fun e w' => e = .returned (.int .i64 (fromZ n i)) ∧ w = w' := by
  have hd := deg_r n hn
  have d := deg_nat n
  by_cases c : i < 0
  · rw [from_none (by omega)]
    clear hn hd d
    go_enter Try.func21, Try.ntmps21
    go_wp2
    go_ret
    exact ⟨rfl, rfl⟩
  · by_cases c0 : degZ n ≤ i
    · rw [from_none (by omega)]
      generalize degZ n = z at *
      clear hn
      go_enter Try.func21, Try.ntmps21
      go_wp2_with (go_at_call 18; refine (hd _).mono ?_; rintro e w' ⟨rfl, rfl⟩)
      go_ret
      exact ⟨rfl, rfl⟩
    · rw [from_some (by omega) (by omega)]
      obtain ⟨z, ez⟩ : ∃ z, degZ n = z := ⟨_, rfl⟩
      have HZ := hide ez
      rw [ez] at hd d c0
      obtain ⟨r, er⟩ : ∃ r, aheadZ n i = r := ⟨_, rfl⟩
      have HR := hide er
      rw [er]
      have hn2 := hide hn
      clear hn ez er
      go_enter Try.func21, Try.ntmps21
      go_wp2_with (go_at_call 18; refine (hd _).mono ?_; rintro e w' ⟨rfl, rfl⟩)
      go_loop [5, 6] (fun a k => ∃ x y : Int, Hid (aheadZ n y = x) ∧ 0 ≤ y ∧ y ≤ i ∧ a = .int .i64 x ∧ k = .int .i64 y) (fun _ k => (i - intOf k).toNat)
      case atStart => exact ⟨0, 0, hide (ahead_zero (by have := HZ.out; omega)), by omega, by omega, rfl, rfl⟩
      case round =>
        obtain ⟨x, y, H, y0, y1, rfl, rfl⟩ := hrel
        by_cases f : y < i
        · have hs := size_r n y hn2.out
          have b1 := ahead_bound (n := n) (i := y) (by omega) (by have := HZ.out; omega) (by have := HZ.out; omega)
          have b2 := ahead_bound (n := n) (i := y + 1) (by omega) (by have := HZ.out; omega) (by have := HZ.out; omega)
          have st := ahead_step (n := n) (i := y) (by omega) (by have := HZ.out; omega)
          rw [H.out] at b1 st
          rw [st] at b2
          generalize sizeZ n y = s at *
          have x0 := b1.2.2
          have x1 := b2.2.2
          have H2 := hide st
          clear b1 b2 st H HR HZ hd
          go_wp2_with (go_at_call 20; refine (hs _).mono ?_; rintro e w' ⟨rfl, rfl⟩)
          go_round
          case rel => exact ⟨x + s, y + 1, H2, by omega, by omega, rfl, rfl⟩
          case measure => simp [intOf]; omega
        · obtain rfl : y = i := by omega
          have e : x = r := by rw [← H.out, HR.out]
          subst e
          clear H HR HZ hd
          go_wp2
          go_ret
          exact ⟨rfl, rfl⟩

theorem depth_rf (f : Nat) : ∀ (n : Int), n.toNat ≤ f → (Lit.int .i64 n).wf = true → ∀ (w : World),
    Calls Try.prog 22 #[.int .i64 n] w fun e w' => e = .returned (.int .i64 (depZ n)) ∧ w = w' := by
  induction f with
  | zero =>
    intro n hf hn w
    have hd := deg_r n hn
    rw [deg_none (by omega)] at hd
    rw [dep_none (by omega)]
    clear hn
    go_enter Try.func22, Try.ntmps22
    go_wp2
    refine wp_loop_rounds 1 ?_
    rw [rounds_succ]
    go_wp2_with (go_at_call 18; refine (hd _).mono ?_; rintro e w' ⟨rfl, rfl⟩)
    go_ret
    exact ⟨rfl, rfl⟩
  | succ f ih =>
    intro n hf hn w
    have hd := deg_r n hn
    have d := deg_nat n
    obtain ⟨z, ez⟩ : ∃ z, degZ n = z := ⟨_, rfl⟩
    have HZ := hide ez
    rw [ez] at hd d
    obtain ⟨r, er⟩ : ∃ r, depZ n = r := ⟨_, rfl⟩
    have HR := hide er
    rw [er]
    have hn2 := hide hn
    have ih2 := hide ih
    clear hn ez er ih
    go_enter Try.func22, Try.ntmps22
    go_wp2
    go_loop [3, 4] (fun a k => ∃ x y : Int, Hid ((y = 0 ∧ x = 0) ∨ (0 < y ∧ x = 1 + mxZ n y)) ∧ 0 ≤ y ∧ y ≤ z ∧ a = .int .i64 x ∧ k = .int .i64 y) (fun _ k => (z - intOf k).toNat)
    case atStart => exact ⟨0, 0, hide (Or.inl ⟨rfl, rfl⟩), by omega, by omega, rfl, rfl⟩
    case round =>
      obtain ⟨x, y, H, y0, y1, rfl, rfl⟩ := hrel
      by_cases g : y < z
      · have hs := size_r n y hn2.out
        have sb := size_bound (n := n) (i := y) y0 (by have := HZ.out; omega)
        have dp := deg_pos (n := n) (by have := HZ.out; omega)
        have hi := ih2.out (sizeZ n y) (by omega) (wf_int (by omega) (by omega))
        have db := dep_nat (sizeZ n y)
        have dl := dep_le (sizeZ n y)
        have mb := mx_bound n y
        have st := mx_step (n := n) (i := y) y0 (by have := HZ.out; omega)
        have mz : mxZ n 0 = 0 := mx_zero n
        have xb : 0 ≤ x ∧ x ≤ 16385 := by rcases H.out with ⟨_, h⟩ | ⟨_, h⟩ <;> omega
        have H2 := hide (show (y + 1 = 0 ∧ max x (1 + depZ (sizeZ n y)) = 0) ∨ (0 < y + 1 ∧ max x (1 + depZ (sizeZ n y)) = 1 + mxZ n (y + 1)) from by
          right
          refine ⟨by omega, ?_⟩
          rw [st]
          rcases H.out with ⟨h1, h⟩ | ⟨_, h⟩
          · have m0 : mxZ n y = 0 := by rw [h1]; exact mz
            omega
          · omega)
        clear st mz mb H HR HZ ih2
        generalize depZ (sizeZ n y) = u at *
        generalize sizeZ n y = s at *
        go_wp2_with fail
        refine (hd _).mono ?_
        rintro e w' ⟨rfl, rfl⟩
        go_wp2_with fail
        refine (hs _).mono ?_
        rintro e w' ⟨rfl, rfl⟩
        go_wp2_with fail
        refine (hi _).mono ?_
        rintro e w' ⟨rfl, rfl⟩
        go_wp2
        go_round
        case rel => exact ⟨max x (1 + u), y + 1, H2, by omega, by omega, rfl, rfl⟩
        case measure => simp [intOf]; omega
      · obtain rfl : y = z := by omega
        have e : x = r := by
          rw [← HR.out]
          rcases H.out with ⟨h1, h⟩ | ⟨h1, h⟩
          · rw [dep_eq, if_pos (by rw [HZ.out, h1]), h]
          · rw [dep_mx (by rw [HZ.out]; exact h1), HZ.out, h]
        subst e
        clear H HR HZ ih2
        go_wp2_with (go_at_call 18; refine (hd _).mono ?_; rintro e w' ⟨rfl, rfl⟩)
        go_ret
        exact ⟨rfl, rfl⟩
theorem depth_r (n : Int) (hn : (Lit.int .i64 n).wf = true) (w : World) :
    Calls Try.prog 22 #[.int .i64 n] w fun e w' => e = .returned (.int .i64 (depZ n)) ∧ w = w' := depth_rf n.toNat n (Nat.le_refl _) hn w

theorem cells_rf (f : Nat) : ∀ (n : Int), n.toNat ≤ f → (Lit.int .i64 n).wf = true → ∀ (w : World),
    Calls Try.prog 23 #[.int .i64 n] w fun e w' => e = .returned (.int .i64 (celZ n)) ∧ w = w' := by
  induction f with
  | zero =>
    intro n hf hn w
    have hn' := bounds_i64 hn
    clear hn
    by_cases c : n < 0
    · rw [cel_none (by omega)]
      go_enter Try.func23, Try.ntmps23
      go_wp2
      go_ret
      exact ⟨rfl, rfl⟩
    · obtain rfl : n = 0 := by omega
      rw [cel_is_0]
      go_enter Try.func23, Try.ntmps23
      go_wp2
      go_ret
      exact ⟨rfl, rfl⟩
  | succ f ih =>
    intro n hf hn w
    have hn' := bounds_i64 hn
    by_cases c : n < 0
    · rw [cel_none (by omega)]
      clear hn ih
      go_enter Try.func23, Try.ntmps23
      go_wp2
      go_ret
      exact ⟨rfl, rfl⟩
    · by_cases c1 : 16384 < n
      · rw [cel_none (by omega)]
        clear hn ih
        go_enter Try.func23, Try.ntmps23
        go_wp2
        go_ret
        exact ⟨rfl, rfl⟩
      · by_cases c2 : n < 2
        · rw [cel_few (by omega) c2]
          clear hn ih
          go_enter Try.func23, Try.ntmps23
          go_wp2
          go_ret
          exact ⟨rfl, rfl⟩
        · have hd := deg_r n hn
          have d := deg_bound (n := n) (by omega) (by omega)
          have HE := hide (cs_end (n := n) (by omega))
          obtain ⟨z, ez⟩ : ∃ z, degZ n = z := ⟨_, rfl⟩
          have HZ := hide ez
          rw [ez] at hd d HE
          obtain ⟨r, er⟩ : ∃ r, celZ n = r := ⟨_, rfl⟩
          rw [er] at HE ⊢
          have hn2 := hide hn
          have ih2 := hide ih
          clear hn ez er ih
          go_enter Try.func23, Try.ntmps23
          go_wp2_with (go_at_call 18; refine (hd _).mono ?_; rintro e w' ⟨rfl, rfl⟩)
          go_loop [3, 4] (fun a k => ∃ x y : Int, Hid (4 + z * 2 + csZ n y = x) ∧ 0 ≤ y ∧ y ≤ z ∧ a = .int .i64 x ∧ k = .int .i64 y) (fun _ k => (z - intOf k).toNat)
          case atStart => exact ⟨4 + 2 * z, 0, hide (by rw [cs_zero (by have := HZ.out; omega)]; omega), by omega, by omega, rfl, rfl⟩
          case round =>
            obtain ⟨x, y, H, y0, y1, rfl, rfl⟩ := hrel
            by_cases g : y < z
            · have hs := size_r n y hn2.out
              have sb := size_bound (n := n) (i := y) y0 (by have := HZ.out; omega)
              have hi := ih2.out (sizeZ n y) (by omega) (wf_int (by omega) (by omega))
              have cb := cel_nat (sizeZ n y)
              have nb := cs_nat (n := n) (i := y) (by have := HZ.out; omega) y0 (by have := HZ.out; omega)
              have st := cs_step (n := n) (i := y) y0 (by have := HZ.out; omega)
              have xb : 0 ≤ x ∧ x ≤ 100000000 := by have := H.out; omega
              have H2 := hide (show 4 + z * 2 + csZ n (y + 1) = x + celZ (sizeZ n y) by rw [st]; have := H.out; omega)
              clear st nb H HE HZ ih2
              generalize celZ (sizeZ n y) = u at *
              generalize sizeZ n y = s at *
              go_wp2_with fail
              refine (hd _).mono ?_
              rintro e w' ⟨rfl, rfl⟩
              go_wp2_with fail
              refine (hs _).mono ?_
              rintro e w' ⟨rfl, rfl⟩
              go_wp2_with fail
              refine (hi _).mono ?_
              rintro e w' ⟨rfl, rfl⟩
              go_wp2
              go_round
              case rel => exact ⟨x + u, y + 1, H2, by omega, by omega, rfl, rfl⟩
              case measure => simp [intOf]; omega
            · obtain rfl : y = z := by omega
              have e : x = r := by rw [← H.out, HE.out]
              subst e
              clear H HE HZ ih2
              go_wp2_with (go_at_call 18; refine (hd _).mono ?_; rintro e w' ⟨rfl, rfl⟩)
              go_ret
              exact ⟨rfl, rfl⟩
theorem cells_r (n : Int) (hn : (Lit.int .i64 n).wf = true) (w : World) :
    Calls Try.prog 23 #[.int .i64 n] w fun e w' => e = .returned (.int .i64 (celZ n)) ∧ w = w' := cells_rf n.toNat n (Nat.le_refl _) hn w
end Go.Proofs.Ytnhjedohbpbpgaa
