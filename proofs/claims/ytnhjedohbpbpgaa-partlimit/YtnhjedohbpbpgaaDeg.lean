/-
  What part.may, part.Degree, part.isPart, part.Limit and the document's Degree, Limit and Size answer, each in one sentence (a contract), for every number that may be handed to them.
-/
import Derived.Test.YtnhjedohbpbpgaaCon
import Derived.Test.YtnhjedohbpbpgaaShal
namespace Go.Proofs.Ytnhjedohbpbpgaa
open Go.ChangeShapes Go.WideShapes Go.ChangeAt Go.RowKit

theorem may_yes (n : Int) (h : 0 ≤ n) (h' : n ≤ 16384) (w : World) :
    Calls Try.prog 26 #[.int .i64 n] w fun e w' => e = .returned (.bool true) ∧ w = w' := by
  go_enter Try.func26, Try.ntmps26
  go_wp2
  go_ret
  exact ⟨rfl, rfl⟩
theorem may_no (n : Int) (h : n < 0 ∨ 16384 < n) (w : World) :
    Calls Try.prog 26 #[.int .i64 n] w fun e w' => e = .returned (.bool false) ∧ w = w' := by
  rcases h with h | h
  · go_enter Try.func26, Try.ntmps26
    go_wp2
    go_ret
    exact ⟨rfl, rfl⟩
  · go_enter Try.func26, Try.ntmps26
    go_wp2
    go_ret
    exact ⟨congrArg (fun b => Ending.returned (.bool b)) (decide_eq_false (by omega)), rfl⟩

theorem deg_c (n : Int) (hn : (Lit.int .i64 n).wf = true) (w : World) :
    Calls Try.prog 11 #[.int .i64 n] w fun e w' => e = .returned (.int .i64 (degZ n)) ∧ w = w' := by
  have hn' := bounds_i64 hn
  by_cases c : n < 0 ∨ 16384 < n
  · have hc := may_no n c
    rw [deg_none (by omega)]
    clear hn
    go_enter Try.func11, Try.ntmps11
    go_wp2_with (go_at_call 26; refine (hc _).mono ?_; rintro e w' ⟨rfl, rfl⟩)
    go_ret
    exact ⟨rfl, rfl⟩
  · have hc := may_yes n (by omega) (by omega)
    by_cases c2 : n < 2
    · rw [deg_none (by omega)]
      clear hn
      go_enter Try.func11, Try.ntmps11
      go_wp2_with (go_at_call 26; refine (hc _).mono ?_; rintro e w' ⟨rfl, rfl⟩)
      go_ret
      exact ⟨rfl, rfl⟩
    · have hr := root_c n hn
      have b := root_bound (n := n) (by omega) (by omega)
      rw [deg_some (by omega) (by omega)]
      obtain ⟨r, er⟩ : ∃ r, rootZ n = r := ⟨_, rfl⟩
      rw [er] at hr b ⊢
      clear hn er
      go_enter Try.func11, Try.ntmps11
      go_wp2_with (first | (go_at_call 26; refine (hc _).mono ?_; rintro e w' ⟨rfl, rfl⟩) | (go_at_call 24; refine (hr _).mono ?_; rintro e w' ⟨rfl, rfl⟩))
      go_ret
      exact ⟨rfl, rfl⟩

theorem deg_r (n : Int) (hn : (Lit.int .i64 n).wf = true) (w : World) :
    Calls Try.prog 18 #[.int .i64 n] w fun e w' => e = .returned (.int .i64 (degZ n)) ∧ w = w' := by
  have hn' := bounds_i64 hn
  by_cases c : n < 2
  · rw [deg_none (by omega)]
    clear hn
    go_enter Try.func18, Try.ntmps18
    go_wp2
    go_ret
    exact ⟨rfl, rfl⟩
  · by_cases c2 : 16384 < n
    · rw [deg_none (by omega)]
      clear hn
      go_enter Try.func18, Try.ntmps18
      go_wp2
      go_ret
      exact ⟨rfl, rfl⟩
    · have hr := root_r n hn
      have b := root_bound (n := n) (by omega) (by omega)
      rw [deg_some (by omega) (by omega)]
      obtain ⟨r, er⟩ : ∃ r, rootZ n = r := ⟨_, rfl⟩
      rw [er] at hr b ⊢
      clear hn er
      go_enter Try.func18, Try.ntmps18
      go_wp2_with (go_at_call 28; refine (hr _).mono ?_; rintro e w' ⟨rfl, rfl⟩)
      go_ret
      exact ⟨rfl, rfl⟩

theorem lim_c (n : Int) (hn : (Lit.int .i64 n).wf = true) (w : World) :
    Calls Try.prog 15 #[.int .i64 n] w fun e w' => e = .returned (.int .i64 (limZ n)) ∧ w = w' := by
  have hn' := bounds_i64 hn
  clear hn
  by_cases c : n < 0 ∨ 16384 < n
  · have hc := may_no n c
    have e : limZ n = 0 := by unfold limZ; rw [if_neg (by omega)]
    rw [e]
    clear e
    go_enter Try.func15, Try.ntmps15
    go_wp2_with (go_at_call 26; refine (hc _).mono ?_; rintro e w' ⟨rfl, rfl⟩)
    go_ret
    exact ⟨rfl, rfl⟩
  · have hc := may_yes n (by omega) (by omega)
    have e : limZ n = n / 4 + 2 := by unfold limZ; rw [if_pos (by omega)]
    rw [e]
    clear e
    go_enter Try.func15, Try.ntmps15
    go_wp2_with (go_at_call 26; refine (hc _).mono ?_; rintro e w' ⟨rfl, rfl⟩)
    go_ret
    exact ⟨rfl, rfl⟩
theorem lim_r (n : Int) (hn : (Lit.int .i64 n).wf = true) (w : World) :
    Calls Try.prog 19 #[.int .i64 n] w fun e w' => e = .returned (.int .i64 (limZ n)) ∧ w = w' := by
  have hn' := bounds_i64 hn
  clear hn
  by_cases c : n < 0
  · have e : limZ n = 0 := by unfold limZ; rw [if_neg (by omega)]
    rw [e]
    clear e
    go_enter Try.func19, Try.ntmps19
    go_wp2
    go_ret
    exact ⟨rfl, rfl⟩
  · by_cases c2 : 16384 < n
    · have e : limZ n = 0 := by unfold limZ; rw [if_neg (by omega)]
      rw [e]
      clear e
      go_enter Try.func19, Try.ntmps19
      go_wp2
      go_ret
      exact ⟨rfl, rfl⟩
    · have e : limZ n = n / 4 + 2 := by unfold limZ; rw [if_pos (by omega)]
      rw [e]
      clear e
      go_enter Try.func19, Try.ntmps19
      go_wp2
      go_ret
      exact ⟨rfl, rfl⟩

theorem part_c (n i : Int) (hn : (Lit.int .i64 n).wf = true) (w : World) :
    Calls Try.prog 27 #[.int .i64 n, .int .i64 i] w fun e w' => e = .returned (.bool (decide (0 ≤ i ∧ i < degZ n))) ∧ w = w' := by
  have hd := deg_c n hn
  have d := deg_nat n
  obtain ⟨z, ez⟩ : ∃ z, degZ n = z := ⟨_, rfl⟩
  rw [ez] at hd d ⊢
  clear hn ez
  by_cases c : i < 0
  · have e : decide (0 ≤ i ∧ i < z) = false := decide_eq_false (by omega)
    rw [e]
    clear e
    go_enter Try.func27, Try.ntmps27
    go_wp2
    go_ret
    exact ⟨rfl, rfl⟩
  · by_cases c2 : i < z
    · have e : decide (0 ≤ i ∧ i < z) = true := decide_eq_true (by omega)
      rw [e]
      clear e
      go_enter Try.func27, Try.ntmps27
      go_wp2_with (go_at_call 11; refine (hd _).mono ?_; rintro e w' ⟨rfl, rfl⟩)
      go_ret
      exact ⟨rfl, rfl⟩
    · have e : decide (0 ≤ i ∧ i < z) = false := decide_eq_false (by omega)
      rw [e]
      clear e
      go_enter Try.func27, Try.ntmps27
      go_wp2_with (go_at_call 11; refine (hd _).mono ?_; rintro e w' ⟨rfl, rfl⟩)
      go_ret
      exact ⟨congrArg (fun b => Ending.returned (.bool b)) (decide_eq_false (by omega)), rfl⟩
end Go.Proofs.Ytnhjedohbpbpgaa
