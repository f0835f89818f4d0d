/-
  What part.Size, part.From and the document's Size answer, each in one sentence (a contract), for every number that may be handed to them; the world is turned by draws alone.
-/
import Derived.Test.YtnhjedohbpbpgaaDeg
import Derived.BigQuiet
import Derived.Deep.QuietTactic
namespace Go.Proofs.Ytnhjedohbpbpgaa
open Go.ChangeShapes Go.WideShapes Go.ChangeAt Go.RowKit

theorem deg_s (n : Int) (hn : (Lit.int .i64 n).wf = true) (w : World) :
    Calls Try.prog 11 #[.int .i64 n] w fun e w' => e = .returned (.int .i64 (degZ n)) ∧ w' = w :=
  (deg_c n hn w).mono fun _ _ ⟨a, b⟩ => ⟨a, b.symm⟩

theorem size_c (n i : Int) (hn : (Lit.int .i64 n).wf = true) (w : World) :
    Calls Try.prog 12 #[.int .i64 n, .int .i64 i] w fun e w' => e = .returned (.int .i64 (sizeZ n i)) ∧ ∃ k, w' = w.drewN k := by
  have hp := part_c n i hn
  have hd := deg_s n hn
  have d := deg_nat n
  by_cases c : 0 ≤ i ∧ i < degZ n
  · rw [decide_eq_true c] at hp
    have p := deg_pos (n := n) (by omega)
    have eb := each_bound (n := n) (by omega)
    have sp := split_eq (n := n) (by omega)
    have e1 : n / degZ n = eachZ n := rfl
    have e2 : n % degZ n = moreZ n := rfl
    by_cases c2 : i < moreZ n
    · rw [size_more c.1 c.2 c2]
      generalize eachZ n = q at *
      generalize moreZ n = m at *
      generalize degZ n = z at *
      clear sp hn
      go_enter Try.func12, Try.ntmps12
      go_wp2_with (go_at_call 27; refine (hp _).mono ?_; rintro e w' ⟨rfl, rfl⟩)
      go_quiet (first | (go_at_call 11; refine Calls.quiet_of_same (hd _)))
      go_wp2
      go_ret
      exact ⟨rfl, _, rfl⟩
    · rw [size_each c.1 c.2 (by omega)]
      generalize eachZ n = q at *
      generalize moreZ n = m at *
      generalize degZ n = z at *
      clear sp hn
      go_enter Try.func12, Try.ntmps12
      go_wp2_with (go_at_call 27; refine (hp _).mono ?_; rintro e w' ⟨rfl, rfl⟩)
      go_quiet (first | (go_at_call 11; refine Calls.quiet_of_same (hd _)))
      go_wp2
      go_ret
      exact ⟨ret_int e1, _, rfl⟩
  · rw [decide_eq_false c] at hp
    rw [size_none (by omega)]
    clear hn
    go_enter Try.func12, Try.ntmps12
    go_wp2_with (go_at_call 27; refine (hp _).mono ?_; rintro e w' ⟨rfl, rfl⟩)
    go_ret
    exact ⟨rfl, 0, rfl⟩

theorem from_c (n i : Int) (hn : (Lit.int .i64 n).wf = true) (w : World) :
    Calls Try.prog 13 #[.int .i64 n, .int .i64 i] w fun e w' => e = .returned (.int .i64 (fromZ n i)) ∧ ∃ k, w' = w.drewN k := by
  have hp := part_c n i hn
  have hd := deg_s n hn
  have d := deg_nat n
  by_cases c : 0 ≤ i ∧ i < degZ n
  · rw [decide_eq_true c] at hp
    have p := deg_pos (n := n) (by omega)
    have eb := each_bound (n := n) (by omega)
    have sp := split_eq (n := n) (by omega)
    have ab := ahead_bound (n := n) (i := i) (by omega) (by omega) (by omega)
    have e1 : n / degZ n = eachZ n := rfl
    have e2 : n % degZ n = moreZ n := rfl
    have e3 : wrap64 (i * eachZ n) = i * eachZ n := wrap_same (by omega) (by omega)
    rw [from_some c.1 c.2]
    unfold aheadZ at *
    generalize eachZ n = q at *
    generalize moreZ n = m at *
    generalize degZ n = z at *
    obtain ⟨u, hu⟩ : ∃ u, i * q = u := ⟨_, rfl⟩
    rw [hu] at ab ⊢
    have e4 : wrap64 (i * q) = u := by rw [e3, hu]
    clear sp hn e3 hu
    go_enter Try.func13, Try.ntmps13
    go_wp2_with (go_at_call 27; refine (hp _).mono ?_; rintro e w' ⟨rfl, rfl⟩)
    go_quiet (first | (go_at_call 11; refine Calls.quiet_of_same (hd _)))
    go_wp2
    go_ret
    exact ⟨rfl, _, rfl⟩
  · rw [decide_eq_false c] at hp
    rw [from_none (by omega)]
    clear hn
    go_enter Try.func13, Try.ntmps13
    go_wp2_with (go_at_call 27; refine (hp _).mono ?_; rintro e w' ⟨rfl, rfl⟩)
    go_ret
    exact ⟨rfl, 0, rfl⟩

theorem size_r (n i : Int) (hn : (Lit.int .i64 n).wf = true) (w : World) :
    Calls Try.prog 20 #[.int .i64 n, .int .i64 i] w fun e w' => e = .returned (.int .i64 (sizeZ n i)) ∧ w = w' := by
  have hd := deg_r n hn
  have d := deg_nat n
  by_cases c : i < 0
  · rw [size_none (by omega)]
    generalize degZ n = z at *
    clear hn
    go_enter Try.func20, Try.ntmps20
    go_wp2_with (go_at_call 18; refine (hd _).mono ?_; rintro e w' ⟨rfl, rfl⟩)
    go_ret
    exact ⟨rfl, rfl⟩
  · by_cases c0 : degZ n ≤ i
    · rw [size_none (by omega)]
      generalize degZ n = z at *
      clear hn
      go_enter Try.func20, Try.ntmps20
      go_wp2_with (go_at_call 18; refine (hd _).mono ?_; rintro e w' ⟨rfl, rfl⟩)
      go_ret
      exact ⟨rfl, rfl⟩
    · have p := deg_pos (n := n) (by omega)
      have eb := each_bound (n := n) (by omega)
      have sp := split_eq (n := n) (by omega)
      have e1 : n / degZ n = eachZ n := rfl
      have e2 : n % degZ n = moreZ n := rfl
      by_cases c2 : i < moreZ n
      · rw [size_more (by omega) (by omega) c2]
        generalize eachZ n = q at *
        generalize moreZ n = m at *
        generalize degZ n = z at *
        clear sp hn
        go_enter Try.func20, Try.ntmps20
        go_wp2_with (go_at_call 18; refine (hd _).mono ?_; rintro e w' ⟨rfl, rfl⟩)
        go_ret
        exact ⟨rfl, rfl⟩
      · rw [size_each (by omega) (by omega) (by omega)]
        generalize eachZ n = q at *
        generalize moreZ n = m at *
        generalize degZ n = z at *
        clear sp hn
        go_enter Try.func20, Try.ntmps20
        go_wp2_with (go_at_call 18; refine (hd _).mono ?_; rintro e w' ⟨rfl, rfl⟩)
        go_ret
        exact ⟨ret_int e1, rfl⟩
end Go.Proofs.Ytnhjedohbpbpgaa
