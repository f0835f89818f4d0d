/-
  What ordinateref1's Floor and Ceiling answer, of pairs that are read and rise: as the lists' own floor and ceil; nothing that lay is turned.
-/
import Derived.Test.YtfckphcbleodbaaRefC
namespace Go.Proofs.Ytfckphcbleodbaa
open Go.RowKit Go.Shelf

/-- A pair and a word, as these answer. -/
abbrev pairOf (o : Option (Int × Int)) : Value := .tuple #[.agg #[.int .i64 (o.getD (0, 0)).1, .int .i64 (o.getD (0, 0)).2], .bool o.isSome]

set_option maxRecDepth 100000 in
theorem refCeil_c (w : World) (a : Option Addr) (xs : List (Int × Int)) (cap : Nat) (k : Int) (hr : PReads w a xs) (hc : xs.length ≤ cap) (hl : xs.length ≤ 5000) :
    Calls Try.prog 24 #[.slice a xs.length cap, .int .i64 k] w fun e w' => e = .returned (pairOf (ceil ltI xs k)) ∧ Kept w w' := by
  have ka : Kept w (w.alloc (.cells #[.int .i64 0, .int .i64 0] 45)) := Turned.alloc _ _ _
  have HP := Lib.hid (place_c _ a xs cap k (hr.kept ka) hc hl)
  have hce := ceil_place xs k
  have hpl := place_le xs k
  obtain ⟨n, hn⟩ : ∃ n, place xs k = n := ⟨_, rfl⟩
  rw [hn] at HP hce hpl
  cases hp : xs[n]? with
  | none =>
    rw [hp] at hce
    have HC := Lib.hid hce
    rw [List.getElem?_eq_none_iff] at hp
    have he : ((n : Int) == (xs.length : Int)) = true := by simp only [beq_iff_eq]; omega
    clear hr hce hn hp
    go_enter Try.func24, Try.ntmps24
    go_wp2_with (fail)
    refine HP.out.mono ?_
    rintro e w' ⟨rfl, rfl⟩
    go_wp2
    refine bodyPost_ret (v := .tuple #[.agg #[.int .i64 0, .int .i64 0], .bool false]) (by simp [results, Try.f24, go_sem]) rfl ?_
    exact ⟨by rw [HC.out]; rfl, Turned.alloc _ _ _⟩
  | some p =>
    obtain ⟨x, xv⟩ := p
    rw [hp] at hce
    have HC := Lib.hid hce
    obtain ⟨bl, rfl, _, g1, g2⟩ := (hr.kept ka).at hp
    have hlt := (List.getElem?_eq_some_iff.1 hp).1
    simp only at g1 g2
    have he : ((n : Int) == (xs.length : Int)) = false := by simp only [beq_eq_false_iff_ne, ne_eq]; omega
    have i3 : n < cap := by omega
    clear hr hce hn hp
    go_enter Try.func24, Try.ntmps24
    go_wp2_with (fail)
    refine HP.out.mono ?_
    rintro e w' ⟨rfl, rfl⟩
    go_wp2
    refine bodyPost_ret (v := .tuple #[.agg #[.int .i64 x, .int .i64 xv], .bool true]) (by simp [results, Try.f24, go_sem]) rfl ?_
    exact ⟨by rw [HC.out]; rfl, Turned.alloc _ _ _⟩

set_option maxRecDepth 100000 in
set_option maxHeartbeats 1000000 in
theorem refFloor_c (w : World) (a : Option Addr) (xs : List (Int × Int)) (cap : Nat) (k : Int) (hr : PReads w a xs) (hc : xs.length ≤ cap) (hl : xs.length ≤ 5000) (ha : Asc ltI xs) :
    Calls Try.prog 23 #[.slice a xs.length cap, .int .i64 k] w fun e w' => e = .returned (pairOf (floor ltI xs k)) ∧ Kept w w' := by
  have ka : Kept w (w.alloc (.cells #[.int .i64 0, .int .i64 0] 45)) := Turned.alloc _ _ _
  have HP := Lib.hid (place_c _ a xs cap k (hr.kept ka) hc hl)
  have hfl := floor_place k ha
  have hpl := place_le xs k
  clear ha
  cases hh : hit xs k with
  | true =>
    obtain ⟨v, hv, hlt⟩ := hit_true hh
    rw [hh, if_pos rfl, hv] at hfl
    have HC := Lib.hid hfl
    obtain ⟨bl, rfl, _, g1, g2⟩ := (hr.kept ka).at hv
    simp only at g1 g2
    obtain ⟨n, hn⟩ : ∃ n, place xs k = n := ⟨_, rfl⟩
    rw [hn] at HP g1 g2 hlt hpl
    have i3 : n < cap := by omega
    clear hr hfl hv hh hn
    go_enter Try.func23, Try.ntmps23
    go_wp2_with (fail)
    refine HP.out.mono ?_
    rintro e w' ⟨rfl, rfl⟩
    go_wp2
    refine bodyPost_ret (v := .tuple #[.agg #[.int .i64 k, .int .i64 v], .bool true]) (by simp [results, Try.f23, go_sem]) rfl ?_
    exact ⟨by rw [HC.out]; rfl, Turned.alloc _ _ _⟩
  | false =>
    rw [hh, if_neg (by simp)] at hfl
    rcases hit_false hh with he | ⟨x, xv, hat, hlt, hne⟩
    · obtain ⟨n, hn⟩ : ∃ n, place xs k = n := ⟨_, rfl⟩
      rw [hn] at HP hfl hpl he
      have he' : xs.length ≤ n := by omega
      clear he
      by_cases h0 : n = 0
      · subst h0
        rw [if_pos rfl] at hfl
        have HC := Lib.hid hfl
        clear hr hfl hn hh 
        go_enter Try.func23, Try.ntmps23
        go_wp2_with (fail)
        refine HP.out.mono ?_
        rintro e w' ⟨rfl, rfl⟩
        go_wp2
        refine bodyPost_ret (v := .tuple #[.agg #[.int .i64 0, .int .i64 0], .bool false]) (by simp [results, Try.f23, go_sem]) rfl ?_
        exact ⟨by rw [HC.out]; rfl, Turned.alloc _ _ _⟩
      · rw [if_neg h0] at hfl
        obtain ⟨m, hm⟩ : ∃ m, n = m + 1 := ⟨n - 1, by omega⟩
        subst hm
        simp only [Nat.add_sub_cancel] at hfl
        obtain ⟨⟨y, yv⟩, hq⟩ : ∃ p, xs[m]? = some p := ⟨_, List.getElem?_eq_getElem (by omega)⟩
        rw [hq] at hfl
        have HC := Lib.hid hfl
        obtain ⟨bl2, hbe, _, g3, g4⟩ := (hr.kept ka).at hq
        obtain ⟨rfl⟩ : a = some ⟨bl2, 0, none⟩ := hbe
        simp only at g3 g4
        have n0 : (((m : Int) + 1) == 0) = false := by simp only [beq_eq_false_iff_ne, ne_eq]; omega
        have i4 : m < cap := by omega
        have i5 : m < xs.length := by omega
        have he2 : ¬ ((m : Int) + 1 < (xs.length : Int)) := by omega
        have i6 : (m : Int) + 1 ≤ 5000 := by omega
        clear hr hfl hn hh hq h0 
        go_enter Try.func23, Try.ntmps23
        go_wp2_with (fail)
        refine HP.out.mono ?_
        rintro e w' ⟨rfl, rfl⟩
        go_wp2
        refine bodyPost_ret (v := .tuple #[.agg #[.int .i64 y, .int .i64 yv], .bool true]) (by simp [results, Try.f23, go_sem]) rfl ?_
        exact ⟨by rw [HC.out]; rfl, Turned.alloc _ _ _⟩
    · obtain ⟨bl, rfl, _, g1, g2⟩ := (hr.kept ka).at hat
      simp only at g1 g2
      obtain ⟨n, hn⟩ : ∃ n, place xs k = n := ⟨_, rfl⟩
      rw [hn] at HP hfl hpl g1 g2 hlt
      have i3 : n < cap := by omega
      have hx : (x == k) = false := by simp only [beq_eq_false_iff_ne, ne_eq]; exact hne
      clear hat hne
      by_cases h0 : n = 0
      · subst h0
        rw [if_pos rfl] at hfl
        have HC := Lib.hid hfl
        clear hr hfl hn hh 
        go_enter Try.func23, Try.ntmps23
        go_wp2_with (fail)
        refine HP.out.mono ?_
        rintro e w' ⟨rfl, rfl⟩
        go_wp2
        refine bodyPost_ret (v := .tuple #[.agg #[.int .i64 0, .int .i64 0], .bool false]) (by simp [results, Try.f23, go_sem]) rfl ?_
        exact ⟨by rw [HC.out]; rfl, Turned.alloc _ _ _⟩
      · rw [if_neg h0] at hfl
        obtain ⟨m, hm⟩ : ∃ m, n = m + 1 := ⟨n - 1, by omega⟩
        subst hm
        simp only [Nat.add_sub_cancel] at hfl
        obtain ⟨⟨y, yv⟩, hq⟩ : ∃ p, xs[m]? = some p := ⟨_, List.getElem?_eq_getElem (by omega)⟩
        rw [hq] at hfl
        have HC := Lib.hid hfl
        obtain ⟨bl2, hbe, _, g3, g4⟩ := (hr.kept ka).at hq
        obtain rfl := Option.some.inj hbe |> Addr.mk.inj |>.1
        simp only at g3 g4
        have n0 : (((m : Int) + 1) == 0) = false := by simp only [beq_eq_false_iff_ne, ne_eq]; omega
        have i4 : m < cap := by omega
        have i5 : m < xs.length := by omega
        have i6 : (m : Int) + 1 ≤ 5000 := by omega
        clear hr hfl hn hh hq h0 
        go_enter Try.func23, Try.ntmps23
        go_wp2_with (fail)
        refine HP.out.mono ?_
        rintro e w' ⟨rfl, rfl⟩
        go_wp2
        refine bodyPost_ret (v := .tuple #[.agg #[.int .i64 y, .int .i64 yv], .bool true]) (by simp [results, Try.f23, go_sem]) rfl ?_
        exact ⟨by rw [HC.out]; rfl, Turned.alloc _ _ _⟩
end Go.Proofs.Ytfckphcbleodbaa
