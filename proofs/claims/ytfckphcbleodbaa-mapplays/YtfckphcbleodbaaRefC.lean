/-
  What ordinateref1's Put and Del answer, of pairs in a slice that owns its row: new slices, of the lists' own put and del; nothing that lay is turned.
-/
import Derived.Test.YtfckphcbleodbaaRefB
namespace Go.Proofs.Ytfckphcbleodbaa
open Go.RowKit Go.Shelf

/-- A goal at which a walk stands. -/
structure Stop (G : Prop) : Prop where
  out : G
theorem preads_of_own {w : World} {n₀ g cap : Nat} {xs : List (Int × Int)} (h : w.ownsRow n₀ 45 2 (.slice (some ⟨g, 0, none⟩) xs.length cap) xs.length (flat xs)) : PReads w (some ⟨g, 0, none⟩) xs := by
  obtain ⟨a, c, e, hp, _⟩ := preads_of_row h
  cases e
  exact hp

set_option maxRecDepth 100000 in
set_option maxHeartbeats 1000000 in
theorem refPut_c (w : World) (n₀ : Nat) (v : Value) (xs : List (Int × Int)) (k u : Int) (hv : w.ownsRow n₀ 45 2 v xs.length (flat xs)) (hl : xs.length ≤ 5000) :
    Calls Try.prog 22 #[v, .int .i64 k, .int .i64 u] w (Sliced (put ltI xs k u) w) := by
  obtain ⟨y0, hi', hz0, hz1, hz2⟩ := info_parts info45
  have hpp := put_place xs k u
  have r0 := row_new w
  rcases hv.2 with ⟨rfl, h0⟩ | ⟨g, cap, cur, rfl, hg0, _, hcap, hmx, _⟩
  · obtain rfl := List.length_eq_zero_iff.1 h0
    have HP : Hid (Calls Try.prog 42 #[.slice none 0 0, .int .i64 k] w fun e w' => e = .returned (.int .i64 0) ∧ w = w') := Lib.hid (place_c w none [] 0 k (.inl rfl) (Nat.le_refl _) (by simp))
    clear hv hpp h0
    go_enter Try.func22, Try.ntmps22
    go_wp2_with (fail)
    refine HP.out.mono ?_
    rintro e w' ⟨rfl, rfl⟩
    go_wp2_with (at_builtin; refine Stop.out ?_)
    refine ⟨?_⟩
    refine wpList_append_none rfl _ _ 39 rfl w.heap.size 45 y0 2 Try.underlying39 hi' _ _ _ rfl r0 rfl ?_
    go_wp2_with (at_builtin; refine Stop.out ?_)
    refine ⟨?_⟩
    refine wpList_append_own_at _ rfl _ _ 39 rfl w.heap.size 45 y0 (.agg #[.int .i64 0, .int .i64 0]) 2 16 Try.underlying39 hi' hz0 hz1 hz2 rfl (by decide) _ _ _ rfl (r0.alloc (.cells #[.int .i64 k, .int .i64 u] 45)) ⟨w.heap.size + 1, 0, none⟩ 1 1 [.int .i64 k, .int .i64 u] rfl rfl (by have := two_newR (w.alloc (.cells #[] 45)) k u; rwa [World.size_alloc] at this) (by simp [Value.oneCell']) (by decide) (by decide) (by rw [World.size_alloc, World.size_alloc]; omega) ?_
    intro v2 w2 hown2 hg2 hni _
    clear hni
    have K2 := Lib.hid (kept_append (xs := []) (show Kept w (w.alloc (.cells #[] 45)) from Turned.alloc _ _ _) r0 hg2)
    clear hg2 r0
    go_wp2_with (at_builtin; refine Stop.out ?_)
    refine ⟨?_⟩
    refine wpList_append_none rfl _ _ 39 rfl w.heap.size 45 y0 2 Try.underlying39 hi' _ _ _ rfl hown2 rfl ?_
    go_wp2
    go_ret
    exact ⟨v2, rfl, by simpa [flat, put] using hown2, K2.out⟩
  · have hc5 : cap ≤ 9223372036854775807 := by unfold maxLen at hmx; omega
    have HP := Lib.hid (place_c w _ xs cap k (preads_of_own hv) hcap hl)
    have hpl := place_le xs k
    have HV := Lib.hid hv
    cases hh : hit xs k with
    | true =>
      obtain ⟨hv', hat, hlt⟩ := hit_true hh
      obtain ⟨_, he, _, g1, _⟩ := (preads_of_own hv).at hat
      obtain rfl := Option.some.inj he |> Addr.mk.inj |>.1
      simp only at g1
      rw [hh, if_pos rfl] at hpp
      obtain ⟨n, hn⟩ : ∃ n, place xs k = n := ⟨_, rfl⟩
      rw [hn] at HP g1 hlt hpp hpl
      have HPP := Lib.hid hpp
      have i3 : n < cap := by omega
      clear hv hpp hat hh hn he
      go_enter Try.func22, Try.ntmps22
      go_wp2_with (fail)
      refine HP.out.mono ?_
      rintro e w' ⟨rfl, rfl⟩
      have s1 := src_cells HV.out (show Kept w (w.alloc (.cells #[] 45)) from Turned.alloc _ _ _) 0 n
      simp only [Nat.zero_mul, List.drop_zero] at s1
      go_wp2_with (at_builtin; refine Stop.out ?_)
      refine ⟨?_⟩
      refine wpList_append_own_at _ rfl _ _ 39 rfl w.heap.size 45 y0 (.agg #[.int .i64 0, .int .i64 0]) 2 16 Try.underlying39 hi' hz0 hz1 hz2 rfl (by decide) _ _ _ rfl r0 ⟨g, 0, none⟩ n cap (flat (xs.take n)) rfl (by rw [flat_length, List.length_take]; congr 1; omega) s1 (flat_one _) (by simp; unfold maxLen; omega) (by simp; omega) (by simp) ?_
      intro v1 w1 hown1 hg1 hni _
      clear hni
      have K1 := Lib.hid (kept_append0 (xs := []) (show Kept w (w.alloc (.cells #[] 45)) from Turned.alloc _ _ _) r0 hg1)
      have r1 : w1.ownsRow w.heap.size 45 2 v1 (xs.take n).length (flat (xs.take n)) := (by rw [List.length_take, Nat.min_eq_left (by omega)]; simpa [flat] using hown1)
      have zz1 := K1.out.size
      have R1 := Lib.hid r1
      clear hown1 hg1 s1 r0 r1
      go_wp2_with (at_builtin; refine Stop.out ?_)
      refine ⟨?_⟩
      refine wpList_append_own_at _ rfl _ _ 39 rfl w.heap.size 45 y0 (.agg #[.int .i64 0, .int .i64 0]) 2 16 Try.underlying39 hi' hz0 hz1 hz2 rfl (by decide) _ _ _ rfl (R1.out.alloc (.cells #[.int .i64 k, .int .i64 u] 45)) ⟨w1.heap.size, 0, none⟩ 1 1 [.int .i64 k, .int .i64 u] rfl rfl (two_newR _ _ _) (by simp [Value.oneCell']) (by rw [List.length_take]; unfold maxLen; omega) (by rw [List.length_take]; omega) (by simp; omega) ?_
      intro v2 w2 hown2 hg2 hni _
      clear hni
      have K2 := Lib.hid (kept_append K1.out R1.out hg2)
      have r2 : w2.ownsRow w.heap.size 45 2 v2 (xs.take n ++ [(k, u)]).length (flat (xs.take n ++ [(k, u)])) := (by simpa [flat_append, flat] using hown2)
      have R2 := Lib.hid r2
      have s2 := src_cells HV.out K2.out (n + 1) (xs.length - (n + 1))
      have g1' := K2.out.cell g1 id
      have zz2 := K2.out.size
      clear hown2 hg2 r2 g1
      by_cases hcq : cap = n + 1
      · go_wp2_with (at_builtin; refine Stop.out ?_)
        refine ⟨?_⟩
        refine wpList_append_own_at _ rfl _ _ 39 rfl w.heap.size 45 y0 (.agg #[.int .i64 0, .int .i64 0]) 2 16 Try.underlying39 hi' hz0 hz1 hz2 rfl (by decide) _ _ _ rfl R2.out _ _ _ (flat []) rfl (by first | (simp [flat]; done) | (simp [flat]; omega)) (by simp [flat]) (flat_one _) (by simp only [List.length_append, List.length_take, List.length_singleton]; unfold maxLen; omega) (by simp only [List.length_append, List.length_take, List.length_singleton]; omega) (by omega) ?_
        intro v3 w3 hown3 hg3 hni _
        clear hni
        have KF := Lib.hid (kept_append0 K2.out R2.out hg3)
        go_wp2
        go_ret
        refine ⟨v3, rfl, ?_, KF.out⟩
        rw [HPP.out]
        have e0 : xs.drop (n + 1) = [] := List.drop_eq_nil_of_le (by omega)
        have e1 : (xs.take n ++ [(k, u)]).length + (xs.length - (n + 1)) = (xs.take n ++ [(k, u)]).length := by omega
        rw [e0]
        try rw [e1] at hown3
        simpa [flat] using hown3
      · go_wp2_with (at_builtin; refine Stop.out ?_)
        refine ⟨?_⟩
        refine wpList_append_own_at _ rfl _ _ 39 rfl w.heap.size 45 y0 (.agg #[.int .i64 0, .int .i64 0]) 2 16 Try.underlying39 hi' hz0 hz1 hz2 rfl (by decide) _ _ _ rfl R2.out ⟨g, (n + 1) * 2, none⟩ (xs.length - (n + 1)) (cap - (n + 1)) (flat ((xs.drop (n + 1)).take (xs.length - (n + 1)))) rfl (by rw [flat_length, List.length_take, List.length_drop]; congr 1; omega) s2 (flat_one _) (by simp only [List.length_append, List.length_take, List.length_singleton]; unfold maxLen; omega) (by simp only [List.length_append, List.length_take, List.length_singleton]; omega) (by omega) ?_
        intro v3 w3 hown3 hg3 hni _
        clear hni
        have KF := Lib.hid (kept_append0 K2.out R2.out hg3)
        go_wp2
        go_ret
        refine ⟨v3, rfl, ?_, KF.out⟩
        rw [HPP.out]
        have e1 : (xs.drop (n + 1)).take (xs.length - (n + 1)) = xs.drop (n + 1) := List.take_of_length_le (by rw [List.length_drop]; exact Nat.le_refl _)
        rw [e1, ← flat_append] at hown3
        have e2 : (xs.take n ++ [(k, u)]).length + (xs.length - (n + 1)) = (xs.take n ++ [(k, u)] ++ xs.drop (n + 1)).length := by simp only [List.length_append, List.length_drop]
        rw [e2] at hown3
        simpa using hown3
    | false =>
      rw [hh, if_neg (by simp)] at hpp
      rcases hit_false hh with he | ⟨x, xv, hat, hlt, hne⟩
      · obtain ⟨n, hn⟩ : ∃ n, place xs k = n := ⟨_, rfl⟩
        rw [hn] at HP hpp hpl he
        have HPP := Lib.hid hpp
        have hnl : ¬ ((n : Int) < (xs.length : Int)) := by omega
        have hnl' : ¬ (n < xs.length) := by omega
        have he' : xs.length ≤ n := by omega
        clear hv hpp hh hn he
        go_enter Try.func22, Try.ntmps22
        go_wp2_with (fail)
        refine HP.out.mono ?_
        rintro e w' ⟨rfl, rfl⟩
        have s1 := src_cells HV.out (show Kept w (w.alloc (.cells #[] 45)) from Turned.alloc _ _ _) 0 n
        simp only [Nat.zero_mul, List.drop_zero] at s1
        go_wp2_with (at_builtin; refine Stop.out ?_)
        refine ⟨?_⟩
        refine wpList_append_own_at _ rfl _ _ 39 rfl w.heap.size 45 y0 (.agg #[.int .i64 0, .int .i64 0]) 2 16 Try.underlying39 hi' hz0 hz1 hz2 rfl (by decide) _ _ _ rfl r0 ⟨g, 0, none⟩ n cap (flat (xs.take n)) rfl (by rw [flat_length, List.length_take]; congr 1; omega) s1 (flat_one _) (by simp; unfold maxLen; omega) (by simp; omega) (by simp) ?_
        intro v1 w1 hown1 hg1 hni _
        clear hni
        have K1 := Lib.hid (kept_append0 (xs := []) (show Kept w (w.alloc (.cells #[] 45)) from Turned.alloc _ _ _) r0 hg1)
        have r1 : w1.ownsRow w.heap.size 45 2 v1 (xs.take n).length (flat (xs.take n)) := (by rw [List.length_take, Nat.min_eq_left (by omega)]; simpa [flat] using hown1)
        have zz1 := K1.out.size
        have R1 := Lib.hid r1
        clear hown1 hg1 s1 r0 r1
        go_wp2_with (at_builtin; refine Stop.out ?_)
        refine ⟨?_⟩
        refine wpList_append_own_at _ rfl _ _ 39 rfl w.heap.size 45 y0 (.agg #[.int .i64 0, .int .i64 0]) 2 16 Try.underlying39 hi' hz0 hz1 hz2 rfl (by decide) _ _ _ rfl (R1.out.alloc (.cells #[.int .i64 k, .int .i64 u] 45)) ⟨w1.heap.size, 0, none⟩ 1 1 [.int .i64 k, .int .i64 u] rfl rfl (two_newR _ _ _) (by simp [Value.oneCell']) (by rw [List.length_take]; unfold maxLen; omega) (by rw [List.length_take]; omega) (by simp; omega) ?_
        intro v2 w2 hown2 hg2 hni _
        clear hni
        have K2 := Lib.hid (kept_append K1.out R1.out hg2)
        have r2 : w2.ownsRow w.heap.size 45 2 v2 (xs.take n ++ [(k, u)]).length (flat (xs.take n ++ [(k, u)])) := (by simpa [flat_append, flat] using hown2)
        have R2 := Lib.hid r2
        have s2 := src_cells HV.out K2.out (n) (xs.length - (n))
        have zz2 := K2.out.size
        clear hown2 hg2 r2
        by_cases hcq : cap = n
        · go_wp2_with (at_builtin; refine Stop.out ?_)
          refine ⟨?_⟩
          refine wpList_append_own_at _ rfl _ _ 39 rfl w.heap.size 45 y0 (.agg #[.int .i64 0, .int .i64 0]) 2 16 Try.underlying39 hi' hz0 hz1 hz2 rfl (by decide) _ _ _ rfl R2.out _ _ _ (flat []) rfl (by first | (simp [flat]; done) | (simp [flat]; omega)) (by simp [flat]) (flat_one _) (by simp only [List.length_append, List.length_take, List.length_singleton]; unfold maxLen; omega) (by simp only [List.length_append, List.length_take, List.length_singleton]; omega) (by omega) ?_
          intro v3 w3 hown3 hg3 hni _
          clear hni
          have KF := Lib.hid (kept_append0 K2.out R2.out hg3)
          go_wp2
          go_ret
          refine ⟨v3, rfl, ?_, KF.out⟩
          rw [HPP.out]
          have e0 : xs.drop (n) = [] := List.drop_eq_nil_of_le (by omega)
          have e1 : (xs.take n ++ [(k, u)]).length + (xs.length - (n)) = (xs.take n ++ [(k, u)]).length := by omega
          rw [e0]
          try rw [e1] at hown3
          simpa [flat] using hown3
        · go_wp2_with (at_builtin; refine Stop.out ?_)
          refine ⟨?_⟩
          refine wpList_append_own_at _ rfl _ _ 39 rfl w.heap.size 45 y0 (.agg #[.int .i64 0, .int .i64 0]) 2 16 Try.underlying39 hi' hz0 hz1 hz2 rfl (by decide) _ _ _ rfl R2.out _ _ _ (flat []) rfl (by first | (simp [flat]; done) | (simp [flat]; omega)) (by simp [flat]) (flat_one _) (by simp only [List.length_append, List.length_take, List.length_singleton]; unfold maxLen; omega) (by simp only [List.length_append, List.length_take, List.length_singleton]; omega) (by omega) ?_
          intro v3 w3 hown3 hg3 hni _
          clear hni
          have KF := Lib.hid (kept_append0 K2.out R2.out hg3)
          go_wp2
          go_ret
          refine ⟨v3, rfl, ?_, KF.out⟩
          rw [HPP.out]
          have e0 : xs.drop (n) = [] := List.drop_eq_nil_of_le (by omega)
          have e1 : (xs.take n ++ [(k, u)]).length + (xs.length - (n)) = (xs.take n ++ [(k, u)]).length := by omega
          rw [e0]
          try rw [e1] at hown3
          simpa [flat] using hown3
      · obtain ⟨_, he, _, g1, _⟩ := (preads_of_own hv).at hat
        obtain rfl := Option.some.inj he |> Addr.mk.inj |>.1
        simp only at g1
        obtain ⟨n, hn⟩ : ∃ n, place xs k = n := ⟨_, rfl⟩
        rw [hn] at HP g1 hlt hpp hpl
        have HPP := Lib.hid hpp
        have i3 : n < cap := by omega
        have hx : (x == k) = false := by simp only [beq_eq_false_iff_ne, ne_eq]; exact hne
        clear hv hpp hat hh hn he hne
        go_enter Try.func22, Try.ntmps22
        go_wp2_with (fail)
        refine HP.out.mono ?_
        rintro e w' ⟨rfl, rfl⟩
        have s1 := src_cells HV.out (show Kept w (w.alloc (.cells #[] 45)) from Turned.alloc _ _ _) 0 n
        simp only [Nat.zero_mul, List.drop_zero] at s1
        go_wp2_with (at_builtin; refine Stop.out ?_)
        refine ⟨?_⟩
        refine wpList_append_own_at _ rfl _ _ 39 rfl w.heap.size 45 y0 (.agg #[.int .i64 0, .int .i64 0]) 2 16 Try.underlying39 hi' hz0 hz1 hz2 rfl (by decide) _ _ _ rfl r0 ⟨g, 0, none⟩ n cap (flat (xs.take n)) rfl (by rw [flat_length, List.length_take]; congr 1; omega) s1 (flat_one _) (by simp; unfold maxLen; omega) (by simp; omega) (by simp) ?_
        intro v1 w1 hown1 hg1 hni _
        clear hni
        have K1 := Lib.hid (kept_append0 (xs := []) (show Kept w (w.alloc (.cells #[] 45)) from Turned.alloc _ _ _) r0 hg1)
        have r1 : w1.ownsRow w.heap.size 45 2 v1 (xs.take n).length (flat (xs.take n)) := (by rw [List.length_take, Nat.min_eq_left (by omega)]; simpa [flat] using hown1)
        have zz1 := K1.out.size
        have R1 := Lib.hid r1
        clear hown1 hg1 s1 r0 r1
        go_wp2_with (at_builtin; refine Stop.out ?_)
        refine ⟨?_⟩
        refine wpList_append_own_at _ rfl _ _ 39 rfl w.heap.size 45 y0 (.agg #[.int .i64 0, .int .i64 0]) 2 16 Try.underlying39 hi' hz0 hz1 hz2 rfl (by decide) _ _ _ rfl (R1.out.alloc (.cells #[.int .i64 k, .int .i64 u] 45)) ⟨w1.heap.size, 0, none⟩ 1 1 [.int .i64 k, .int .i64 u] rfl rfl (two_newR _ _ _) (by simp [Value.oneCell']) (by rw [List.length_take]; unfold maxLen; omega) (by rw [List.length_take]; omega) (by simp; omega) ?_
        intro v2 w2 hown2 hg2 hni _
        clear hni
        have K2 := Lib.hid (kept_append K1.out R1.out hg2)
        have r2 : w2.ownsRow w.heap.size 45 2 v2 (xs.take n ++ [(k, u)]).length (flat (xs.take n ++ [(k, u)])) := (by simpa [flat_append, flat] using hown2)
        have R2 := Lib.hid r2
        have s2 := src_cells HV.out K2.out (n) (xs.length - (n))
        have g1' := K2.out.cell g1 id
        have zz2 := K2.out.size
        clear hown2 hg2 r2 g1
        go_wp2_with (at_builtin; refine Stop.out ?_)
        refine ⟨?_⟩
        refine wpList_append_own_at _ rfl _ _ 39 rfl w.heap.size 45 y0 (.agg #[.int .i64 0, .int .i64 0]) 2 16 Try.underlying39 hi' hz0 hz1 hz2 rfl (by decide) _ _ _ rfl R2.out ⟨g, (n) * 2, none⟩ (xs.length - (n)) (cap - (n)) (flat ((xs.drop (n)).take (xs.length - (n)))) rfl (by rw [flat_length, List.length_take, List.length_drop]; congr 1; omega) s2 (flat_one _) (by simp only [List.length_append, List.length_take, List.length_singleton]; unfold maxLen; omega) (by simp only [List.length_append, List.length_take, List.length_singleton]; omega) (by omega) ?_
        intro v3 w3 hown3 hg3 hni _
        clear hni
        have KF := Lib.hid (kept_append0 K2.out R2.out hg3)
        go_wp2
        go_ret
        refine ⟨v3, rfl, ?_, KF.out⟩
        rw [HPP.out]
        have e1 : (xs.drop (n)).take (xs.length - (n)) = xs.drop (n) := List.take_of_length_le (by rw [List.length_drop]; exact Nat.le_refl _)
        rw [e1, ← flat_append] at hown3
        have e2 : (xs.take n ++ [(k, u)]).length + (xs.length - (n)) = (xs.take n ++ [(k, u)] ++ xs.drop (n)).length := by simp only [List.length_append, List.length_drop]
        rw [e2] at hown3
        simpa using hown3

set_option maxRecDepth 100000 in
set_option maxHeartbeats 1000000 in
theorem refDel_c (w : World) (n₀ : Nat) (v : Value) (xs : List (Int × Int)) (k : Int) (hv : w.ownsRow n₀ 45 2 v xs.length (flat xs)) (hl : xs.length ≤ 5000) :
    Calls Try.prog 21 #[v, .int .i64 k] w (Sliced (del ltI xs k) w) := by
  obtain ⟨y0, hi', hz0, hz1, hz2⟩ := info_parts info45
  have hpp := del_place xs k
  have r0 := row_new w
  rcases hv.2 with ⟨rfl, h0⟩ | ⟨g, cap, cur, rfl, hg0, _, hcap, hmx, _⟩
  · obtain rfl := List.length_eq_zero_iff.1 h0
    have HP : Hid (Calls Try.prog 42 #[.slice none 0 0, .int .i64 k] w fun e w' => e = .returned (.int .i64 0) ∧ w = w') := Lib.hid (place_c w none [] 0 k (.inl rfl) (Nat.le_refl _) (by simp))
    clear hv hpp h0
    go_enter Try.func21, Try.ntmps21
    go_wp2_with (fail)
    refine HP.out.mono ?_
    rintro e w' ⟨rfl, rfl⟩
    go_wp2_with (at_builtin; refine Stop.out ?_)
    refine ⟨?_⟩
    refine wpList_append_none rfl _ _ 39 rfl w.heap.size 45 y0 2 Try.underlying39 hi' _ _ _ rfl r0 rfl ?_
    go_wp2_with (at_builtin; refine Stop.out ?_)
    refine ⟨?_⟩
    refine wpList_append_none rfl _ _ 39 rfl w.heap.size 45 y0 2 Try.underlying39 hi' _ _ _ rfl r0 rfl ?_
    go_wp2
    go_ret
    exact ⟨_, rfl, r0, Turned.alloc _ w _⟩
  · have hc5 : cap ≤ 9223372036854775807 := by unfold maxLen at hmx; omega
    have HP := Lib.hid (place_c w _ xs cap k (preads_of_own hv) hcap hl)
    have hpl := place_le xs k
    have HV := Lib.hid hv
    cases hh : hit xs k with
    | true =>
      obtain ⟨hv', hat, hlt⟩ := hit_true hh
      obtain ⟨_, he, _, g1, _⟩ := (preads_of_own hv).at hat
      obtain rfl := Option.some.inj he |> Addr.mk.inj |>.1
      simp only at g1
      rw [hh, if_pos rfl] at hpp
      obtain ⟨n, hn⟩ : ∃ n, place xs k = n := ⟨_, rfl⟩
      rw [hn] at HP g1 hlt hpp hpl
      have HPP := Lib.hid hpp
      have i3 : n < cap := by omega
      clear hv hpp hat hh hn he
      go_enter Try.func21, Try.ntmps21
      go_wp2_with (fail)
      refine HP.out.mono ?_
      rintro e w' ⟨rfl, rfl⟩
      have s1 := src_cells HV.out (show Kept w (w.alloc (.cells #[] 45)) from Turned.alloc _ _ _) 0 n
      simp only [Nat.zero_mul, List.drop_zero] at s1
      go_wp2_with (at_builtin; refine Stop.out ?_)
      refine ⟨?_⟩
      refine wpList_append_own_at _ rfl _ _ 39 rfl w.heap.size 45 y0 (.agg #[.int .i64 0, .int .i64 0]) 2 16 Try.underlying39 hi' hz0 hz1 hz2 rfl (by decide) _ _ _ rfl r0 ⟨g, 0, none⟩ n cap (flat (xs.take n)) rfl (by rw [flat_length, List.length_take]; congr 1; omega) s1 (flat_one _) (by simp; unfold maxLen; omega) (by simp; omega) (by simp) ?_
      intro v1 w1 hown1 hg1 hni _
      clear hni
      have K1 := Lib.hid (kept_append0 (xs := []) (show Kept w (w.alloc (.cells #[] 45)) from Turned.alloc _ _ _) r0 hg1)
      have r1 : w1.ownsRow w.heap.size 45 2 v1 (xs.take n).length (flat (xs.take n)) := (by rw [List.length_take, Nat.min_eq_left (by omega)]; simpa [flat] using hown1)
      have zz1 := K1.out.size
      have R1 := Lib.hid r1
      have s1b := src_cells HV.out K1.out (n + 1) (xs.length - (n + 1))
      have g1' := K1.out.cell g1 id
      clear hown1 hg1 s1 r0 r1 g1
      by_cases hcq : cap = n + 1
      · go_wp2_with (at_builtin; refine Stop.out ?_)
        refine ⟨?_⟩
        refine wpList_append_own_at _ rfl _ _ 39 rfl w.heap.size 45 y0 (.agg #[.int .i64 0, .int .i64 0]) 2 16 Try.underlying39 hi' hz0 hz1 hz2 rfl (by decide) _ _ _ rfl R1.out _ _ _ (flat []) rfl (by first | (simp [flat]; done) | (simp [flat]; omega)) (by simp [flat]) (flat_one _) (by rw [List.length_take]; unfold maxLen; omega) (by rw [List.length_take]; omega) (by omega) ?_
        intro v3 w3 hown3 hg3 hni _
        clear hni
        have KF := Lib.hid (kept_append0 K1.out R1.out hg3)
        go_wp2
        go_ret
        refine ⟨v3, rfl, ?_, KF.out⟩
        rw [HPP.out]
        have e0 : xs.drop (n + 1) = [] := List.drop_eq_nil_of_le (by omega)
        have e1 : (xs.take n).length + (xs.length - (n + 1)) = (xs.take n).length := by omega
        rw [e0]
        try rw [e1] at hown3
        simpa [flat] using hown3
      · go_wp2_with (at_builtin; refine Stop.out ?_)
        refine ⟨?_⟩
        refine wpList_append_own_at _ rfl _ _ 39 rfl w.heap.size 45 y0 (.agg #[.int .i64 0, .int .i64 0]) 2 16 Try.underlying39 hi' hz0 hz1 hz2 rfl (by decide) _ _ _ rfl R1.out ⟨g, (n + 1) * 2, none⟩ (xs.length - (n + 1)) (cap - (n + 1)) (flat ((xs.drop (n + 1)).take (xs.length - (n + 1)))) rfl (by rw [flat_length, List.length_take, List.length_drop]; congr 1; omega) s1b (flat_one _) (by rw [List.length_take]; unfold maxLen; omega) (by rw [List.length_take]; omega) (by omega) ?_
        intro v3 w3 hown3 hg3 hni _
        clear hni
        have KF := Lib.hid (kept_append0 K1.out R1.out hg3)
        go_wp2
        go_ret
        refine ⟨v3, rfl, ?_, KF.out⟩
        rw [HPP.out]
        have e1 : (xs.drop (n + 1)).take (xs.length - (n + 1)) = xs.drop (n + 1) := List.take_of_length_le (by rw [List.length_drop]; exact Nat.le_refl _)
        rw [e1, ← flat_append] at hown3
        have e2 : (xs.take n).length + (xs.length - (n + 1)) = (xs.take n ++ xs.drop (n + 1)).length := by simp only [List.length_append, List.length_drop]
        rw [e2] at hown3
        simpa using hown3
    | false =>
      rw [hh, if_neg (by simp)] at hpp
      rcases hit_false hh with he | ⟨x, xv, hat, hlt, hne⟩
      · obtain ⟨n, hn⟩ : ∃ n, place xs k = n := ⟨_, rfl⟩
        rw [hn] at HP hpp hpl he
        have HPP := Lib.hid hpp
        have hnl : ¬ ((n : Int) < (xs.length : Int)) := by omega
        have hnl' : ¬ (n < xs.length) := by omega
        have he' : xs.length ≤ n := by omega
        clear hv hpp hh hn he
        go_enter Try.func21, Try.ntmps21
        go_wp2_with (fail)
        refine HP.out.mono ?_
        rintro e w' ⟨rfl, rfl⟩
        have s1 := src_cells HV.out (show Kept w (w.alloc (.cells #[] 45)) from Turned.alloc _ _ _) 0 n
        simp only [Nat.zero_mul, List.drop_zero] at s1
        go_wp2_with (at_builtin; refine Stop.out ?_)
        refine ⟨?_⟩
        refine wpList_append_own_at _ rfl _ _ 39 rfl w.heap.size 45 y0 (.agg #[.int .i64 0, .int .i64 0]) 2 16 Try.underlying39 hi' hz0 hz1 hz2 rfl (by decide) _ _ _ rfl r0 ⟨g, 0, none⟩ n cap (flat (xs.take n)) rfl (by rw [flat_length, List.length_take]; congr 1; omega) s1 (flat_one _) (by simp; unfold maxLen; omega) (by simp; omega) (by simp) ?_
        intro v1 w1 hown1 hg1 hni _
        clear hni
        have K1 := Lib.hid (kept_append0 (xs := []) (show Kept w (w.alloc (.cells #[] 45)) from Turned.alloc _ _ _) r0 hg1)
        have r1 : w1.ownsRow w.heap.size 45 2 v1 (xs.take n).length (flat (xs.take n)) := (by rw [List.length_take, Nat.min_eq_left (by omega)]; simpa [flat] using hown1)
        have zz1 := K1.out.size
        have R1 := Lib.hid r1
        have s1b := src_cells HV.out K1.out (n) (xs.length - (n))
        clear hown1 hg1 s1 r0 r1
        by_cases hcq : cap = n
        · go_wp2_with (at_builtin; refine Stop.out ?_)
          refine ⟨?_⟩
          refine wpList_append_own_at _ rfl _ _ 39 rfl w.heap.size 45 y0 (.agg #[.int .i64 0, .int .i64 0]) 2 16 Try.underlying39 hi' hz0 hz1 hz2 rfl (by decide) _ _ _ rfl R1.out _ _ _ (flat []) rfl (by first | (simp [flat]; done) | (simp [flat]; omega)) (by simp [flat]) (flat_one _) (by rw [List.length_take]; unfold maxLen; omega) (by rw [List.length_take]; omega) (by omega) ?_
          intro v3 w3 hown3 hg3 hni _
          clear hni
          have KF := Lib.hid (kept_append0 K1.out R1.out hg3)
          go_wp2
          go_ret
          refine ⟨v3, rfl, ?_, KF.out⟩
          rw [HPP.out]
          have e0 : xs.drop (n) = [] := List.drop_eq_nil_of_le (by omega)
          have e1 : (xs.take n).length + (xs.length - (n)) = (xs.take n).length := by omega
          rw [e0]
          try rw [e1] at hown3
          simpa [flat] using hown3
        · go_wp2_with (at_builtin; refine Stop.out ?_)
          refine ⟨?_⟩
          refine wpList_append_own_at _ rfl _ _ 39 rfl w.heap.size 45 y0 (.agg #[.int .i64 0, .int .i64 0]) 2 16 Try.underlying39 hi' hz0 hz1 hz2 rfl (by decide) _ _ _ rfl R1.out _ _ _ (flat []) rfl (by first | (simp [flat]; done) | (simp [flat]; omega)) (by simp [flat]) (flat_one _) (by rw [List.length_take]; unfold maxLen; omega) (by rw [List.length_take]; omega) (by omega) ?_
          intro v3 w3 hown3 hg3 hni _
          clear hni
          have KF := Lib.hid (kept_append0 K1.out R1.out hg3)
          go_wp2
          go_ret
          refine ⟨v3, rfl, ?_, KF.out⟩
          rw [HPP.out]
          have e0 : xs.drop (n) = [] := List.drop_eq_nil_of_le (by omega)
          have e1 : (xs.take n).length + (xs.length - (n)) = (xs.take n).length := by omega
          rw [e0]
          try rw [e1] at hown3
          simpa [flat] using hown3
      · obtain ⟨_, he, _, g1, _⟩ := (preads_of_own hv).at hat
        obtain rfl := Option.some.inj he |> Addr.mk.inj |>.1
        simp only at g1
        obtain ⟨n, hn⟩ : ∃ n, place xs k = n := ⟨_, rfl⟩
        rw [hn] at HP g1 hlt hpp hpl
        have HPP := Lib.hid hpp
        have i3 : n < cap := by omega
        have hx : (x == k) = false := by simp only [beq_eq_false_iff_ne, ne_eq]; exact hne
        clear hv hpp hat hh hn he hne
        go_enter Try.func21, Try.ntmps21
        go_wp2_with (fail)
        refine HP.out.mono ?_
        rintro e w' ⟨rfl, rfl⟩
        have s1 := src_cells HV.out (show Kept w (w.alloc (.cells #[] 45)) from Turned.alloc _ _ _) 0 n
        simp only [Nat.zero_mul, List.drop_zero] at s1
        go_wp2_with (at_builtin; refine Stop.out ?_)
        refine ⟨?_⟩
        refine wpList_append_own_at _ rfl _ _ 39 rfl w.heap.size 45 y0 (.agg #[.int .i64 0, .int .i64 0]) 2 16 Try.underlying39 hi' hz0 hz1 hz2 rfl (by decide) _ _ _ rfl r0 ⟨g, 0, none⟩ n cap (flat (xs.take n)) rfl (by rw [flat_length, List.length_take]; congr 1; omega) s1 (flat_one _) (by simp; unfold maxLen; omega) (by simp; omega) (by simp) ?_
        intro v1 w1 hown1 hg1 hni _
        clear hni
        have K1 := Lib.hid (kept_append0 (xs := []) (show Kept w (w.alloc (.cells #[] 45)) from Turned.alloc _ _ _) r0 hg1)
        have r1 : w1.ownsRow w.heap.size 45 2 v1 (xs.take n).length (flat (xs.take n)) := (by rw [List.length_take, Nat.min_eq_left (by omega)]; simpa [flat] using hown1)
        have zz1 := K1.out.size
        have R1 := Lib.hid r1
        have s1b := src_cells HV.out K1.out (n) (xs.length - (n))
        have g1' := K1.out.cell g1 id
        clear hown1 hg1 s1 r0 r1 g1
        go_wp2_with (at_builtin; refine Stop.out ?_)
        refine ⟨?_⟩
        refine wpList_append_own_at _ rfl _ _ 39 rfl w.heap.size 45 y0 (.agg #[.int .i64 0, .int .i64 0]) 2 16 Try.underlying39 hi' hz0 hz1 hz2 rfl (by decide) _ _ _ rfl R1.out ⟨g, (n) * 2, none⟩ (xs.length - (n)) (cap - (n)) (flat ((xs.drop (n)).take (xs.length - (n)))) rfl (by rw [flat_length, List.length_take, List.length_drop]; congr 1; omega) s1b (flat_one _) (by rw [List.length_take]; unfold maxLen; omega) (by rw [List.length_take]; omega) (by omega) ?_
        intro v3 w3 hown3 hg3 hni _
        clear hni
        have KF := Lib.hid (kept_append0 K1.out R1.out hg3)
        go_wp2
        go_ret
        refine ⟨v3, rfl, ?_, KF.out⟩
        rw [HPP.out]
        have e1 : (xs.drop (n)).take (xs.length - (n)) = xs.drop (n) := List.take_of_length_le (by rw [List.length_drop]; exact Nat.le_refl _)
        rw [e1, ← flat_append] at hown3
        have e2 : (xs.take n).length + (xs.length - (n)) = (xs.take n ++ xs.drop (n)).length := by simp only [List.length_append, List.length_drop]
        rw [e2] at hown3
        simpa using hown3
end Go.Proofs.Ytfckphcbleodbaa
