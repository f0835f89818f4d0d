/-
  What probe.Find, the document's Find and Ints, probe.Guess and the document's Guess answer (contracts); the worlds differ by draws alone.
-/
import Derived.Test.YtmfpfoikfpcnkaaRight
import Derived.Test.YtmfpfoikfpcnkaaSpan
namespace Go.Proofs.Ytmfpfoikfpcnkaa
open Go.RowKit

theorem Reads.drewN {w : World} {a : Option Addr} {zs : List Int} (h : Reads w a zs) (n : Nat) : Reads (w.drewN n) a zs := h.kept (Kept.drewN _ _)

theorem cnt_hit {q : List Int} {k : Int} {p : Nat} (hp : q.Pairwise (· < ·)) (hl : Lies q k p) (h : q[p]? = some k) : cnt q k = p + 1 := by
  obtain ⟨h1, h2, h3⟩ := hl
  have hlt := (List.getElem?_eq_some_iff.1 h).1
  refine cnt_at (by omega) (fun j z hz hj => ?_) (fun j z hz hj => ?_)
  · exact up_le hp hz h (by omega)
  · exact up_lt hp h hz (by omega)
theorem cnt_miss {q : List Int} {k : Int} {p : Nat} (hp : q.Pairwise (· < ·)) (hl : Lies q k p) (h : q[p]? ≠ some k) : cnt q k = p := by
  obtain ⟨h1, h2, h3⟩ := hl
  refine cnt_at h1 (fun j z hz hj => ?_) (fun j z hz hj => ?_)
  · exact Int.le_of_lt (h2 j z hz hj)
  · have := h3 j z hz hj
    rcases Nat.lt_or_ge p j with g | g
    · obtain ⟨y, hy⟩ : ∃ y, q[p]? = some y := ⟨_, List.getElem?_eq_getElem (by have := (List.getElem?_eq_some_iff.1 hz).1; omega)⟩
      have h4 := h3 p y hy (Nat.le_refl _)
      have h5 := up_lt hp hy hz g
      omega
    · obtain rfl : p = j := by omega
      rcases Int.lt_or_le k z with g' | g'
      · exact g'
      · have : z = k := by omega
        rw [this] at hz
        exact (h hz).elim
theorem find_not {q : List Int} {k : Int} (h : upB q = false) : findN q k = 0 := by
  simp only [upB, decide_eq_false_iff_not] at h
  simp only [findN, if_neg h]
theorem find_up {q : List Int} {k : Int} (h : upB q = true) : findN q k = cnt q k := by
  simp only [upB, decide_eq_true_eq] at h
  simp only [findN, if_pos h]
theorem up_parts {q : List Int} (h : upB q = true) : q.length ≤ 65536 ∧ q.Pairwise (· < ·) := by
  have h' : Up q := by simpa only [upB, decide_eq_true_eq] using h
  exact h'

set_option maxRecDepth 100000 in
theorem find_c (w : World) (a : Option Addr) (q : List Int) (cap : Nat) (k : Int) (hr : Reads w a q) (hc : q.length ≤ cap) (hm : cap ≤ maxLen) :
    Calls Try.prog 12 #[.slice a q.length cap, .int .i64 k] w fun e w' => e = .returned (.int .i64 (findN q k : Int)) ∧ ∃ m, w' = w.drewN m := by
  have HC := hide (right_c w a q cap hr hc hm)
  cases hu : upB q with
  | false =>
    rw [hu] at HC
    have HF := hide (find_not (k := k) hu)
    clear hr hc hm hu
    go_enter Try.func12, Try.ntmps12
    go_wp2_with (fail)
    refine HC.out.mono ?_
    rintro e w' ⟨rfl, m, rfl⟩
    go_wp2
    go_ret
    exact ⟨by rw [HF.out]; rfl, _, rfl⟩
  | true =>
    rw [hu] at HC
    obtain ⟨hl, hp⟩ := up_parts hu
    have HS := hide (fun m => search_c (w.drewN m) a q cap k (hr.drewN m) hc hl hp)
    have HF := hide (find_up (k := k) hu)
    have HP := hide hp
    have hl' : (q.length : Int) ≤ 65536 := by omega
    clear hr hc hm hu hl hp
    go_enter Try.func12, Try.ntmps12
    go_wp2_with (fail)
    refine HC.out.mono ?_
    rintro e w' ⟨rfl, m, rfl⟩
    go_wp2_with (fail)
    refine (HS.out m).mono ?_
    rintro e w' ⟨⟨p, L, rfl⟩, rfl⟩
    have hpl : (p : Int) ≤ 65536 := by have := L.1; omega
    have HL := hide L
    clear L
    cases hb : (q[p]? == some k) with
    | true =>
      have HB : Hid (q[p]? = some k) := hide (by simpa using hb)
      clear hb
      go_wp2
      go_ret
      exact ⟨by rw [HF.out, cnt_hit HP.out HL.out HB.out]; rfl, _, rfl⟩
    | false =>
      have HB : Hid (q[p]? ≠ some k) := hide (by simpa using hb)
      clear hb
      go_wp2
      go_ret
      exact ⟨by rw [HF.out, cnt_miss HP.out HL.out HB.out]; rfl, _, rfl⟩

set_option maxRecDepth 100000 in
theorem find_r (w : World) (a : Option Addr) (q : List Int) (cap : Nat) (k : Int) (hr : Reads w a q) (hc : q.length ≤ cap) (hm : cap ≤ maxLen) :
    Calls Try.prog 18 #[.slice a q.length cap, .int .i64 k] w fun e w' => e = .returned (.int .i64 (findN q k : Int)) ∧ ∃ m, w' = w.drewN m := by
  have HC := hide (fun m => rising_r (w.drewN m) a q cap (hr.drewN m) hc hm)
  have HR := hide hr
  have hm' : (q.length : Int) ≤ 9223372036854775807 := by unfold maxLen at hm; omega
  clear hr hm
  cases hu : upB q with
  | false =>
    rw [hu] at HC
    have HF := hide (find_not (k := k) hu)
    clear hu
    go_enter Try.func18, Try.ntmps18
    go_wp2
    go_loopw [5, 6] (fun n i wr => n = .int .i64 0 ∧ i = .int .i64 0 ∧ w = wr) (fun _ _ _ => 0)
    case atStart => exact ⟨rfl, rfl, rfl⟩
    case round =>
      obtain ⟨rfl, rfl, rfl⟩ := hrel
      go_wp2_with (fail)
      refine (HC.out 0).mono ?_
      rintro e w' ⟨rfl, m, rfl⟩
      go_wp2
      go_ret
      exact ⟨by rw [HF.out]; rfl, _, rfl⟩
  | true =>
    rw [hu] at HC
    have HF := hide (find_up (k := k) hu)
    clear hu
    go_enter Try.func18, Try.ntmps18
    go_wp2
    go_loopw [5, 6] (fun n i wr => ∃ t c d : Nat, t ≤ q.length ∧ c ≤ t ∧ Hid (c = cnt (q.take t) k) ∧ n = .int .i64 (c : Int) ∧ i = .int .i64 (t : Int) ∧ wr = w.drewN d) (fun _ i _ => q.length - (intOf i).toNat)
    case atStart => exact ⟨0, 0, 0, Nat.zero_le _, Nat.le_refl _, hide (by simp [cnt]), rfl, rfl, rfl⟩
    case round =>
      obtain ⟨t, c, d, ht, hct, HT, rfl, rfl, rfl⟩ := hrel
      go_wp2_with (fail)
      refine (HC.out d).mono ?_
      rintro e w' ⟨rfl, m, rfl⟩
      by_cases hlt : t < q.length
      · obtain ⟨z, hz⟩ : ∃ p, q[t]? = some p := ⟨_, List.getElem?_eq_getElem hlt⟩
        obtain ⟨bl, off, rfl, hbl, g1⟩ := HR.out.at hz
        have HZ := hide (cnt_snoc (k := k) hz)
        have i1 : (t : Int) < (q.length : Int) := by omega
        have i3 : t < cap := by omega
        clear hz
        by_cases hzk : z ≤ k
        · have HN : Hid (c + 1 = cnt (q.take (t + 1)) k) := hide (by rw [HZ.out, if_pos hzk, HT.out])
          clear HZ HT
          go_wp2
          exact ⟨⟨t + 1, c + 1, _, by omega, by omega, HN, by simp, by simp, rfl⟩, by simp [intOf]; omega⟩
        · have HN : Hid (c = cnt (q.take (t + 1)) k) := hide (by rw [HZ.out, if_neg hzk, HT.out]; rfl)
          clear HZ HT
          go_wp2
          exact ⟨⟨t + 1, c, _, by omega, by omega, HN, rfl, by simp, rfl⟩, by simp [intOf]; omega⟩
      · have HN : Hid (c = cnt q k) := hide (by have := HT.out; rwa [List.take_of_length_le (by omega)] at this)
        have i1 : ¬ ((t : Int) < (q.length : Int)) := by omega
        clear HT
        go_wp2
        go_ret
        exact ⟨by rw [HF.out, ← HN.out]; rfl, _, rfl⟩

/-- Two slices that read alike are alike. -/
theorem ints_c (w : World) (a b : Option Addr) (q : List Int) (cap cap' : Nat) (hr : Reads w a q) (hr' : Reads w b q) (hc : q.length ≤ cap) (hc' : q.length ≤ cap') (hm : cap ≤ maxLen) :
    Calls Try.prog 14 #[.slice a q.length cap, .slice b q.length cap'] w fun e w' => e = .returned (.bool true) ∧ ∃ m, w' = w.drewN m := by
  have HR := hide hr
  have HR' := hide hr'
  have hm' : (q.length : Int) ≤ 9223372036854775807 := by unfold maxLen at hm; omega
  clear hr hm hr'
  go_enter Try.func14, Try.ntmps14
  go_wp2
  go_loopw [5] (fun i wr => ∃ t d : Nat, t ≤ q.length ∧ i = .int .i64 (t : Int) ∧ wr = w.drewN d) (fun i _ => q.length - (intOf i).toNat)
  case atStart => exact ⟨0, 0, Nat.zero_le _, rfl, rfl⟩
  case round =>
    obtain ⟨t, d, ht, rfl, rfl⟩ := hrel
    by_cases hlt : t < q.length
    · obtain ⟨z, hz⟩ : ∃ p, q[t]? = some p := ⟨_, List.getElem?_eq_getElem hlt⟩
      obtain ⟨bl, off, rfl, hbl, g1⟩ := HR.out.at hz
      obtain ⟨bl', off', rfl, hbl', g2⟩ := HR'.out.at hz
      have i1 : (t : Int) < (q.length : Int) := by omega
      have i3 : t < cap := by omega
      have i4 : t < cap' := by omega
      clear hz
      go_wp2
      go_quiet (fail)
      go_wp2
      exact ⟨⟨t + 1, _, by omega, by simp, rfl⟩, by simp [intOf]; omega⟩
    · have i1 : ¬ ((t : Int) < (q.length : Int)) := by omega
      go_wp2
      go_ret
      exact ⟨rfl, _, rfl⟩

theorem wf_of {a : Int} (h : -9223372036854775808 ≤ a) (h' : a ≤ 9223372036854775807) : (Lit.int .i64 a).wf = true := by
  have h1 : IntKind.min .i64 = -9223372036854775808 := by decide
  have h2 : IntKind.max .i64 = 9223372036854775807 := by decide
  simp only [Lit.wf, h1, h2, Bool.and_eq_true, decide_eq_true_eq]
  exact ⟨h, h'⟩
theorem wf_u64 {a : Int} (h : 0 ≤ a) (h' : a ≤ 18446744073709551615) : (Lit.int .u64 a).wf = true := by
  have h1 : IntKind.min .u64 = 0 := by decide
  have h2 : IntKind.max .u64 = 18446744073709551615 := by decide
  simp only [Lit.wf, h1, h2, Bool.and_eq_true, decide_eq_true_eq]
  exact ⟨h, h'⟩

theorem gap_wf {a b : Int} (ha : (Lit.int .i64 a).wf = true) (hb : (Lit.int .i64 b).wf = true) : (Lit.int .u64 (gapZ a b)).wf = true := by
  have ha' := bounds_i64 ha
  have hb' := bounds_i64 hb
  unfold gapZ
  split
  · exact wf_u64 (by omega) (by omega)
  · exact wf_u64 (by omega) (by omega)
theorem share_bound (p v n : Int) (hp : 0 ≤ p) : 0 ≤ shareZ p v n ∧ shareZ p v n ≤ 65536 := by
  unfold shareZ
  split
  · rename_i h
    have h1 : min p v * n ≤ v * n := Int.mul_le_mul_of_nonneg_right (by omega) (by omega)
    have h2 : min p v * n / v ≤ n := by
      have := Int.ediv_le_ediv (show 0 < v by omega) h1
      rw [Int.mul_ediv_cancel_left _ (by omega)] at this
      exact this
    have h3 : 0 ≤ min p v * n / v := Int.ediv_nonneg (Int.mul_nonneg (by omega) (by omega)) (by omega)
    omega
  · omega
theorem gap_nonneg (a b : Int) : 0 ≤ gapZ a b := by
  unfold gapZ
  split <;> omega

set_option maxRecDepth 100000 in
theorem guess_c (a b k n : Int) (ha : (Lit.int .i64 a).wf = true) (hb : (Lit.int .i64 b).wf = true) (hk : (Lit.int .i64 k).wf = true) (w : World) :
    Calls Try.prog 15 #[.int .i64 a, .int .i64 b, .int .i64 k, .int .i64 n] w fun e w' => e = .returned (.int .i64 (guessZ a b k n)) ∧ ∃ m, w' = w.drewN m := by
  by_cases h : 2 ≤ n ∧ n ≤ 65536 ∧ a ≤ k ∧ k < b
  · have H1 := hide (gap_c a k ha hk)
    have H2 := hide (gap_c a b ha hb)
    have H3 := hide (share_c (gapZ a k) (gapZ a b) (n - 1) (gap_wf ha hk) (gap_wf ha hb))
    have HG : Hid (guessZ a b k n = 1 + shareZ (gapZ a k) (gapZ a b) (n - 1)) := hide (if_pos h)
    have hs := share_bound (gapZ a k) (gapZ a b) (n - 1) (gap_nonneg _ _)
    generalize shareZ (gapZ a k) (gapZ a b) (n - 1) = s at H3 HG hs
    obtain ⟨h1, h2, h3, h4⟩ := h
    obtain ⟨hs1, hs2⟩ := hs
    clear ha hb hk
    go_enter Try.func15, Try.ntmps15
    go_wp2_with (fail)
    refine (H1.out _).mono ?_
    rintro e w' ⟨rfl, rfl⟩
    go_wp2_with (fail)
    refine (H2.out _).mono ?_
    rintro e w' ⟨rfl, rfl⟩
    go_wp2_with (fail)
    refine (H3.out _).mono ?_
    rintro e w' ⟨rfl, m, rfl⟩
    go_wp2
    go_ret
    exact ⟨by rw [HG.out]; rfl, _, rfl⟩
  · rw [guess_none h]
    by_cases h1 : n < 2
    · clear h
      go_enter Try.func15, Try.ntmps15
      go_wp2
      go_ret
      exact ⟨rfl, 0, rfl⟩
    · by_cases h2 : 65536 < n
      · clear h
        go_enter Try.func15, Try.ntmps15
        go_wp2
        go_ret
        exact ⟨rfl, 0, rfl⟩
      · by_cases h3 : k < a
        · clear h
          go_enter Try.func15, Try.ntmps15
          go_wp2
          go_ret
          exact ⟨rfl, 0, rfl⟩
        · have h4 : b ≤ k := by omega
          clear h
          go_enter Try.func15, Try.ntmps15
          go_wp2
          go_ret
          exact ⟨rfl, 0, rfl⟩

set_option maxRecDepth 100000 in
theorem guess_r (a b k n : Int) (ha : (Lit.int .i64 a).wf = true) (hb : (Lit.int .i64 b).wf = true) (hk : (Lit.int .i64 k).wf = true) (w : World) :
    Calls Try.prog 20 #[.int .i64 a, .int .i64 b, .int .i64 k, .int .i64 n] w fun e w' => e = .returned (.int .i64 (guessZ a b k n)) ∧ ∃ m, w' = w.drewN m := by
  by_cases h : 2 ≤ n ∧ n ≤ 65536 ∧ a ≤ k ∧ k < b
  · have H1 := hide (gap_r a k ha hk)
    have H2 := hide (gap_r a b ha hb)
    have H3 := hide (share_r (gapZ a k) (gapZ a b) (n - 1) (gap_wf ha hk) (gap_wf ha hb))
    have HG : Hid (guessZ a b k n = 1 + shareZ (gapZ a k) (gapZ a b) (n - 1)) := hide (if_pos h)
    have hs := share_bound (gapZ a k) (gapZ a b) (n - 1) (gap_nonneg _ _)
    generalize shareZ (gapZ a k) (gapZ a b) (n - 1) = s at H3 HG hs
    obtain ⟨h1, h2, h3, h4⟩ := h
    obtain ⟨hs1, hs2⟩ := hs
    clear ha hb hk
    go_enter Try.func20, Try.ntmps20
    go_wp2_with (fail)
    refine (H1.out _).mono ?_
    rintro e w' ⟨rfl, rfl⟩
    go_wp2_with (fail)
    refine (H2.out _).mono ?_
    rintro e w' ⟨rfl, rfl⟩
    go_wp2_with (fail)
    refine (H3.out _).mono ?_
    rintro e w' ⟨rfl, rfl⟩
    go_wp2
    go_ret
    exact ⟨by rw [HG.out]; rfl, 0, rfl⟩
  · rw [guess_none h]
    by_cases h1 : n < 2
    · clear h
      go_enter Try.func20, Try.ntmps20
      go_wp2
      go_ret
      exact ⟨rfl, 0, rfl⟩
    · by_cases h2 : 65536 < n
      · clear h
        go_enter Try.func20, Try.ntmps20
        go_wp2
        go_ret
        exact ⟨rfl, 0, rfl⟩
      · by_cases h3 : k < a
        · clear h
          go_enter Try.func20, Try.ntmps20
          go_wp2
          go_ret
          exact ⟨rfl, 0, rfl⟩
        · have h4 : b ≤ k := by omega
          clear h
          go_enter Try.func20, Try.ntmps20
          go_wp2
          go_ret
          exact ⟨rfl, 0, rfl⟩
end Go.Proofs.Ytmfpfoikfpcnkaa
