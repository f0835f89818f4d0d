/-
  What the document's Path answers (a contract): the path of chapter 6, in new memory; nothing that lay is turned.
-/
import Derived.Test.YtmfpfoikfpcnkaaPaths
namespace Go.Proofs.Ytmfpfoikfpcnkaa
open Go.RowKit

set_option maxRecDepth 100000 in
set_option maxHeartbeats 1000000 in
theorem path_r (w : World) (a : Option Addr) (q : List Int) (cap : Nat) (k : Int) (hr : Reads w a q) (hc : q.length ≤ cap) (hm : cap ≤ maxLen) (hw : ∀ z ∈ q, (Lit.int .i64 z).wf = true) (wk : (Lit.int .i64 k).wf = true) :
    Calls Try.prog 19 #[.slice a q.length cap, .int .i64 k] w (Sliced (pathP q k) w) := by
  have HC := hide (rising_r w a q cap hr hc hm)
  obtain ⟨y0, hi', hz0, hz1, hz2⟩ := info_parts info3
  cases hu : upB q with
  | false =>
    rw [pathP_not hu]
    rw [hu] at HC
    have hml : (q.length : Int) ≤ 9223372036854775807 := by unfold maxLen at hm; omega
    clear hr hc hm hu hw wk
    go_enter Try.func19, Try.ntmps19
    go_wp2_with (fail)
    refine HC.out.mono ?_
    rintro e w' ⟨rfl, m, rfl⟩
    go_wp2
    go_ret
    exact ⟨_, rfl, row_nil _ _, Kept.drewN _ _⟩
  | true =>
    rw [hu] at HC
    by_cases h0 : q = []
    · subst h0
      rw [pathP_nil]
      clear hr hc hm hw wk hu
      go_enter Try.func19, Try.ntmps19
      go_wp2_with (fail)
      refine HC.out.mono ?_
      rintro e w' ⟨rfl, m, rfl⟩
      go_wp2
      go_ret
      exact ⟨_, rfl, row_nil _ _, Kept.drewN _ _⟩
    obtain ⟨n, hn⟩ : ∃ n, q.length = n + 1 := ⟨q.length - 1, by have := List.length_pos_iff.2 h0; omega⟩
    have ne : ((n : Int) + 1 == 0) = false := by simp only [beq_eq_false_iff_ne, ne_eq]; omega
    obtain ⟨hl, hp⟩ := up_parts hu
    have hml : (n : Int) ≤ 65535 := by omega
    obtain ⟨x, hx⟩ : ∃ z, q[0]? = some z := ⟨_, List.getElem?_eq_getElem (by omega)⟩
    obtain ⟨y, hy⟩ : ∃ z, q[n]? = some z := ⟨_, List.getElem?_eq_getElem (by omega)⟩
    have wx := hw x (List.mem_of_getElem? hx)
    have wy := hw y (List.mem_of_getElem? hy)
    have HO := hide hr.old
    obtain ⟨bl, off, rfl, hbl, g1, g2⟩ := hr.two hx hy
    simp only [Nat.add_zero] at g1
    have c0 : 0 < cap := by omega
    have c1 : n < cap := by omega
    have HN := hide hn
    have HL := hide hl
    have HX := hide hx
    have HY := hide hy
    have HK0 : Hid (∀ m : Nat, Kept w ((w.drewN m).alloc (.cells #[.int .i64 1] 3))) := hide (fun m => (Kept.drewN w m).alloc _)
    by_cases h2 : k < x
    · rw [pathP_one hu hx (.inl h2)]
      rw [hn] at HC ⊢
      clear hr hc hm hu hw wk h0 hn hl hp hx hy wx wy g2
      go_enter Try.func19, Try.ntmps19
      go_wp2_with (fail)
      refine HC.out.mono ?_
      rintro e w' ⟨rfl, m, rfl⟩
      have gA := (HK0.out m).cell g1 id
      go_wp2
      go_ret
      exact ⟨_, rfl, row_new _ 3 [1] _ (by simp) (by simp), HK0.out m⟩
    by_cases h1 : n = 0
    · subst h1
      rw [pathP_one hu hx (.inr hn)]
      rw [hn] at HC ⊢
      clear hr hc hm hu hw wk h0 hn hl hp hx hy wx wy g2 ne
      go_enter Try.func19, Try.ntmps19
      go_wp2_with (fail)
      refine HC.out.mono ?_
      rintro e w' ⟨rfl, m, rfl⟩
      have gA := (HK0.out m).cell g1 id
      go_wp2
      go_ret
      exact ⟨_, rfl, row_new _ 3 [1] _ (by simp) (by simp), HK0.out m⟩
    have ne1 : ((n : Int) + 1 == 1) = false := by simp only [beq_eq_false_iff_ne, ne_eq]; omega
    have hn1 : 0 < n := by omega
    by_cases h3 : y ≤ k
    · rw [pathP_ends hu hn (by omega) hx hy (by omega) h3]
      rw [hn] at HC ⊢
      clear hr hc hm hu hw wk h0 hn hl hp hx hy wx wy
      go_enter Try.func19, Try.ntmps19
      go_wp2_with (fail)
      refine HC.out.mono ?_
      rintro e w' ⟨rfl, m, rfl⟩
      have gA := (HK0.out m).cell g1 id
      have r0 : Row ((w.drewN m).alloc (.cells #[.int .i64 1] 3)) w.heap.size 3 (.slice (some ⟨w.heap.size, 0, none⟩) 1 1) [1] := row_new (w.drewN m) 3 [1] w.heap.size (by simp) (by simp)
      have hrow := r0.alloc (.cells #[.int .i64 ((n : Int) + 1)] 3)
      go_wp2_with (at_builtin; refine Stop.out ?_)
      refine ⟨?_⟩
      refine wpList_append_lies _ rfl _ _ 26 rfl w.heap.size 3 y0 (.int .i64 0) 1 8 Try.underlying26 hi' hz0 hz1 hz2 rfl (by decide) _ _ _ rfl hrow ⟨w.heap.size + 1, 0, none⟩ 1 1 [.int .i64 ((n : Int) + 1)] rfl rfl (by have := one_new ((w.drewN m).alloc (.cells #[.int .i64 1] 3)) 3 ((n : Int) + 1); rwa [World.size_alloc] at this) (by simp [Value.oneCell']) (by decide) (by show 1 + 1 ≤ maxLen; unfold maxLen; omega) (by show (1 + 1) * 8 ≤ 140737488355328; omega) (by simp; omega) (w.heap.size + 1 + 1) (by simp) ?_
      intro g gc A1 hown hgrow hat hlt2
      have T1 := hide ((From.of_kept (HK0.out m)).trans (turned_append r0 hgrow))
      have R1 : Hid (Row A1 w.heap.size 3 (.slice (some ⟨g, 0, none⟩) 2 gc) [1, (n : Int) + 1]) := hide hown
      obtain ⟨_, _, e, _, g2'⟩ := (HO.out A1 T1.out).at HY.out
      cases e
      clear hown hgrow hat hlt2 hrow r0 g2 g1 gA
      go_wp2
      go_ret
      exact ⟨_, rfl, R1.out, From.kept (Kept.refl w) T1.out⟩
    · obtain ⟨i, hgi, hin⟩ := guess_nat (x := x) (y := y) (k := k) hn1 (by omega) (by omega) (by omega)
      have HG := hide (fun w => guess_r x y k ((n : Int) + 1) wx wy wk w)
      have HPM := hide (pathP_mid hu hn (by omega) hx hy (by omega) h3)
      have et : ((i : Int) + 1).toNat = i + 1 := by omega
      rw [hgi] at HG HPM
      rw [et] at HPM
      obtain ⟨z, hz⟩ : ∃ z, q[i]? = some z := ⟨_, List.getElem?_eq_getElem (by omega)⟩
      have HZ := hide hz
      have hkx : x ≤ k := by omega
      rw [HPM.out]
      rw [hn] at HC ⊢
      have c2 : i < cap := by omega
      have i1 : (i : Int) < (n : Int) := by omega
      clear hr hc hm hu hw wk h0 hl hp hx hy wx wy hgi et hz
      go_enter Try.func19, Try.ntmps19
      go_wp2_with (fail)
      refine HC.out.mono ?_
      rintro e w' ⟨rfl, m, rfl⟩
      have gA := (HK0.out m).cell g1 id
      have r0 : Row ((w.drewN m).alloc (.cells #[.int .i64 1] 3)) w.heap.size 3 (.slice (some ⟨w.heap.size, 0, none⟩) 1 1) [1] := row_new (w.drewN m) 3 [1] w.heap.size (by simp) (by simp)
      have hrow := r0.alloc (.cells #[.int .i64 ((n : Int) + 1)] 3)
      go_wp2_with (at_builtin; refine Stop.out ?_)
      refine ⟨?_⟩
      refine wpList_append_lies _ rfl _ _ 26 rfl w.heap.size 3 y0 (.int .i64 0) 1 8 Try.underlying26 hi' hz0 hz1 hz2 rfl (by decide) _ _ _ rfl hrow ⟨w.heap.size + 1, 0, none⟩ 1 1 [.int .i64 ((n : Int) + 1)] rfl rfl (by have := one_new ((w.drewN m).alloc (.cells #[.int .i64 1] 3)) 3 ((n : Int) + 1); rwa [World.size_alloc] at this) (by simp [Value.oneCell']) (by decide) (by show 1 + 1 ≤ maxLen; unfold maxLen; omega) (by show (1 + 1) * 8 ≤ 140737488355328; omega) (by simp; omega) (w.heap.size + 1 + 1) (by simp) ?_
      intro g gc A1 hown hgrow hat hlt2
      have T1 := hide ((From.of_kept (HK0.out m)).trans (turned_append r0 hgrow))
      have R1 : Hid (Row A1 w.heap.size 3 (.slice (some ⟨g, 0, none⟩) 2 gc) [1, (n : Int) + 1]) := hide hown
      obtain ⟨_, _, e, _, g1', g2'⟩ := (HO.out A1 T1.out).two HX.out HY.out
      cases e
      simp only [Nat.add_zero] at g1'
      clear hown hgrow hat hlt2 hrow r0 g2 g1 gA HC
      go_wp2
      go_quiet (first | (go_at_call 20; refine Calls.quiet_of (HG.out _)))
      have T2 := hide (T1.out.trans (From.of_kept (Kept.drewN A1 nq)))
      have R2 := hide (R1.out.kept (Kept.drewN A1 nq))
      obtain ⟨W, hW⟩ : ∃ W, A1.drewN nq = W := ⟨_, rfl⟩
      rw [hW] at T2 R2 ⊢
      obtain ⟨_, _, e, _, g3⟩ := (HO.out W T2.out).at HZ.out
      cases e
      clear T1 R1 g1' g2' hW HG
      by_cases h0 : i = 0
      · subst h0
        have hzx : z = x := by
          have e1 := HZ.out
          rw [HX.out] at e1
          cases e1
          rfl
        subst hzx
        have HM := hide (midP_one HZ.out hkx)
        rw [hn] at HM
        simp only [Nat.add_zero] at g3
        clear hn hin i1
        obtain ⟨Z, hZ⟩ : ∃ Z, [1, (n : Int) + 1] ++ goUp q k (n + 1 - (1 + 1)) (1 + 1) = Z := ⟨_, rfl⟩
        have HM' : Hid (midP q k (1) = Z) := hide (HM.out.trans hZ)
        have HZZ := hide hZ
        clear HM hZ
        go_wp2
        go_loopw [6, 8] (fun u vi wr => ∃ (s m : Nat) (ys : List Int), s + m = n ∧ ys.length ≤ s + 4 ∧ vi = .int .i64 ((s : Int) + 1) ∧ Hid (ys ++ goUp q k m (s + 1) = Z) ∧ Hid (Row wr w.heap.size 3 u ys) ∧ Hid (From w.heap.size w wr)) (fun _ vi _ => n + 1 - (intOf vi).toNat)
        case atStart => exact ⟨1, n - 1, [1, (n : Int) + 1], by omega, by simp, by first | rfl | (congr 1; omega), hide (by rw [show n - 1 = n + 1 - (1 + 1) by omega]; exact HZZ.out), R2, T2⟩
        case round =>
          obtain ⟨s, m, ys, hsm, hys, rfl, HE, HW, HT⟩ := hrel
          clear R2 T2
          cases m with
          | zero =>
            have j1 : ¬ ((s : Int) < (n : Int)) := by omega
            have HE' : Hid (ys = Z) := hide (by have := HE.out; simpa [goUp] using this)
            clear HE hsm
            go_wp2
            go_ret
            exact ⟨_, rfl, by rw [HM'.out, ← HE'.out]; exact HW.out, From.kept (Kept.refl w) HT.out⟩
          | succ m =>
            have j1 : (s : Int) < (n : Int) := by omega
            have j2 : s < n + 1 := by omega
            obtain ⟨z', hz'⟩ : ∃ p, q[s]? = some p := ⟨_, List.getElem?_eq_getElem (by have := HN.out; omega)⟩
            have HZ' := hide hz'
            have HS : Hid (ys.length ≤ 65540) := hide (by have := HL.out; have := HN.out; omega)
            have j3 : s < cap := by omega
            have zr : w.heap.size ≤ wr.heap.size := HT.out.size
            have hrow := HW.out.alloc (.cells #[.int .i64 ((s : Int) + 1)] 3)
            have HSM := hide hsm
            clear hz' hsm
            go_wp2_with (at_builtin; refine Stop.out ?_)
            refine ⟨?_⟩
            refine wpList_append_lies _ rfl _ _ 26 rfl w.heap.size 3 y0 (.int .i64 0) 1 8 Try.underlying26 hi' hz0 hz1 hz2 rfl (by decide) _ _ _ rfl hrow ⟨wr.heap.size, 0, none⟩ 1 1 [.int .i64 ((s : Int) + 1)] rfl rfl (one_new _ _ _) (by simp [Value.oneCell']) (by decide) (by have := HS.out; unfold maxLen; omega) (by have := HS.out; omega) (by simp; omega) (wr.heap.size + 1) (by simp) ?_
            intro g gc B1 hown hgrow hat hlt2
            have T1' := hide (HT.out.trans (turned_append HW.out hgrow))
            have R1' := hide (row_append hown)
            obtain ⟨_, _, e, _, g1'⟩ := (HO.out B1 T1'.out).at HZ'.out
            cases e
            clear hown hgrow hat hlt2 hrow HW HT
            by_cases hzk' : k < z'
            · have HE' : Hid (ys ++ [(s : Int) + 1] = Z) := hide (by
                have := HE.out
                rw [goUp_step, getD_some HZ'.out, if_pos hzk'] at this
                exact this)
              clear HE
              go_wp2
              go_ret
              exact ⟨_, rfl, by rw [HM'.out, ← HE'.out]; exact R1'.out, From.kept (Kept.refl w) T1'.out⟩
            · have HE' : Hid (ys ++ [(s : Int) + 1] ++ goUp q k m (s + 1 + 1) = Z) := hide (by
                have := HE.out
                rw [goUp_step, getD_some HZ'.out, if_neg hzk'] at this
                simpa using this)
              clear HE
              go_wp2
              first
              | exact ⟨⟨s + 1, m, ys ++ [(s : Int) + 1], by have := HSM.out; omega, by simp; omega, by simp, HE', R1', T1'⟩, by simp [intOf]; omega⟩
              | exact ⟨⟨s + 1, m, by have := HSM.out; omega, ys ++ [(s : Int) + 1], by simp; omega, by simp, HE', R1'⟩, by simp [intOf]; omega⟩
      · have i2 : (1 : Int) < (i : Int) + 1 := by omega
        have i3 : (i : Int) < 65536 := by omega
        have HI : Hid (0 < i) := hide (by omega)
        clear h0
        have hrow := R2.out.alloc (.cells #[.int .i64 ((i : Int) + 1)] 3)
        have zW := T2.out.size
        go_wp2_with (at_builtin; refine Stop.out ?_)
        refine ⟨?_⟩
        refine wpList_append_lies _ rfl _ _ 26 rfl w.heap.size 3 y0 (.int .i64 0) 1 8 Try.underlying26 hi' hz0 hz1 hz2 rfl (by decide) _ _ _ rfl hrow ⟨W.heap.size, 0, none⟩ 1 1 [.int .i64 ((i : Int) + 1)] rfl rfl (one_new _ _ _) (by simp [Value.oneCell']) (by decide) (by show 2 + 1 ≤ maxLen; unfold maxLen; omega) (by show (2 + 1) * 8 ≤ 140737488355328; omega) (by simp; omega) (W.heap.size + 1) (by simp) ?_
        intro g' gc' A3 hown hgrow hat hlt2
        have T3 := hide (T2.out.trans (turned_append R2.out hgrow))
        have R3 : Hid (Row A3 w.heap.size 3 (.slice (some ⟨g', 0, none⟩) 3 gc') [1, (n : Int) + 1, (i : Int) + 1]) := hide hown
        obtain ⟨_, _, e, _, g4⟩ := (HO.out A3 T3.out).at HZ.out
        cases e
        clear hown hgrow hat hlt2 hrow T2 R2 g3
        by_cases hzk : z ≤ k
        · have HM := hide (midP_up HI.out HZ.out hzk)
          rw [hn] at HM
          clear hn
          obtain ⟨Z, hZ⟩ : ∃ Z, [1, (n : Int) + 1, (i : Int) + 1] ++ goUp q k (n + 1 - (i + 1 + 1)) ((i + 1) + 1) = Z := ⟨_, rfl⟩
          have HM' : Hid (midP q k ((i + 1)) = Z) := hide (HM.out.trans hZ)
          have HZZ := hide hZ
          clear HM hZ
          go_wp2
          go_loopw [6, 8] (fun u vi wr => ∃ (s m : Nat) (ys : List Int), s + m = n ∧ ys.length ≤ s + 4 ∧ vi = .int .i64 ((s : Int) + 1) ∧ Hid (ys ++ goUp q k m (s + 1) = Z) ∧ Hid (Row wr w.heap.size 3 u ys) ∧ Hid (From w.heap.size w wr)) (fun _ vi _ => n + 1 - (intOf vi).toNat)
          case atStart => exact ⟨(i + 1), n - (i + 1), [1, (n : Int) + 1, (i : Int) + 1], by omega, by simp, by first | rfl | (congr 1; omega), hide (by rw [show n - (i + 1) = n + 1 - (i + 1 + 1) by omega]; exact HZZ.out), R3, T3⟩
          case round =>
            obtain ⟨s, m, ys, hsm, hys, rfl, HE, HW, HT⟩ := hrel
            clear R3 T3
            cases m with
            | zero =>
              have j1 : ¬ ((s : Int) < (n : Int)) := by omega
              have HE' : Hid (ys = Z) := hide (by have := HE.out; simpa [goUp] using this)
              clear HE hsm
              go_wp2
              go_ret
              exact ⟨_, rfl, by rw [HM'.out, ← HE'.out]; exact HW.out, From.kept (Kept.refl w) HT.out⟩
            | succ m =>
              have j1 : (s : Int) < (n : Int) := by omega
              have j2 : s < n + 1 := by omega
              obtain ⟨z', hz'⟩ : ∃ p, q[s]? = some p := ⟨_, List.getElem?_eq_getElem (by have := HN.out; omega)⟩
              have HZ' := hide hz'
              have HS : Hid (ys.length ≤ 65540) := hide (by have := HL.out; have := HN.out; omega)
              have j3 : s < cap := by omega
              have zr : w.heap.size ≤ wr.heap.size := HT.out.size
              have hrow := HW.out.alloc (.cells #[.int .i64 ((s : Int) + 1)] 3)
              have HSM := hide hsm
              clear hz' hsm
              go_wp2_with (at_builtin; refine Stop.out ?_)
              refine ⟨?_⟩
              refine wpList_append_lies _ rfl _ _ 26 rfl w.heap.size 3 y0 (.int .i64 0) 1 8 Try.underlying26 hi' hz0 hz1 hz2 rfl (by decide) _ _ _ rfl hrow ⟨wr.heap.size, 0, none⟩ 1 1 [.int .i64 ((s : Int) + 1)] rfl rfl (one_new _ _ _) (by simp [Value.oneCell']) (by decide) (by have := HS.out; unfold maxLen; omega) (by have := HS.out; omega) (by simp; omega) (wr.heap.size + 1) (by simp) ?_
              intro g gc B1 hown hgrow hat hlt2
              have T1' := hide (HT.out.trans (turned_append HW.out hgrow))
              have R1' := hide (row_append hown)
              obtain ⟨_, _, e, _, g1'⟩ := (HO.out B1 T1'.out).at HZ'.out
              cases e
              clear hown hgrow hat hlt2 hrow HW HT
              by_cases hzk' : k < z'
              · have HE' : Hid (ys ++ [(s : Int) + 1] = Z) := hide (by
                  have := HE.out
                  rw [goUp_step, getD_some HZ'.out, if_pos hzk'] at this
                  exact this)
                clear HE
                go_wp2
                go_ret
                exact ⟨_, rfl, by rw [HM'.out, ← HE'.out]; exact R1'.out, From.kept (Kept.refl w) T1'.out⟩
              · have HE' : Hid (ys ++ [(s : Int) + 1] ++ goUp q k m (s + 1 + 1) = Z) := hide (by
                  have := HE.out
                  rw [goUp_step, getD_some HZ'.out, if_neg hzk'] at this
                  simpa using this)
                clear HE
                go_wp2
                first
                | exact ⟨⟨s + 1, m, ys ++ [(s : Int) + 1], by have := HSM.out; omega, by simp; omega, by simp, HE', R1', T1'⟩, by simp [intOf]; omega⟩
                | exact ⟨⟨s + 1, m, by have := HSM.out; omega, ys ++ [(s : Int) + 1], by simp; omega, by simp, HE', R1'⟩, by simp [intOf]; omega⟩
        · have HM := hide (midP_down HI.out HZ.out hzk)
          rw [hn] at HM
          clear hn
          obtain ⟨J, rfl⟩ : ∃ J, i = J + 1 := ⟨i - 1, by have := HI.out; omega⟩
          have eJ : ((J + 1 : Nat) : Int) = (J : Int) + 1 := by omega
          have eJ2 : J + 1 + 1 - 2 = J := by omega
          rw [eJ2] at HM
          rw [eJ] at *
          have jJ : (J : Int) < 65536 := by omega
          clear eJ eJ2
          obtain ⟨Z, hZ⟩ : ∃ Z, [1, (n : Int) + 1, (J : Int) + 1 + 1] ++ goDown q k J = Z := ⟨_, rfl⟩
          have HM' : Hid (midP q k (J + 1 + 1) = Z) := hide (HM.out.trans hZ)
          have HZZ := hide hZ
          clear HM hZ
          go_wp2
          go_loopw [6, 9] (fun u vi wr => ∃ (m : Nat) (ys : List Int), m ≤ J ∧ ys.length + m ≤ J + 4 ∧ vi = .int .i64 ((m : Int) + 1) ∧ Hid (ys ++ goDown q k m = Z) ∧ Hid (Row wr w.heap.size 3 u ys) ∧ Hid (From w.heap.size w wr)) (fun _ vi _ => (intOf vi).toNat)
          case atStart => exact ⟨J, [1, (n : Int) + 1, (J : Int) + 1 + 1], Nat.le_refl _, by simp; omega, by first | rfl | (congr 1; omega), HZZ, R3, T3⟩
          case round =>
            obtain ⟨m, ys, hm, hys, rfl, HE, HW, HT⟩ := hrel
            clear R3 T3
            cases m with
            | zero =>
              have HE' : Hid (ys = Z) := hide (by have := HE.out; simpa [goDown] using this)
              clear HE
              go_wp2
              go_ret
              exact ⟨_, rfl, by rw [HM'.out, ← HE'.out]; exact HW.out, From.kept (Kept.refl w) HT.out⟩
            | succ m =>
              obtain ⟨z', hz'⟩ : ∃ p, q[m + 1]? = some p := ⟨_, List.getElem?_eq_getElem (by have := HN.out; omega)⟩
              have HZ' := hide hz'
              have HS : Hid (ys.length ≤ 65540) := hide (by have := HL.out; have := HN.out; omega)
              have j3 : m + 1 < cap := by omega
              have j4 : m + 1 < n + 1 := by omega
              have zr : w.heap.size ≤ wr.heap.size := HT.out.size
              have em : ((m + 1 : Nat) : Int) + 1 = (m : Int) + 2 := by omega
              rw [em]
              have hrow := HW.out.alloc (.cells #[.int .i64 ((m : Int) + 2)] 3)
              have HMM : Hid (m + 1 ≤ J ∧ ys.length + (m + 1) ≤ J + 4) := hide ⟨hm, hys⟩
              have j5 : (m : Int) < 9223372036854775000 := by omega
              have j6 : (1 : Int) < (m : Int) + 2 := by omega
              clear hz' em hm hys
              go_wp2_with (at_builtin; refine Stop.out ?_)
              refine ⟨?_⟩
              refine wpList_append_lies _ rfl _ _ 26 rfl w.heap.size 3 y0 (.int .i64 0) 1 8 Try.underlying26 hi' hz0 hz1 hz2 rfl (by decide) _ _ _ rfl hrow ⟨wr.heap.size, 0, none⟩ 1 1 [.int .i64 ((m : Int) + 2)] rfl rfl (one_new _ _ _) (by simp [Value.oneCell']) (by decide) (by have := HS.out; unfold maxLen; omega) (by have := HS.out; omega) (by simp; omega) (wr.heap.size + 1) (by simp) ?_
              intro g gc B1 hown hgrow hat hlt2
              have T1' := hide (HT.out.trans (turned_append HW.out hgrow))
              have R1' := hide (row_append hown)
              obtain ⟨_, _, e, _, g1'⟩ := (HO.out B1 T1'.out).at HZ'.out
              cases e
              clear hown hgrow hat hlt2 hrow HW HT
              by_cases hzk' : z' ≤ k
              · have HE' : Hid (ys ++ [(m : Int) + 2] = Z) := hide (by
                  have := HE.out
                  rw [goDown, getD_some HZ'.out, if_pos hzk'] at this
                  simpa using this)
                clear HE
                go_wp2
                go_ret
                exact ⟨_, rfl, by rw [HM'.out, ← HE'.out]; exact R1'.out, From.kept (Kept.refl w) T1'.out⟩
              · have HE' : Hid (ys ++ [(m : Int) + 2] ++ goDown q k m = Z) := hide (by
                  have := HE.out
                  rw [goDown, getD_some HZ'.out, if_neg hzk'] at this
                  simpa using this)
                clear HE
                go_wp2
                exact ⟨⟨m, ys ++ [(m : Int) + 2], by have := HMM.out; omega, by have := HMM.out; simp; omega, by first | rfl | (congr 1; omega), HE', R1', T1'⟩, by simp [intOf]; omega⟩
end Go.Proofs.Ytmfpfoikfpcnkaa
