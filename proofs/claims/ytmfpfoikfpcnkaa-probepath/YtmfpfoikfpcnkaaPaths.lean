/-
  What probe.Path answers (a contract): the path of chapter 6, in new memory; nothing that lay is turned.
-/
import Derived.Test.YtmfpfoikfpcnkaaWalks
namespace Go.Proofs.Ytmfpfoikfpcnkaa
open Go.RowKit

/-- A new slice of these numbers. -/
def Sliced (xs : List Int) (w : World) (e : Ending) (w' : World) : Prop := ∃ v, e = .returned v ∧ Row w' w.heap.size 3 v xs ∧ Kept w w'

theorem midP_one {q : List Int} {k z : Int} (hz : q[0]? = some z) (h : z ≤ k) : midP q k 1 = [1, (q.length : Int)] ++ goUp q k (q.length - (1 + 1)) (1 + 1) := by
  unfold midP
  rw [if_neg (by omega), getD_some hz, if_pos h]
  rfl
theorem midP_up {q : List Int} {k z : Int} {i : Nat} (hi : 0 < i) (hz : q[i]? = some z) (h : z ≤ k) : midP q k (i + 1) = [1, (q.length : Int), (i : Int) + 1] ++ goUp q k (q.length - (i + 1 + 1)) (i + 1 + 1) := by
  unfold midP
  rw [if_pos (by omega), Nat.add_sub_cancel, getD_some hz, if_pos h]
  rfl
theorem midP_down {q : List Int} {k z : Int} {i : Nat} (hi : 0 < i) (hz : q[i]? = some z) (h : ¬ z ≤ k) : midP q k (i + 1) = [1, (q.length : Int), (i : Int) + 1] ++ goDown q k (i + 1 - 2) := by
  unfold midP
  rw [if_pos (by omega), Nat.add_sub_cancel, getD_some hz, if_neg h]
  rfl
theorem pathP_not {q : List Int} {k : Int} (h : upB q = false) : pathP q k = [] := by
  simp only [upB, decide_eq_false_iff_not] at h
  unfold pathP
  rw [if_neg h]
theorem pathP_nil (k : Int) : pathP [] k = [] := by
  unfold pathP
  split <;> rfl
theorem pathP_one {q : List Int} {k x : Int} (h : upB q = true) (hx : q[0]? = some x) (hk : k < x ∨ q.length = 1) : pathP q k = [1] := by
  simp only [upB, decide_eq_true_eq] at h
  unfold pathP
  rw [if_pos h]
  cases q with
  | nil => simp at hx
  | cons y r =>
    obtain rfl : y = x := by simpa using hx
    show (if k < y ∨ r = [] then _ else _) = _
    rw [if_pos (hk.imp id (fun e => List.length_eq_zero_iff.1 (by simpa using e)))]
theorem pathP_ends {q : List Int} {k x y : Int} {n : Nat} (h : upB q = true) (hn : q.length = n + 1) (hn1 : 0 < n) (hx : q[0]? = some x) (hy : q[n]? = some y) (hk : x ≤ k) (hk' : y ≤ k) : pathP q k = [1, (n : Int) + 1] := by
  simp only [upB, decide_eq_true_eq] at h
  unfold pathP
  rw [if_pos h]
  cases q with
  | nil => simp at hx
  | cons z r =>
    obtain rfl : z = x := by simpa using hx
    show (if k < z ∨ r = [] then _ else _) = _
    have e : (z :: r).length - 1 = n := by omega
    rw [if_neg, e, getD_some hy, if_pos hk', hn]
    · rfl
    · rintro (g | rfl)
      · omega
      · simp at hn
        omega
theorem pathP_mid {q : List Int} {k x y : Int} {n : Nat} (h : upB q = true) (hn : q.length = n + 1) (hn1 : 0 < n) (hx : q[0]? = some x) (hy : q[n]? = some y) (hk : x ≤ k) (hk' : ¬ y ≤ k) : pathP q k = midP q k (guessZ x y k ((n : Int) + 1)).toNat := by
  simp only [upB, decide_eq_true_eq] at h
  unfold pathP
  rw [if_pos h]
  cases q with
  | nil => simp at hx
  | cons z r =>
    obtain rfl : z = x := by simpa using hx
    show (if k < z ∨ r = [] then _ else _) = _
    have e : (z :: r).length - 1 = n := by omega
    rw [if_neg, e, getD_some hy, if_neg hk', hn]
    · rfl
    · rintro (g | rfl)
      · omega
      · simp at hn
        omega

/-- The guess of a list whose first key is not above k and whose last one is: its place, from 0 on. -/
theorem guess_nat {x y k : Int} {n : Nat} (hn : 0 < n) (hn' : n + 1 ≤ 65536) (h1 : x ≤ k) (h2 : k < y) : ∃ i : Nat, guessZ x y k ((n : Int) + 1) = (i : Int) + 1 ∧ i < n := by
  have := guess_bound (a := x) (b := y) (k := k) (n := (n : Int) + 1) (by omega)
  exact ⟨(guessZ x y k ((n : Int) + 1) - 1).toNat, by omega, by omega⟩

set_option maxRecDepth 100000 in
theorem between_c (w : World) (a : Option Addr) (q : List Int) (cap : Nat) (k x y : Int) (n : Nat) (hr : Reads w a q) (hc : q.length ≤ cap) (hl : q.length ≤ 65536)
    (hn : q.length = n + 1) (hn1 : 0 < n) (hx : q[0]? = some x) (hy : q[n]? = some y) (hk : x ≤ k) (hk' : k < y)
    (wx : (Lit.int .i64 x).wf = true) (wy : (Lit.int .i64 y).wf = true) (wk : (Lit.int .i64 k).wf = true) :
    Calls Try.prog 24 #[.slice a q.length cap, .int .i64 k] w (Sliced (midP q k (guessZ x y k ((n : Int) + 1)).toNat) w) := by
  obtain ⟨y0, hi', hz0, hz1, hz2⟩ := info_parts info3
  obtain ⟨i, hgi, hin⟩ := guess_nat hn1 (by omega) hk hk'
  have HG := hide (fun w => guess_c x y k ((n : Int) + 1) wx wy wk w)
  rw [hgi] at HG ⊢
  have et : ((i : Int) + 1).toNat = i + 1 := by omega
  rw [et]
  clear hgi et wx wy wk
  obtain ⟨z, hz⟩ : ∃ z, q[i]? = some z := ⟨_, List.getElem?_eq_getElem (by omega)⟩
  have HO := hide hr.old
  have HQ := hide hc
  have HL := hide hl
  have HZ := hide hz
  have HN := hide hn
  have hl' : (n : Int) ≤ 65536 := by omega
  have r0 : Row (w.alloc (.cells #[.int .i64 1, .int .i64 ((n : Int) + 1)] 3)) w.heap.size 3 (.slice (some ⟨w.heap.size, 0, none⟩) 2 2) [1, (n : Int) + 1] := row_new w 3 [1, (n : Int) + 1] w.heap.size (Nat.le_refl _) (by simp)
  obtain ⟨bl, off, rfl, hbl, g1, g2⟩ := hr.two hx hy
  obtain ⟨_, _, e, _, g3⟩ := hr.at hz
  cases e
  have c0 : 0 < cap := by omega
  have c1 : n < cap := by omega
  have c2 : i < cap := by omega
  have i1 : (i : Int) < (n : Int) := by omega
  simp only [Nat.add_zero] at g1
  clear hr hc hl hz hx hy
  rw [hn]
  have K0 : ∀ m : Nat, Kept w ((w.alloc (.cells #[.int .i64 1, .int .i64 ((n : Int) + 1)] 3)).drewN m) := fun m => ((Kept.refl w).alloc _).drewN' m
  by_cases h0 : i = 0
  · subst h0
    have hzx : z = x := by
      rw [Nat.add_zero, g1] at g3
      cases g3
      rfl
    subst hzx
    have HM := hide (midP_one HZ.out hk)
    rw [hn] at HM
    have HU := hide (fun (m : Nat) => walkUp_c ((w.alloc (.cells #[.int .i64 1, .int .i64 ((n : Int) + 1)] 3)).drewN m) w.heap.size _ _ _ q cap k 1 (r0.kept (Kept.drewN _ m)) (by simp) (HO.out.turned (From.of_kept (K0 m))) HQ.out HL.out (by simp) (by omega))
    rw [hn] at HU
    have HG' : Hid (∀ w : World, Calls Try.prog 15 #[.int .i64 z, .int .i64 y, .int .i64 k, .int .i64 ((n : Int) + 1)] w fun e w' => e = .returned (.int .i64 1) ∧ ∃ m, w' = w.drewN m) := HG
    have HU' : Hid (∀ m : Nat, Calls Try.prog 32 #[.slice (some ⟨w.heap.size, 0, none⟩) 2 2, .slice (some ⟨bl, off, none⟩) (n + 1) cap, .int .i64 k, .int .i64 1] ((w.alloc (.cells #[.int .i64 1, .int .i64 ((n : Int) + 1)] 3)).drewN m) (Pathed w.heap.size ([1, (n : Int) + 1] ++ goUp q k (n + 1 - (1 + 1)) (1 + 1)) ((w.alloc (.cells #[.int .i64 1, .int .i64 ((n : Int) + 1)] 3)).drewN m))) := HU
    have HK := hide K0
    clear hn r0 g3 HG HU K0 i1 hin
    go_enter Try.func24, Try.ntmps24
    go_wp2
    go_quiet (first | (go_at_call 15; refine Calls.quiet_of (HG'.out _)))
    go_wp2_with (fail)
    refine (HU'.out nq).mono ?_
    rintro e w' ⟨v', rfl, hrow, hT⟩
    have HRW := hide hrow
    have HTT := hide hT
    clear hrow hT
    go_wp2
    go_ret
    exact ⟨_, rfl, by rw [HM.out]; exact HRW.out, From.kept (HK.out nq) HTT.out⟩
  · have i2 : (1 : Int) < (i : Int) + 1 := by omega
    have i3 : (i : Int) < 65536 := by omega
    have HI : Hid (0 < i) := hide (by omega)
    clear h0
    go_enter Try.func24, Try.ntmps24
    go_wp2
    go_quiet (first | (go_at_call 15; refine Calls.quiet_of (HG.out _)))
    have rW := r0.kept (Kept.drewN _ nq)
    have kW := K0 nq
    obtain ⟨W, hW⟩ : ∃ W, (w.alloc (.cells #[.int .i64 1, .int .i64 ((n : Int) + 1)] 3)).drewN nq = W := ⟨_, rfl⟩
    rw [hW] at rW kW ⊢
    have KW := hide kW
    have RW := hide rW
    have hrow := rW.alloc (.cells #[.int .i64 ((i : Int) + 1)] 3)
    have zW := kW.size
    clear r0 K0 rW kW hW g1 g2 g3 HG c0 c1
    go_wp2_with (at_builtin; refine Stop.out ?_)
    refine ⟨?_⟩
    refine wpList_append_lies _ rfl _ _ 26 rfl w.heap.size 3 y0 (.int .i64 0) 1 8 Try.underlying26 hi' hz0 hz1 hz2 rfl (by decide) _ _ _ rfl hrow ⟨W.heap.size, 0, none⟩ 1 1 [.int .i64 ((i : Int) + 1)] rfl rfl (one_new _ _ _) (by simp [Value.oneCell']) (by decide) (by show 2 + 1 ≤ maxLen; unfold maxLen; omega) (by show (2 + 1) * 8 ≤ 140737488355328; omega) (by simp; omega) (W.heap.size + 1) (by simp) ?_
    intro g gc A1 hown hgrow hat hlt2
    have T1 := hide ((From.of_kept KW.out).trans (turned_append RW.out hgrow))
    have R1 : Hid (Row A1 w.heap.size 3 (.slice (some ⟨g, 0, none⟩) 3 gc) [1, (n : Int) + 1, (i : Int) + 1]) := hide hown
    have zA := T1.out.size
    obtain ⟨_, _, e, _, g3⟩ := (HO.out A1 T1.out).at HZ.out
    cases e
    clear hown hgrow hat hlt2 hrow
    by_cases hzk : z ≤ k
    · have HM := hide (midP_up HI.out HZ.out hzk)
      have HU := hide (walkUp_c A1 w.heap.size _ _ _ q cap k (i + 1) R1.out zA (HO.out.turned T1.out) HQ.out HL.out (by simp) (by omega))
      rw [hn] at HM HU
      clear hn
      go_wp2_with (fail)
      refine HU.out.mono ?_
      rintro e w' ⟨v', rfl, hrow, hT⟩
      have HRW := hide hrow
      have HTT := hide hT
      clear hrow hT
      go_wp2
      go_ret
      exact ⟨_, rfl, by rw [HM.out]; exact HRW.out, From.kept (Kept.refl w) (T1.out.trans HTT.out)⟩
    · have HM := hide (midP_down HI.out HZ.out hzk)
      have HU := hide (walkDown_c A1 w.heap.size _ _ _ q cap k (i + 1) R1.out zA (HO.out.turned T1.out) HQ.out HL.out (by simp) (by omega) (by have := HI.out; omega))
      rw [hn] at HM HU
      clear hn
      go_wp2_with (fail)
      refine HU.out.mono ?_
      rintro e w' ⟨v', rfl, hrow, hT⟩
      have HRW := hide hrow
      have HTT := hide hT
      clear hrow hT
      go_wp2
      go_ret
      exact ⟨_, rfl, by rw [HM.out]; exact HRW.out, From.kept (Kept.refl w) (T1.out.trans HTT.out)⟩

theorem row_nil (w : World) (n₀ : Nat) : Row w n₀ 3 (.slice none 0 0) [] := World.ownsRow_nil _ _ _ _

set_option maxRecDepth 100000 in
theorem path_c (w : World) (a : Option Addr) (q : List Int) (cap : Nat) (k : Int) (hr : Reads w a q) (hc : q.length ≤ cap) (hm : cap ≤ maxLen) (hw : ∀ z ∈ q, (Lit.int .i64 z).wf = true) (wk : (Lit.int .i64 k).wf = true) :
    Calls Try.prog 13 #[.slice a q.length cap, .int .i64 k] w (Sliced (pathP q k) w) := by
  by_cases h0 : q = []
  · subst h0
    rw [pathP_nil]
    clear hr hc hm hw wk
    go_enter Try.func13, Try.ntmps13
    go_wp2
    go_ret
    exact ⟨_, rfl, row_nil _ _, Kept.refl _⟩
  obtain ⟨n, hn⟩ : ∃ n, q.length = n + 1 := ⟨q.length - 1, by have := List.length_pos_iff.2 h0; omega⟩
  have hml : (n : Int) ≤ 9223372036854775806 := by unfold maxLen at hm; omega
  have HC := hide (right_c w a q cap hr hc hm)
  have ne : ((n : Int) + 1 == 0) = false := by simp only [beq_eq_false_iff_ne, ne_eq]; omega
  cases hu : upB q with
  | false =>
    rw [pathP_not hu]
    rw [hu, hn] at HC
    rw [hn]
    clear hr hc hm hu hw wk h0 hn
    go_enter Try.func13, Try.ntmps13
    go_wp2_with (fail)
    refine HC.out.mono ?_
    rintro e w' ⟨rfl, m, rfl⟩
    go_wp2
    go_ret
    exact ⟨_, rfl, row_nil _ _, Kept.drewN _ _⟩
  | true =>
    obtain ⟨hl, hp⟩ := up_parts hu
    obtain ⟨x, hx⟩ : ∃ z, q[0]? = some z := ⟨_, List.getElem?_eq_getElem (by omega)⟩
    obtain ⟨y, hy⟩ : ∃ z, q[n]? = some z := ⟨_, List.getElem?_eq_getElem (by omega)⟩
    have wx := hw x (List.mem_of_getElem? hx)
    have wy := hw y (List.mem_of_getElem? hy)
    obtain ⟨bl, off, rfl, hbl, g1, g2⟩ := hr.two hx hy
    simp only [Nat.add_zero] at g1
    have c0 : 0 < cap := by omega
    have c1 : n < cap := by omega
    have HN := hide hn
    rw [hu] at HC
    by_cases h1 : n = 0
    · subst h1
      rw [pathP_one hu hx (.inr hn)]
      rw [hn] at HC ⊢
      clear hr hc hm hu hw wk h0 hn hl hp hx hy wx wy ne
      go_enter Try.func13, Try.ntmps13
      go_wp2_with (fail)
      refine HC.out.mono ?_
      rintro e w' ⟨rfl, m, rfl⟩
      go_wp2
      go_ret
      exact ⟨_, rfl, row_new _ 3 [1] _ (by simp) (by simp), (Kept.drewN w m).alloc _⟩
    · have ne1 : ((n : Int) + 1 == 1) = false := by simp only [beq_eq_false_iff_ne, ne_eq]; omega
      by_cases h2 : k < x
      · rw [pathP_one hu hx (.inl h2)]
        rw [hn] at HC ⊢
        clear hr hc hm hu hw wk h0 hn hl hp hx hy wx wy
        go_enter Try.func13, Try.ntmps13
        go_wp2_with (fail)
        refine HC.out.mono ?_
        rintro e w' ⟨rfl, m, rfl⟩
        go_wp2
        go_ret
        exact ⟨_, rfl, row_new _ 3 [1] _ (by simp) (by simp), (Kept.drewN w m).alloc _⟩
      · by_cases h3 : y ≤ k
        · rw [pathP_ends hu hn (by omega) hx hy (by omega) h3]
          rw [hn] at HC ⊢
          clear hr hc hm hu hw wk h0 hn hl hp hx hy wx wy
          go_enter Try.func13, Try.ntmps13
          go_wp2_with (fail)
          refine HC.out.mono ?_
          rintro e w' ⟨rfl, m, rfl⟩
          go_wp2
          go_ret
          exact ⟨_, rfl, row_new _ 3 [1, (n : Int) + 1] _ (by simp) (by simp), (Kept.drewN w m).alloc _⟩
        · have HB := hide (fun m => between_c (w.drewN m) _ q cap k x y n (hr.drewN m) hc hl hn (by omega) hx hy (by omega) (by omega) wx wy wk)
          rw [pathP_mid hu hn (by omega) hx hy (by omega) h3]
          rw [hn] at HC HB ⊢
          have h3' : ¬ (y ≤ k) := h3
          clear hr hc hm hu hw wk h0 hn hl hp hx hy wx wy h3
          go_enter Try.func13, Try.ntmps13
          go_wp2_with (fail)
          refine HC.out.mono ?_
          rintro e w' ⟨rfl, m, rfl⟩
          go_wp2_with (fail)
          refine (HB.out m).mono ?_
          rintro e w' ⟨v', rfl, hrow, hT⟩
          have HRW := hide hrow
          have HTT := hide hT
          clear hrow hT
          go_wp2
          go_ret
          exact ⟨_, rfl, HRW.out, (Kept.drewN w m).trans HTT.out⟩
end Go.Proofs.Ytmfpfoikfpcnkaa
