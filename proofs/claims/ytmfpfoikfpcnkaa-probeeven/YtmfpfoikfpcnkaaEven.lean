/-
  What 'ProbeEven' of the statements of chapter 6 answers: true; nothing that lay is turned.
-/
import Derived.Test.YtmfpfoikfpcnkaaWide
import Derived.Test.YtmfpfoikfpcnkaaKn
import Derived.Test.YtmfpfoikfpcnkaaProbeB
namespace Go.Proofs.Ytmfpfoikfpcnkaa
open Go.RowKit

/-- Keys that lie evenly. -/
def evenN (a s : Int) (n : Nat) : List Int := (List.range n).map fun i : Nat => a + (i : Int) * s
theorem even_succ (a s : Int) (n : Nat) : evenN a s (n + 1) = evenN a s n ++ [a + (n : Int) * s] := by
  simp [evenN, List.range_succ]
theorem even_length (a s : Int) (n : Nat) : (evenN a s n).length = n := by simp [evenN]
theorem even_at {a s : Int} {n i : Nat} (h : i < n) : (evenN a s n)[i]? = some (a + (i : Int) * s) := by
  simp [evenN, h]
theorem even_get {a s : Int} {n i : Nat} {z : Int} (h : (evenN a s n)[i]? = some z) : i < n ∧ z = a + (i : Int) * s := by
  have hi := (List.getElem?_eq_some_iff.1 h).1
  rw [even_length] at hi
  rw [even_at hi] at h
  exact ⟨hi, by simpa using h.symm⟩
theorem even_mem {a s : Int} {n : Nat} {z : Int} (h : z ∈ evenN a s n) : ∃ i : Nat, i < n ∧ z = a + (i : Int) * s := by
  simp only [evenN, List.mem_map, List.mem_range] at h
  obtain ⟨i, hi, rfl⟩ := h
  exact ⟨i, hi, rfl⟩
theorem mul_step {s : Int} (hs : 0 < s) {i j : Nat} (h : i < j) : (i : Int) * s + s ≤ (j : Int) * s := by
  have h1 : ((i : Int) + 1) * s ≤ (j : Int) * s := Int.mul_le_mul_of_nonneg_right (by omega) (by omega)
  rw [Int.add_mul, Int.one_mul] at h1
  exact h1
theorem mul_le {s : Int} (hs : 0 < s) {i j : Nat} (h : i ≤ j) : (i : Int) * s ≤ (j : Int) * s := Int.mul_le_mul_of_nonneg_right (by omega) (by omega)
theorem even_up {a s : Int} (hs : 0 < s) {n : Nat} (hn : n ≤ 65536) : upB (evenN a s n) = true := by
  refine up_true (by rw [even_length]; exact hn) ?_
  rw [List.pairwise_iff_getElem]
  intro i j hi hj hij
  obtain ⟨_, e1⟩ := even_get (List.getElem?_eq_getElem hi)
  obtain ⟨_, e2⟩ := even_get (List.getElem?_eq_getElem hj)
  rw [e1, e2]
  have := mul_step hs hij
  omega
theorem even_find {a s : Int} (hs : 0 < s) {n : Nat} (hn : n + 1 ≤ 65536) : findN (evenN a s (n + 1)) a = 1 ∧ findN (evenN a s (n + 1)) (a - 1) = 0 ∧ findN (evenN a s (n + 1)) (a + s * ((n : Int) + 1)) = n + 1 := by
  have hu := even_up (a := a) hs hn
  have h0 : (evenN a s (n + 1))[0]? = some a := by rw [even_at (by omega)]; simp
  obtain ⟨h1, h2⟩ := find_own hu h0
  refine ⟨h1, h2, ?_⟩
  rw [find_all hu, even_length]
  intro z hz
  obtain ⟨i, hi, rfl⟩ := even_mem hz
  have := mul_le hs (show i ≤ n + 1 by omega)
  have e : ((n + 1 : Nat) : Int) * s = s * ((n : Int) + 1) := by rw [Int.mul_comm]; rfl
  omega
theorem even_find' {a s : Int} (hs : 0 < s) {n : Nat} (h0 : 0 < n) (hn : n ≤ 65536) : findN (evenN a s n) a = 1 ∧ findN (evenN a s n) (a - 1) = 0 ∧ findN (evenN a s n) (a + s * (n : Int)) = n := by
  obtain ⟨m, rfl⟩ : ∃ m, n = m + 1 := ⟨n - 1, by omega⟩
  exact even_find hs hn
/-- The guess is right. -/
theorem even_path {a s : Int} (hs : 0 < s) {n : Nat} (hn : n ≤ 65536) (x : Int) : (pathP (evenN a s n) x).length ≤ 4 := by
  have hu := even_up (a := a) hs hn
  cases n with
  | zero =>
    have e : evenN a s 0 = [] := rfl
    rw [e, pathP_nil]
    simp
  | succ n =>
    have hl := even_length a s (n + 1)
    have hx : (evenN a s (n + 1))[0]? = some a := by rw [even_at (by omega)]; simp
    have hy : (evenN a s (n + 1))[n]? = some (a + (n : Int) * s) := even_at (by omega)
    by_cases h2 : x < a
    · rw [pathP_one hu hx (.inl h2)]
      simp
    · by_cases h1 : n = 0
      · subst h1
        rw [pathP_one hu hx (.inr hl)]
        simp
      · by_cases h3 : a + (n : Int) * s ≤ x
        · rw [pathP_ends hu hl (by omega) hx hy (by omega) h3]
          simp
        · rw [pathP_mid hu hl (by omega) hx hy (by omega) h3]
          have hg := guess_some (a := a) (b := a + (n : Int) * s) (k := x) (n := (n : Int) + 1) (by omega)
          have e1 : (n : Int) + 1 - 1 = n := by omega
          have e2 : a + (n : Int) * s - a = (n : Int) * s := by omega
          rw [e1, e2, Int.mul_comm (x - a), Int.mul_ediv_mul_of_pos _ _ (by omega)] at hg
          have d1 : 0 ≤ (x - a) / s := Int.ediv_nonneg (by omega) (by omega)
          have d2 : (x - a) / s < n := (Int.ediv_lt_iff_lt_mul hs).2 (by omega)
          obtain ⟨i, hi⟩ : ∃ i : Nat, (x - a) / s = i := ⟨((x - a) / s).toNat, by omega⟩
          rw [hg, hi]
          have et : (1 + (i : Int)).toNat = i + 1 := by omega
          rw [et]
          have hin : i < n := by omega
          have q1 : (i : Int) * s ≤ x - a := by
            have := Int.ediv_mul_le (x - a) (show s ≠ 0 by omega)
            rwa [hi] at this
          have q2 : x - a < (i : Int) * s + s := by
            have := Int.lt_ediv_add_one_mul_self (x - a) hs
            rw [hi, Int.add_mul, Int.one_mul] at this
            exact this
          have hz : (evenN a s (n + 1))[i]? = some (a + (i : Int) * s) := even_at (by omega)
          have hz1 : (evenN a s (n + 1)).getD (i + 1) 0 = a + ((i + 1 : Nat) : Int) * s := getD_some (even_at (by omega))
          have e3 : ((i + 1 : Nat) : Int) * s = (i : Int) * s + s := by
            rw [show ((i + 1 : Nat) : Int) = (i : Int) + 1 from rfl, Int.add_mul, Int.one_mul]
          have ups : ∀ m, (goUp (evenN a s (n + 1)) x m (i + 1 + 1)).length ≤ 1 := by
            intro m
            cases m with
            | zero => simp [goUp]
            | succ m =>
              rw [goUp_step, hz1, if_pos (by omega)]
              simp
          have := ups ((evenN a s (n + 1)).length - (i + 1 + 1))
          by_cases hi0 : i = 0
          · subst hi0
            rw [midP_one hz (by omega), List.length_append]
            simp only [List.length_cons, List.length_nil, Nat.zero_add] at this ⊢
            omega
          · rw [midP_up (by omega) hz (by omega), List.length_append]
            simp only [List.length_cons, List.length_nil]
            omega

set_option maxRecDepth 100000 in
set_option maxHeartbeats 2000000 in
theorem even_c (w : World) (f b n k : Int) :
    Calls Try.prog 8 #[.int .i64 f, .int .i64 b, .int .i64 n, .int .i64 k] w fun e w' => e = .returned (.bool true) ∧ Kept w w' := by
  obtain ⟨y0, hi', hz0, hz1, hz2⟩ := info_parts info2
  have HC1 := hide (fun w => cut_c f 2000000 (by omega) (by omega) w)
  have HC2 := hide (fun w => cut_c b 100000 (by omega) (by omega) w)
  have HC3 := hide (fun w => cut_c n 300 (by omega) (by omega) w)
  have HC4 := hide (fun w => cut_c k 1099511627776 (by omega) (by omega) w)
  have f1 := Int.emod_nonneg f (show (2000000 : Int) ≠ 0 by omega)
  have f2 := Int.emod_lt_of_pos f (show (0 : Int) < 2000000 by omega)
  have b1 := Int.emod_nonneg b (show (100000 : Int) ≠ 0 by omega)
  have b2 := Int.emod_lt_of_pos b (show (0 : Int) < 100000 by omega)
  have n1 := Int.emod_nonneg n (show (300 : Int) ≠ 0 by omega)
  have n2 := Int.emod_lt_of_pos n (show (0 : Int) < 300 by omega)
  have k1 := Int.emod_nonneg k (show (1099511627776 : Int) ≠ 0 by omega)
  have k2 := Int.emod_lt_of_pos k (show (0 : Int) < 1099511627776 by omega)
  obtain ⟨F, hF⟩ : ∃ F, f % 2000000 = F + 1000000 := ⟨f % 2000000 - 1000000, by omega⟩
  obtain ⟨S, hS⟩ : ∃ S, b % 100000 = S - 1 := ⟨b % 100000 + 1, by omega⟩
  obtain ⟨L, hL⟩ : ∃ L : Nat, n % 300 = L := ⟨(n % 300).toNat, by omega⟩
  obtain ⟨c, hc⟩ : ∃ c, k % 1099511627776 = c := ⟨_, rfl⟩
  rw [hF] at f1 f2 HC1
  rw [hS] at b1 b2 HC2
  rw [hL] at n1 n2 HC3
  rw [hc] at k1 k2 HC4
  clear hF hS hL hc
  have hSp : 0 < S := by omega
  have m0 : 0 ≤ S * (L : Int) := Int.mul_nonneg (by omega) (by omega)
  have m1 : S * (L : Int) ≤ 100000 * 300 := Int.mul_le_mul (by omega) (by omega) (by omega) (by omega)
  obtain ⟨M, hM⟩ : ∃ M, S * (L : Int) = M := ⟨_, rfl⟩
  rw [hM] at m0 m1
  have HM := hide hM
  have wM : wrap64 (S * (L : Int)) = M := by rw [hM]; exact wrap_same (by omega) (by omega)
  have r1 := Int.tmod_nonneg (M + 10) k1
  have r2 := Int.tmod_lt_of_pos c (show 0 < M + 10 by omega)
  obtain ⟨R, hR⟩ : ∃ R, c.tmod (M + 10) = R := ⟨_, rfl⟩
  rw [hR] at r1 r2
  have nz : (M + 10 == 0) = false := by simp only [beq_eq_false_iff_ne, ne_eq]; omega
  have nz1 : (M + 10 == -1) = false := by simp only [beq_eq_false_iff_ne, ne_eq]; omega
  have HS := hide hSp
  have es : 1 + (S - 1) = S := by omega
  clear hM
  go_enter Try.func8, Try.ntmps8
  go_wp2_with (fail)
  refine (HC1.out _).mono ?_
  rintro e w' ⟨rfl, rfl⟩
  go_wp2_with (fail)
  refine (HC2.out _).mono ?_
  rintro e w' ⟨rfl, rfl⟩
  go_wp2_with (fail)
  refine (HC3.out _).mono ?_
  rintro e w' ⟨rfl, rfl⟩
  go_wp2
  go_loopw [11, 12] (fun u vi wr => ∃ (t : Nat) (ys : List Int), t ≤ L ∧ ys.length ≤ t ∧ vi = .int .i64 t ∧ Hid (ys = evenN F S t) ∧ Hid (Row wr w.heap.size 2 u ys) ∧ Hid (Kept w wr)) (fun _ vi _ => L - (intOf vi).toNat)
  case atStart => exact ⟨0, [], Nat.zero_le _, Nat.le_refl _, rfl, hide rfl, hide (World.ownsRow_nil _ _ _ _), hide (Kept.refl _)⟩
  case round =>
    obtain ⟨t, ys, ht, hys, rfl, HY, HW, HK⟩ := hrel
    by_cases hlt : t < L
    · have p0 : 0 ≤ (t : Int) * S := Int.mul_nonneg (by omega) (by omega)
      have p1 : (t : Int) * S ≤ 300 * 100000 := Int.mul_le_mul (by omega) (by omega) (by omega) (by omega)
      obtain ⟨P, hP⟩ : ∃ P, (t : Int) * S = P := ⟨_, rfl⟩
      rw [hP] at p0 p1
      have wP : wrap64 ((t : Int) * S) = P := by rw [hP]; exact wrap_same (by omega) (by omega)
      have HY1 : Hid (ys ++ [F + P] = evenN F S (t + 1)) := hide (by rw [even_succ, hP, HY.out])
      have i1 : (t : Int) < (L : Int) := by omega
      have hrow := HW.out.alloc (.cells #[.int .i64 (F + P)] 2)
      have zr := HK.out.size
      have hyl : ys.length ≤ 300 := by omega
      clear hP wM
      go_wp2_with (at_builtin; refine Stop.out ?_)
      refine ⟨?_⟩
      refine wpList_append_lies _ rfl _ _ 22 rfl w.heap.size 2 y0 (.int .i64 0) 1 8 Try.underlying22 hi' hz0 hz1 hz2 rfl (by decide) _ _ _ rfl hrow ⟨wr.heap.size, 0, none⟩ 1 1 [.int .i64 (F + P)] rfl rfl (one_new _ _ _) (by simp [Value.oneCell']) (by decide) (by unfold maxLen; omega) (by omega) (by simp; omega) (wr.heap.size + 1) (by simp) ?_
      intro g gc A1 hown hgrow hat hlt2
      have T1 := hide (From.kept HK.out (turned_append HW.out hgrow))
      have R1 := hide (row_append2 hown)
      have HYL : Hid ((ys ++ [F + P]).length ≤ t + 1) := hide (by simp; omega)
      clear hown hgrow hat hlt2 hrow HW HK HY
      go_wp2
      exact ⟨⟨t + 1, ys ++ [F + P], by omega, HYL.out, by simp, HY1, R1, T1⟩, by simp [intOf]; omega⟩
    · obtain rfl : t = L := by omega
      have i1 : ¬ ((t : Int) < (t : Int)) := by omega
      obtain ⟨qa, qc, rfl, hq1, hq2, hq3, _⟩ := HW.out.reads
      have hqs := HY.out
      have KK := HK
      have RQ := hide hq1
      have CQ := hide hq2
      have MQ := hide hq3
      have hyl : ys.length = t := by rw [hqs, even_length]
      have HP := hide (even_path (a := F) HS.out (show t ≤ 65536 by omega) (F - 5 + R))
      have HU := hide (even_up (a := F) HS.out (show t ≤ 65536 by omega))
      have HWF : Hid (∀ z ∈ ys, (Lit.int .i64 z).wf = true) := hide fun z hz => by
        rw [hqs] at hz
        obtain ⟨i, hi, rfl⟩ := even_mem hz
        have h1 := mul_le HS.out (show i ≤ t by omega)
        have h2 : 0 ≤ (i : Int) * S := Int.mul_nonneg (by omega) (by omega)
        have h3 := HM.out
        rw [Int.mul_comm] at h3
        exact wf_of (by omega) (by omega)
      have WX : Hid ((Lit.int .i64 (F - 5 + R)).wf = true) := hide (wf_of (by omega) (by omega))
      rw [← hqs] at HP HU
      have HQS := hide hqs
      rw [hyl]
      have PK : Hid (∀ W, Reads W qa ys → Calls Try.prog 13 #[.slice qa t qc, .int .i64 (F - 5 + R)] W (fun e w' => ∃ (a' : Option Addr) (l c' : Nat), e = .returned (.slice a' l c') ∧ (l : Int) ≤ 4 ∧ Kept W w')) := hide fun W h => by
        have := (path_c W qa ys qc (F - 5 + R) h CQ.out MQ.out HWF.out WX.out).mono (fun e w' h => (show ∃ (a' : Option Addr) (l c' : Nat), e = .returned (.slice a' l c') ∧ (l : Int) ≤ 4 ∧ Kept W w' from by
          obtain ⟨a', c', he, _, _, _, hk⟩ := sliced_at h
          exact ⟨a', _, c', he, by have := HP.out; omega, hk⟩))
        rwa [hyl] at this
      have FK : Hid (∀ (W : World) (x : Int) (r : Nat), Reads W qa ys → findN ys x = r → Calls Try.prog 12 #[.slice qa t qc, .int .i64 x] W (fun e w' => e = .returned (.int .i64 (r : Int)) ∧ Kept W w')) := hide fun W x r h1 h2 => by
        have := find_k W qa ys qc x r h1 CQ.out MQ.out h2
        rwa [hyl] at this
      clear hqs HY HW HK hq1 hq2 hq3 hlt ht hys hyl HP HU HWF CQ MQ
      by_cases h0 : t = 0
      · have nt : ((t : Int) == 0) = true := by simp only [beq_iff_eq]; omega
        clear h0
        go_wp2_with (fail)
        refine (HC4.out _).mono ?_
        rintro e w' ⟨rfl, rfl⟩
        go_wp2_with (fail)
        refine (known_c _).mono ?_
        rintro e V1 ⟨rfl, hk⟩
        have KK1 := hide (KK.out.trans (hk))
        have RQ' := hide (RQ.out.kept (hk))
        clear KK hk RQ
        have KK := KK1
        clear KK1
        have RQ := RQ'
        clear RQ'
        go_wp2_with (fail)
        refine (PK.out _ RQ.out).mono ?_
        rintro e V2 ⟨pa, pl, pc, rfl, hpl, hk⟩
        have KK2 := hide (KK.out.trans (hk))
        have RQ' := hide (RQ.out.kept (hk))
        clear KK hk RQ
        have KK := KK2
        clear KK2
        have RQ := RQ'
        clear RQ'
        go_wp2
        go_ret
        exact ⟨rfl, KK.out⟩
      · have EF := even_find' (a := F) HS.out (show 0 < t by omega) (show t ≤ 65536 by omega)
        rw [← HQS.out] at EF
        have E1 := hide EF.1
        have E2 := hide EF.2.1
        have E3 : Hid (findN ys (F + M) = t) := hide (by have := EF.2.2; rwa [HM.out] at this)
        have nt : ((t : Int) == 0) = false := by simp only [beq_eq_false_iff_ne, ne_eq]; omega
        clear h0
        clear EF
        go_wp2_with (fail)
        refine (HC4.out _).mono ?_
        rintro e w' ⟨rfl, rfl⟩
        go_wp2_with (fail)
        refine (known_c _).mono ?_
        rintro e V1 ⟨rfl, hk⟩
        have KK1 := hide (KK.out.trans (hk))
        have RQ' := hide (RQ.out.kept (hk))
        clear KK hk RQ
        have KK := KK1
        clear KK1
        have RQ := RQ'
        clear RQ'
        go_wp2_with (fail)
        refine (PK.out _ RQ.out).mono ?_
        rintro e V2 ⟨pa, pl, pc, rfl, hpl, hk⟩
        have KK2 := hide (KK.out.trans (hk))
        have RQ' := hide (RQ.out.kept (hk))
        clear KK hk RQ
        have KK := KK2
        clear KK2
        have RQ := RQ'
        clear RQ'
        go_wp2_with (fail)
        refine (FK.out _ F 1 RQ.out E1.out).mono ?_
        rintro e V3 ⟨rfl, hk⟩
        have KK3 := hide (KK.out.trans (hk))
        have RQ' := hide (RQ.out.kept (hk))
        clear KK hk RQ
        have KK := KK3
        clear KK3
        have RQ := RQ'
        clear RQ'
        go_wp2_with (fail)
        refine (FK.out _ (F - 1) 0 RQ.out E2.out).mono ?_
        rintro e V4 ⟨rfl, hk⟩
        have KK4 := hide (KK.out.trans (hk))
        have RQ' := hide (RQ.out.kept (hk))
        clear KK hk RQ
        have KK := KK4
        clear KK4
        have RQ := RQ'
        clear RQ'
        go_wp2_with (fail)
        refine (FK.out _ (F + M) t RQ.out E3.out).mono ?_
        rintro e V5 ⟨rfl, hk⟩
        have KK5 := hide (KK.out.trans (hk))
        have RQ' := hide (RQ.out.kept (hk))
        clear KK hk RQ
        have KK := KK5
        clear KK5
        have RQ := RQ'
        clear RQ'
        go_wp2
        go_ret
        exact ⟨rfl, KK.out⟩
end Go.Proofs.Ytmfpfoikfpcnkaa
