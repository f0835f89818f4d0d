/-
  What 'ProbeGuess' of the statements of chapter 6 answers: true; nothing that lay is turned.
-/
import Derived.Test.YtmfpfoikfpcnkaaKn
namespace Go.Proofs.Ytmfpfoikfpcnkaa
open Go.RowKit

set_option maxRecDepth 100000 in
set_option maxHeartbeats 2000000 in
theorem guessLaw_c (w : World) (f l k o n : Int) (wf : (Lit.int .i64 f).wf = true) (wl : (Lit.int .i64 l).wf = true) (wk : (Lit.int .i64 k).wf = true) (wo : (Lit.int .i64 o).wf = true) :
    Calls Try.prog 7 #[.int .i64 f, .int .i64 l, .int .i64 k, .int .i64 o, .int .i64 n] w fun e w' => e = .returned (.bool true) ∧ Kept w w' := by
  have KK := hide (Kept.refl w)
  have bf := bounds_i64 wf
  have bl := bounds_i64 wl
  have bk := bounds_i64 wk
  have bo := bounds_i64 wo
  have HCT := hide (fun w => cut_c n 65535 (by omega) (by omega) w)
  have h1 := Int.emod_nonneg n (show (65535 : Int) ≠ 0 by omega)
  have h2 := Int.emod_lt_of_pos n (show (0 : Int) < 65535 by omega)
  obtain ⟨c, hcz⟩ : ∃ c, n % 65535 = c := ⟨_, rfl⟩
  rw [hcz] at h1 h2 HCT
  clear hcz
  obtain ⟨A, hA⟩ : ∃ A, min f l = A := ⟨_, rfl⟩
  obtain ⟨B, hB⟩ : ∃ B, max f l = B := ⟨_, rfl⟩
  have WA : Hid ((Lit.int .i64 A).wf = true) := hide (wf_of (by omega) (by omega))
  have WB : Hid ((Lit.int .i64 B).wf = true) := hide (wf_of (by omega) (by omega))
  have WK := hide wk
  by_cases hAB : A = B
  · subst hAB
    have HG : Hid (guessZ A A k (2 + c) = 0) := hide (guess_none (by omega))
    clear wf wl wk wo
    go_enter Try.func7, Try.ntmps7
    go_wp2_with (fail)
    refine (HCT.out _).mono ?_
    rintro e w' ⟨rfl, rfl⟩
    go_wp2_with (fail)
    refine (known_c _).mono ?_
    rintro e V1 ⟨rfl, hk⟩
    have KK1 := hide (KK.out.trans (hk))
    clear KK hk 
    have KK := KK1
    clear KK1
    go_wp2_with (fail)
    refine (guess_k A A k (2 + c) 0 WA.out WA.out WK.out HG.out _).mono ?_
    rintro e V2 ⟨rfl, hk⟩
    have KK2 := hide (KK.out.trans (hk))
    clear KK hk 
    have KK := KK2
    clear KK2
    go_wp2
    go_ret
    exact ⟨rfl, KK.out⟩
  · have hlt : A < B := by omega
    have ne : (A == B) = false := by simpa using hAB
    obtain ⟨m1, hm1⟩ : ∃ m, min k o = m := ⟨_, rfl⟩
    obtain ⟨m2, hm2⟩ : ∃ m, max m1 A = m := ⟨_, rfl⟩
    obtain ⟨X, hX⟩ : ∃ m, min m2 (B - 1) = m := ⟨_, rfl⟩
    obtain ⟨m3, hm3⟩ : ∃ m, max k o = m := ⟨_, rfl⟩
    obtain ⟨m4, hm4⟩ : ∃ m, max m3 A = m := ⟨_, rfl⟩
    obtain ⟨Y, hY⟩ : ∃ m, min m4 (B - 1) = m := ⟨_, rfl⟩
    have WX : Hid ((Lit.int .i64 X).wf = true) := hide (wf_of (by omega) (by omega))
    have WY : Hid ((Lit.int .i64 Y).wf = true) := hide (wf_of (by omega) (by omega))
    have g1 := guess_bound (a := A) (b := B) (k := X) (n := 2 + c) (by omega)
    have g2 := guess_bound (a := A) (b := B) (k := Y) (n := 2 + c) (by omega)
    have g3 := guess_mono (a := A) (b := B) (k := X) (l := Y) (n := 2 + c) (by omega)
    have g4 := hide (guess_first (a := A) (b := B) (n := 2 + c) (by omega))
    obtain ⟨g, hg⟩ : ∃ g, guessZ A B X (2 + c) = g := ⟨_, rfl⟩
    obtain ⟨h, hh⟩ : ∃ h, guessZ A B Y (2 + c) = h := ⟨_, rfl⟩
    rw [hg] at g1 g3
    rw [hh] at g2 g3
    have HG := hide hg
    have HH := hide hh
    have bA : -9223372036854775808 ≤ A ∧ B ≤ 9223372036854775807 := by omega
    obtain ⟨bA1, bA2⟩ := bA
    obtain ⟨g11, g12⟩ := g1
    obtain ⟨g21, g22⟩ := g2
    clear wf wl wk wo hAB hg hh
    go_enter Try.func7, Try.ntmps7
    go_wp2_with (fail)
    refine (HCT.out _).mono ?_
    rintro e w' ⟨rfl, rfl⟩
    go_wp2_with (fail)
    refine (guess_k A B X (2 + c) g WA.out WB.out WX.out HG.out _).mono ?_
    rintro e V1 ⟨rfl, hk⟩
    have KK1 := hide (KK.out.trans (hk))
    clear KK hk 
    have KK := KK1
    clear KK1
    go_wp2_with (fail)
    refine (guess_k A B Y (2 + c) h WA.out WB.out WY.out HH.out _).mono ?_
    rintro e V2 ⟨rfl, hk⟩
    have KK2 := hide (KK.out.trans (hk))
    clear KK hk 
    have KK := KK2
    clear KK2
    go_wp2_with (fail)
    refine (known_c _).mono ?_
    rintro e V3 ⟨rfl, hk⟩
    have KK3 := hide (KK.out.trans (hk))
    clear KK hk 
    have KK := KK3
    clear KK3
    go_wp2_with (fail)
    refine (guess_k A B A (2 + c) 1 WA.out WB.out WA.out g4.out _).mono ?_
    rintro e V4 ⟨rfl, hk⟩
    have KK4 := hide (KK.out.trans (hk))
    clear KK hk 
    have KK := KK4
    clear KK4
    go_wp2
    go_ret
    exact ⟨rfl, KK.out⟩
end Go.Proofs.Ytmfpfoikfpcnkaa
