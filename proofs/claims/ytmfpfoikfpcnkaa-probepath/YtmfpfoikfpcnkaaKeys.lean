/-
  What 'keys' of the statements of chapter 6 answers (a contract): the keys of the first 60 numbers, strictly ascending, from -299 on, in new memory; nothing that lay is turned.
-/
import Derived.Test.YtmfpfoikfpcnkaaTells
namespace Go.Proofs.Ytmfpfoikfpcnkaa
open Go.RowKit

/-- The key behind the first t numbers (the last one that was made). -/
def lastK (l : List Int) : Nat → Int
  | 0 => -300
  | t + 1 => lastK l t + 1 + l.getD t 0 % 40
/-- The keys of the first t numbers. -/
def keysN (l : List Int) : Nat → List Int
  | 0 => []
  | t + 1 => keysN l t ++ [lastK l (t + 1)]
def keysP (l : List Int) : List Int := keysN l (min l.length 60)
theorem lastK_bound (l : List Int) : (t : Nat) → -300 ≤ lastK l t ∧ lastK l t ≤ -300 + 40 * t
  | 0 => by simp [lastK]
  | t + 1 => by
    have := lastK_bound l t
    have h1 := Int.emod_nonneg (l.getD t 0) (show (40 : Int) ≠ 0 by omega)
    have h2 := Int.emod_lt_of_pos (l.getD t 0) (show (0 : Int) < 40 by omega)
    rw [lastK]
    omega
theorem keysN_length (l : List Int) : (t : Nat) → (keysN l t).length = t
  | 0 => rfl
  | t + 1 => by rw [keysN, List.length_append, keysN_length l t]; rfl
theorem keysN_up (l : List Int) : (t : Nat) → (keysN l t).Pairwise (· < ·) ∧ ∀ z ∈ keysN l t, z ≤ lastK l t ∧ -300 ≤ z
  | 0 => by simp [keysN]
  | t + 1 => by
    obtain ⟨h1, h2⟩ := keysN_up l t
    have hs : lastK l t < lastK l (t + 1) := by
      rw [lastK]
      have h1 := Int.emod_nonneg (l.getD t 0) (show (40 : Int) ≠ 0 by omega)
      omega
    have hb := lastK_bound l (t + 1)
    rw [keysN]
    refine ⟨List.pairwise_append.2 ⟨h1, by simp, fun a ha b hb => ?_⟩, fun z hz => ?_⟩
    · have := (h2 a ha).1
      obtain rfl : b = lastK l (t + 1) := by simpa using hb
      omega
    · rcases List.mem_append.1 hz with hz | hz
      · have := h2 z hz
        omega
      · obtain rfl : z = lastK l (t + 1) := by simpa using hz
        omega
theorem keys_up (l : List Int) : upB (keysP l) = true := by
  refine up_true ?_ (keysN_up l _).1
  unfold keysP
  rw [keysN_length]
  omega
theorem keys_wf {l : List Int} {z : Int} (h : z ∈ keysP l) : (Lit.int .i64 z).wf = true := by
  have h1 := (keysN_up l (min l.length 60)).2 z h
  have h2 := lastK_bound l (min l.length 60)
  exact wf_of (by omega) (by omega)
theorem keys_le (l : List Int) : (keysP l).length ≤ 60 := by
  unfold keysP
  rw [keysN_length]
  omega

set_option maxRecDepth 100000 in
set_option maxHeartbeats 1000000 in
theorem keys_c (w : World) (a : Option Addr) (l : List Int) (cap : Nat) (hr : Reads w a l) (hc : l.length ≤ cap) (hm : cap ≤ maxLen) :
    Calls Try.prog 21 #[.slice a l.length cap] w (Sliced2 (keysP l) w) := by
  obtain ⟨y0, hi', hz0, hz1, hz2⟩ := info_parts info2
  have hm' : (l.length : Int) ≤ 9223372036854775807 := by unfold maxLen at hm; omega
  have HR := hide hr
  clear hr hm
  go_enter Try.func21, Try.ntmps21
  go_wp2
  go_loopw [3, 4, 5] (fun u vk vi wr => ∃ (t : Nat) (K : Int) (ys : List Int), t ≤ l.length ∧ t ≤ 60 ∧ ys.length ≤ t ∧ -300 ≤ K ∧ K ≤ 3000 ∧ vi = .int .i64 t ∧ vk = .int .i64 K ∧ Hid (K = lastK l t) ∧ Hid (ys = keysN l t) ∧ Hid (Row wr w.heap.size 2 u ys) ∧ Hid (Kept w wr)) (fun _ _ vi _ => 60 - (intOf vi).toNat)
  case atStart => exact ⟨0, -300, [], Nat.zero_le _, by omega, Nat.le_refl _, by omega, by omega, rfl, rfl, hide rfl, hide rfl, hide (World.ownsRow_nil _ _ _ _), hide (Kept.refl _)⟩
  case round =>
    obtain ⟨t, K, ys, ht1, ht2, hys, hK0, hK1, rfl, rfl, EK, EY, HW, HK⟩ := hrel
    by_cases hlt : t < l.length ∧ t < 60
    · obtain ⟨hlt1, hlt2⟩ := hlt
      obtain ⟨z, hz⟩ : ∃ z, l[t]? = some z := ⟨_, List.getElem?_eq_getElem hlt1⟩
      obtain ⟨bl, off, rfl, _, g1⟩ := (HR.out.kept HK.out).at hz
      have EK1 : Hid (K + 1 + z % 40 = lastK l (t + 1)) := hide (by rw [lastK, getD_some hz, EK.out])
      have hb := lastK_bound l (t + 1)
      rw [← EK1.out] at hb
      have h1 := Int.emod_nonneg z (show (40 : Int) ≠ 0 by omega)
      have h2 := Int.emod_lt_of_pos z (show (0 : Int) < 40 by omega)
      have HCT := hide (fun w => cut_c z 40 (by omega) (by omega) w)
      obtain ⟨c, hcz⟩ : ∃ c, z % 40 = c := ⟨_, rfl⟩
      rw [hcz] at EK1 hb h1 h2 HCT
      have i1 : (t : Int) < (l.length : Int) := by omega
      have i2 : (t : Int) < 60 := by omega
      have i3 : t < cap := by omega
      have zr := HK.out.size
      obtain ⟨hb1, hb2⟩ := hb
      have HB : Hid (-300 ≤ K + 1 + c ∧ K + 1 + c ≤ 3000) := hide (by omega)
      clear hz hcz hb1 hb2 EK
      go_wp2_with (fail)
      refine (HCT.out _).mono ?_
      rintro e w' ⟨rfl, rfl⟩
      have hrow := HW.out.alloc (.cells #[.int .i64 (K + 1 + c)] 2)
      go_wp2_with (at_builtin; refine Stop.out ?_)
      refine ⟨?_⟩
      refine wpList_append_lies _ rfl _ _ 22 rfl w.heap.size 2 y0 (.int .i64 0) 1 8 Try.underlying22 hi' hz0 hz1 hz2 rfl (by decide) _ _ _ rfl hrow ⟨wr.heap.size, 0, none⟩ 1 1 [.int .i64 (K + 1 + c)] rfl rfl (one_new _ _ _) (by simp [Value.oneCell']) (by decide) (by unfold maxLen; omega) (by omega) (by simp; omega) (wr.heap.size + 1) (by simp) ?_
      intro g gc A1 hown hgrow hat hlt2
      have T1 := hide (From.kept HK.out (turned_append HW.out hgrow))
      have R1 := hide (row_append2 hown)
      have HY1 : Hid (ys ++ [K + 1 + c] = keysN l (t + 1)) := hide (by rw [keysN, EY.out, EK1.out])
      have HYL : Hid ((ys ++ [K + 1 + c]).length ≤ t + 1) := hide (by simp; omega)
      clear hown hgrow hat hlt2 hrow HW HK EY
      go_wp2
      exact ⟨⟨t + 1, K + 1 + c, ys ++ [K + 1 + c], by omega, by omega, HYL.out, HB.out.1, HB.out.2, by simp, rfl, EK1, HY1, R1, T1⟩, by simp [intOf]; omega⟩
    · have e : min l.length 60 = t := by omega
      have E : Hid (keysP l = ys) := hide (by unfold keysP; rw [e, EY.out])
      have hex : ¬ ((t : Int) < (l.length : Int)) ∨ ((t : Int) < (l.length : Int) ∧ ¬ ((t : Int) < 60)) := by omega
      clear e hlt EY EK ht1
      rcases hex with hx | ⟨hx1, hx2⟩
      · go_wp2
        go_ret
        exact ⟨_, rfl, by rw [E.out]; exact HW.out, HK.out⟩
      · go_wp2
        go_ret
        exact ⟨_, rfl, by rw [E.out]; exact HW.out, HK.out⟩
end Go.Proofs.Ytmfpfoikfpcnkaa
