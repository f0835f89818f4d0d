/-
  What 'ProbeOwn' of the statements of chapter 6 answers: true; nothing that lay is turned.
-/
import Derived.Test.YtmfpfoikfpcnkaaTells
import Derived.Test.YtmfpfoikfpcnkaaProbeB
namespace Go.Proofs.Ytmfpfoikfpcnkaa
open Go.RowKit

set_option maxRecDepth 100000 in
set_option maxHeartbeats 2000000 in
theorem own_c (w : World) (a : Option Addr) (raw : List Int) (cap : Nat) (n : Int) (hr : Reads w a raw) (hc : raw.length ≤ cap) (hm : cap ≤ maxLen) (hw : ∀ z ∈ raw, (Lit.int .i64 z).wf = true) :
    Calls Try.prog 9 #[.slice a raw.length cap, .int .i64 n] w fun e w' => e = .returned (.bool true) ∧ Kept w w' := by
  have KK := hide (Kept.refl w)
  have HR := hide hr
  have HW : Hid (∀ z ∈ wideP raw, (Lit.int .i64 z).wf = true) := hide fun z hz => hw z (wide_mem hz)
  have HU : Hid (upB (wideP raw) = true) := hide (up_true (by have := wide_le raw; omega) (wide_up raw))
  have hle := wide_le raw
  have HQ := hide (fun (w : World) (h : Reads w a raw) => wide_c w a raw cap h hc hm)
  obtain ⟨q, hq⟩ : ∃ q, wideP raw = q := ⟨_, rfl⟩
  rw [hq] at HU HW HQ hle
  clear hr hm hc hw hq
  by_cases h0 : q = []
  · subst h0
    go_enter Try.func9, Try.ntmps9
    go_wp2_with (fail)
    refine ((HQ.out _ HR.out).mono (fun _ _ h => sliced2_at h)).mono ?_
    rintro e V1 ⟨aq, cq, rfl, hrq, hcq, hmq, hk⟩
    have KK1 := hide (KK.out.trans (hk))
    have HR' := hide (HR.out.kept (hk))
    clear KK hk HR
    have KK := KK1
    clear KK1
    have HR := HR'
    clear HR'
    have Rq := hide hrq
    have Cq := hide hcq
    have Mq := hide hmq
    clear hrq hcq hmq
    go_wp2_with (fail)
    refine (known_c _).mono ?_
    rintro e V2 ⟨rfl, hk⟩
    have KK2 := hide (KK.out.trans (hk))
    have HR' := hide (HR.out.kept (hk))
    have Rq' := hide (Rq.out.kept (hk))
    clear KK hk HR Rq
    have KK := KK2
    clear KK2
    have HR := HR'
    clear HR'
    have Rq := Rq'
    clear Rq'
    go_wp2_with (fail)
    refine (find_k _ _ [] cq 5 0 Rq.out Cq.out Mq.out (by decide)).mono ?_
    rintro e V3 ⟨rfl, hk⟩
    have KK3 := hide (KK.out.trans (hk))
    have HR' := hide (HR.out.kept (hk))
    have Rq' := hide (Rq.out.kept (hk))
    clear KK hk HR Rq
    have KK := KK3
    clear KK3
    have HR := HR'
    clear HR'
    have Rq := Rq'
    clear Rq'
    go_wp2
    go_ret
    exact ⟨rfl, KK.out⟩
  · obtain ⟨L, hL⟩ : ∃ L, q.length = L + 1 := ⟨q.length - 1, by have := List.length_pos_iff.2 h0; omega⟩
    have h1 := Int.emod_nonneg n (show ((L : Int) + 1) ≠ 0 by omega)
    have h2 := Int.emod_lt_of_pos n (show (0 : Int) < (L : Int) + 1 by omega)
    have HCT := hide (fun w => cut_c n ((L : Int) + 1) (by omega) (by omega) w)
    obtain ⟨i, hi⟩ : ∃ i : Nat, n % ((L : Int) + 1) = i := ⟨(n % ((L : Int) + 1)).toNat, by omega⟩
    rw [hi] at h1 h2 HCT
    obtain ⟨z, hz⟩ : ∃ z, q[i]? = some z := ⟨_, List.getElem?_eq_getElem (by omega)⟩
    have HZ := hide hz
    have F := find_own HU.out hz
    have F1 := hide F.1
    have F2 := hide F.2
    have F3 : Hid (findN q 9223372036854775807 = L + 1) := hide (by rw [find_all HU.out (fun z hz => (bounds_i64 (HW.out z hz)).2)]; exact hL)
    have bz := bounds_i64 (HW.out z (List.mem_of_getElem? hz))
    have hiL : (i : Int) ≤ (L : Int) := by omega
    have hL' : (L : Int) ≤ 79 := by omega
    have ne0 : ((L : Int) + 1 == 0) = false := by simp only [beq_eq_false_iff_ne, ne_eq]; omega
    obtain ⟨bz1, bz2⟩ := bz
    have HL := hide hL
    clear h0 hi hz F h1 h2 hle
    have HQ' : Hid (∀ W, Reads W a raw → Calls Try.prog 16 #[.slice a raw.length cap] W (fun e w' => ∃ a' c', e = .returned (.slice a' (L + 1) c') ∧ Reads w' a' q ∧ L + 1 ≤ c' ∧ c' ≤ maxLen ∧ Kept W w')) := hide fun W h => (HQ.out W h).mono fun _ _ h => by have := sliced2_at h; rwa [HL.out] at this
    have FQ : Hid (∀ (W : World) (a : Option Addr) (c : Nat) (k : Int) (r : Nat), Reads W a q → L + 1 ≤ c → c ≤ maxLen → findN q k = r → Calls Try.prog 12 #[.slice a (L + 1) c, .int .i64 k] W (fun e w' => e = .returned (.int .i64 (r : Int)) ∧ Kept W w')) := hide fun W a c k r h1 h2 h3 h4 => by have := find_k W a q c k r h1 (by rw [HL.out]; exact h2) h3 h4; rwa [HL.out] at this
    clear HQ hL
    by_cases hmin : z = -9223372036854775808
    · have em : (z == -9223372036854775808) = true := by simpa using hmin
      clear hmin
      go_enter Try.func9, Try.ntmps9
      go_wp2_with (fail)
      refine (HQ'.out _ HR.out).mono ?_
      rintro e V1 ⟨aq, cq, rfl, hrq, hcq, hmq, hk⟩
      have KK1 := hide (KK.out.trans (hk))
      have HR' := hide (HR.out.kept (hk))
      clear KK hk HR
      have KK := KK1
      clear KK1
      have HR := HR'
      clear HR'
      have Rq := hide hrq
      have Cq := hide hcq
      have Mq := hide hmq
      clear hrq hcq hmq
      have j1 : i < cq := by have := Cq.out; omega
      go_wp2_with (fail)
      refine (HCT.out _).mono ?_
      rintro e w' ⟨rfl, rfl⟩
      go_wp2_with (fail)
      refine (known_c _).mono ?_
      rintro e V2 ⟨rfl, hk⟩
      have KK2 := hide (KK.out.trans (hk))
      have HR' := hide (HR.out.kept (hk))
      have Rq' := hide (Rq.out.kept (hk))
      clear KK hk HR Rq
      have KK := KK2
      clear KK2
      have HR := HR'
      clear HR'
      have Rq := Rq'
      clear Rq'
      obtain ⟨bl, off, rfl, _, g1⟩ := Rq.out.at HZ.out
      go_wp2_with (fail)
      refine (FQ.out _ _ cq z (i + 1) Rq.out Cq.out Mq.out F1.out).mono ?_
      rintro e V3 ⟨rfl, hk⟩
      have KK3 := hide (KK.out.trans (hk))
      have HR' := hide (HR.out.kept (hk))
      have Rq' := hide (Rq.out.kept (hk))
      clear KK hk HR Rq
      have KK := KK3
      clear KK3
      have HR := HR'
      clear HR'
      have Rq := Rq'
      clear Rq'
      clear g1
      obtain ⟨_, _, e, _, g1⟩ := Rq.out.at HZ.out
      cases e
      go_wp2_with (fail)
      refine (FQ.out _ _ cq 9223372036854775807 (L + 1) Rq.out Cq.out Mq.out F3.out).mono ?_
      rintro e V4 ⟨rfl, hk⟩
      have KK4 := hide (KK.out.trans (hk))
      have HR' := hide (HR.out.kept (hk))
      have Rq' := hide (Rq.out.kept (hk))
      clear KK hk HR Rq
      have KK := KK4
      clear KK4
      have HR := HR'
      clear HR'
      have Rq := Rq'
      clear Rq'
      go_wp2
      go_ret
      exact ⟨rfl, KK.out⟩
    · have em : (z == -9223372036854775808) = false := by simpa using hmin
      have bz3 : -9223372036854775808 < z := by omega
      clear hmin
      go_enter Try.func9, Try.ntmps9
      go_wp2_with (fail)
      refine (HQ'.out _ HR.out).mono ?_
      rintro e V1 ⟨aq, cq, rfl, hrq, hcq, hmq, hk⟩
      have KK1 := hide (KK.out.trans (hk))
      have HR' := hide (HR.out.kept (hk))
      clear KK hk HR
      have KK := KK1
      clear KK1
      have HR := HR'
      clear HR'
      have Rq := hide hrq
      have Cq := hide hcq
      have Mq := hide hmq
      clear hrq hcq hmq
      have j1 : i < cq := by have := Cq.out; omega
      go_wp2_with (fail)
      refine (HCT.out _).mono ?_
      rintro e w' ⟨rfl, rfl⟩
      go_wp2_with (fail)
      refine (known_c _).mono ?_
      rintro e V2 ⟨rfl, hk⟩
      have KK2 := hide (KK.out.trans (hk))
      have HR' := hide (HR.out.kept (hk))
      have Rq' := hide (Rq.out.kept (hk))
      clear KK hk HR Rq
      have KK := KK2
      clear KK2
      have HR := HR'
      clear HR'
      have Rq := Rq'
      clear Rq'
      obtain ⟨bl, off, rfl, _, g1⟩ := Rq.out.at HZ.out
      go_wp2_with (fail)
      refine (FQ.out _ _ cq z (i + 1) Rq.out Cq.out Mq.out F1.out).mono ?_
      rintro e V3 ⟨rfl, hk⟩
      have KK3 := hide (KK.out.trans (hk))
      have HR' := hide (HR.out.kept (hk))
      have Rq' := hide (Rq.out.kept (hk))
      clear KK hk HR Rq
      have KK := KK3
      clear KK3
      have HR := HR'
      clear HR'
      have Rq := Rq'
      clear Rq'
      clear g1
      obtain ⟨_, _, e, _, g1⟩ := Rq.out.at HZ.out
      cases e
      go_wp2_with (fail)
      refine (FQ.out _ _ cq (z - 1) i Rq.out Cq.out Mq.out F2.out).mono ?_
      rintro e V4 ⟨rfl, hk⟩
      have KK4 := hide (KK.out.trans (hk))
      have HR' := hide (HR.out.kept (hk))
      have Rq' := hide (Rq.out.kept (hk))
      clear KK hk HR Rq
      have KK := KK4
      clear KK4
      have HR := HR'
      clear HR'
      have Rq := Rq'
      clear Rq'
      clear g1
      obtain ⟨_, _, e, _, g1⟩ := Rq.out.at HZ.out
      cases e
      go_wp2_with (fail)
      refine (FQ.out _ _ cq 9223372036854775807 (L + 1) Rq.out Cq.out Mq.out F3.out).mono ?_
      rintro e V5 ⟨rfl, hk⟩
      have KK5 := hide (KK.out.trans (hk))
      have HR' := hide (HR.out.kept (hk))
      have Rq' := hide (Rq.out.kept (hk))
      clear KK hk HR Rq
      have KK := KK5
      clear KK5
      have HR := HR'
      clear HR'
      have Rq := Rq'
      clear Rq'
      go_wp2
      go_ret
      exact ⟨rfl, KK.out⟩
end Go.Proofs.Ytmfpfoikfpcnkaa
