/-
  What 'ProbeSmall' of the statements of chapter 6 answers: true; nothing that lay is turned.
-/
import Derived.Test.YtmfpfoikfpcnkaaKeys
namespace Go.Proofs.Ytmfpfoikfpcnkaa
open Go.RowKit

set_option maxRecDepth 100000 in
set_option maxHeartbeats 2000000 in
theorem small_c (w : World) (a : Option Addr) (l : List Int) (cap : Nat) (n : Int) (hr : Reads w a l) (hc : l.length ≤ cap) (hm : cap ≤ maxLen) :
    Calls Try.prog 5 #[.slice a l.length cap, .int .i64 n] w fun e w' => e = .returned (.bool true) ∧ Kept w w' := by
  have KK := hide (Kept.refl w)
  have HR := hide hr
  have HC := hide hc
  have HM := hide hm
  have hml : (l.length : Int) ≤ 9223372036854775807 := by unfold maxLen at hm; omega
  have HCT := hide (fun w => cut_c n 1500 (by omega) (by omega) w)
  have h1 := Int.emod_nonneg n (show (1500 : Int) ≠ 0 by omega)
  have h2 := Int.emod_lt_of_pos n (show (0 : Int) < 1500 by omega)
  obtain ⟨c, hcz⟩ : ∃ c, n % 1500 = c := ⟨_, rfl⟩
  rw [hcz] at h1 h2 HCT
  obtain ⟨k, hk⟩ : ∃ k, c = k + 350 := ⟨c - 350, by omega⟩
  subst hk
  have WK : Hid ((Lit.int .i64 k).wf = true) := hide (wf_of (by omega) (by omega))
  have HW : Hid (∀ z ∈ keysP l, (Lit.int .i64 z).wf = true) := hide fun z hz => keys_wf hz
  obtain ⟨q, hq⟩ : ∃ q, keysP l = q := ⟨_, rfl⟩
  have HU := hide (keys_up l)
  have HQ := hide (fun (w : World) (h : Reads w a l) => keys_c w a l cap h hc hm)
  rw [hq] at HU HW HQ
  clear hr hm hc hcz hq
  go_enter Try.func5, Try.ntmps5
  go_wp2_with (fail)
  refine ((HQ.out _ HR.out).mono (fun _ _ h => sliced2_at h)).mono ?_
  rintro e V1 ⟨aq, cq, rfl, hrq, hcq, hmq, hk⟩
  have KK1 := hide (KK.out.trans (hk))
  have HR' := hide (HR.out.kept (hk))
  clear KK hk HR
  have KK := KK1
  clear KK1
  have HR := HR'
  clear HR'
  have Rq := hide hrq
  have Cq := hide hcq
  have Mq := hide hmq
  clear hrq hcq hmq
  go_wp2_with (fail)
  refine (HCT.out _).mono ?_
  rintro e w' ⟨rfl, rfl⟩
  go_wp2_with (fail)
  refine (known_c _).mono ?_
  rintro e V2 ⟨rfl, hk⟩
  have KK2 := hide (KK.out.trans (hk))
  have HR' := hide (HR.out.kept (hk))
  have Rq' := hide (Rq.out.kept (hk))
  clear KK hk HR Rq
  have KK := KK2
  clear KK2
  have HR := HR'
  clear HR'
  have Rq := Rq'
  clear Rq'
  go_wp2_with (fail)
  refine (right_k _ _ q cq _ Rq.out Cq.out Mq.out HU.out).mono ?_
  rintro e V3 ⟨rfl, hk⟩
  have KK3 := hide (KK.out.trans (hk))
  have HR' := hide (HR.out.kept (hk))
  have Rq' := hide (Rq.out.kept (hk))
  clear KK hk HR Rq
  have KK := KK3
  clear KK3
  have HR := HR'
  clear HR'
  have Rq := Rq'
  clear Rq'
  go_wp2_with (fail)
  refine (find_k _ _ q cq k _ Rq.out Cq.out Mq.out rfl).mono ?_
  rintro e V4 ⟨rfl, hk⟩
  have KK4 := hide (KK.out.trans (hk))
  have HR' := hide (HR.out.kept (hk))
  have Rq' := hide (Rq.out.kept (hk))
  clear KK hk HR Rq
  have KK := KK4
  clear KK4
  have HR := HR'
  clear HR'
  have Rq := Rq'
  clear Rq'
  go_wp2_with (fail)
  refine (findR_k _ _ q cq k Rq.out Cq.out Mq.out).mono ?_
  rintro e V5 ⟨rfl, hk⟩
  have KK5 := hide (KK.out.trans (hk))
  have HR' := hide (HR.out.kept (hk))
  have Rq' := hide (Rq.out.kept (hk))
  clear KK hk HR Rq
  have KK := KK5
  clear KK5
  have HR := HR'
  clear HR'
  have Rq := Rq'
  clear Rq'
  go_wp2_with (fail)
  refine (path_k _ _ q cq k _ Rq.out Cq.out Mq.out HW.out WK.out rfl).mono ?_
  rintro e V6 ⟨ap, cp, rfl, hrp, hcp, hmp, hk⟩
  have KK6 := hide (KK.out.trans (hk))
  have HR' := hide (HR.out.kept (hk))
  have Rq' := hide (Rq.out.kept (hk))
  clear KK hk HR Rq
  have KK := KK6
  clear KK6
  have HR := HR'
  clear HR'
  have Rq := Rq'
  clear Rq'
  have Rp := hide hrp
  have Cp := hide hcp
  have Mp := hide hmp
  clear hrp hcp hmp
  go_wp2_with (fail)
  refine (pathR_k _ _ q cq k Rq.out Cq.out Mq.out HW.out WK.out).mono ?_
  rintro e V7 ⟨ar, cr, rfl, hrr, hcr, hmr, hk⟩
  have KK7 := hide (KK.out.trans (hk))
  have HR' := hide (HR.out.kept (hk))
  have Rq' := hide (Rq.out.kept (hk))
  have Rp' := hide (Rp.out.kept (hk))
  clear KK hk HR Rq Rp
  have KK := KK7
  clear KK7
  have HR := HR'
  clear HR'
  have Rq := Rq'
  clear Rq'
  have Rp := Rp'
  clear Rp'
  have Rr := hide hrr
  have Cr := hide hcr
  have Mr := hide hmr
  clear hrr hcr hmr
  go_wp2_with (fail)
  refine (ints_k _ _ _ (pathP q k) _ _ Rp.out Rr.out Cp.out Cr.out Mp.out).mono ?_
  rintro e V8 ⟨rfl, hk⟩
  have KK8 := hide (KK.out.trans (hk))
  have HR' := hide (HR.out.kept (hk))
  have Rq' := hide (Rq.out.kept (hk))
  have Rp' := hide (Rp.out.kept (hk))
  have Rr' := hide (Rr.out.kept (hk))
  clear KK hk HR Rq Rp Rr
  have KK := KK8
  clear KK8
  have HR := HR'
  clear HR'
  have Rq := Rq'
  clear Rq'
  have Rp := Rp'
  clear Rp'
  have Rr := Rr'
  clear Rr'
  go_wp2
  go_ret
  exact ⟨rfl, KK.out⟩
end Go.Proofs.Ytmfpfoikfpcnkaa
