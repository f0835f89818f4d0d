/-
  What 'ProbeTells' of the statements of chapter 6 answers: true; nothing that lay is turned.
-/
import Derived.Test.YtmfpfoikfpcnkaaKn
import Derived.Test.YtmfpfoikfpcnkaaRefPath
import Derived.Test.YtmfpfoikfpcnkaaWide
namespace Go.Proofs.Ytmfpfoikfpcnkaa
open Go.RowKit

theorem rising_k (w : World) (a : Option Addr) (q : List Int) (cap : Nat) (hr : Reads w a q) (hc : q.length ≤ cap) (hm : cap ≤ maxLen) :
    Calls Try.prog 17 #[.slice a q.length cap] w fun e w' => e = .returned (.bool (upB q)) ∧ Kept w w' :=
  (rising_r w a q cap hr hc hm).mono fun _ _ ⟨h1, m, h2⟩ => ⟨h1, by rw [h2]; exact Kept.drewN _ _⟩
theorem findR_k (w : World) (a : Option Addr) (q : List Int) (cap : Nat) (k : Int) (hr : Reads w a q) (hc : q.length ≤ cap) (hm : cap ≤ maxLen) :
    Calls Try.prog 18 #[.slice a q.length cap, .int .i64 k] w fun e w' => e = .returned (.int .i64 (findN q k : Int)) ∧ Kept w w' :=
  (find_r w a q cap k hr hc hm).mono fun _ _ ⟨h1, m, h2⟩ => ⟨h1, by rw [h2]; exact Kept.drewN _ _⟩
theorem guessR_k (a b k n : Int) (ha : (Lit.int .i64 a).wf = true) (hb : (Lit.int .i64 b).wf = true) (hk : (Lit.int .i64 k).wf = true) (w : World) :
    Calls Try.prog 20 #[.int .i64 a, .int .i64 b, .int .i64 k, .int .i64 n] w fun e w' => e = .returned (.int .i64 (guessZ a b k n)) ∧ Kept w w' :=
  (guess_r a b k n ha hb hk w).mono fun _ _ ⟨h1, m, h2⟩ => ⟨h1, by rw [h2]; exact Kept.drewN _ _⟩
theorem pathR_k (w : World) (a : Option Addr) (q : List Int) (cap : Nat) (k : Int) (hr : Reads w a q) (hc : q.length ≤ cap) (hm : cap ≤ maxLen) (hw : ∀ z ∈ q, (Lit.int .i64 z).wf = true) (wk : (Lit.int .i64 k).wf = true) :
    Calls Try.prog 19 #[.slice a q.length cap, .int .i64 k] w fun e w' => ∃ a' cap', e = .returned (.slice a' (pathP q k).length cap') ∧ Reads w' a' (pathP q k) ∧ (pathP q k).length ≤ cap' ∧ cap' ≤ maxLen ∧ Kept w w' :=
  (path_r w a q cap k hr hc hm hw wk).mono fun _ _ h => sliced_at h
theorem sliced2_at {xs : List Int} {w : World} {e : Ending} {w' : World} (h : Sliced2 xs w e w') : ∃ a cap, e = .returned (.slice a xs.length cap) ∧ Reads w' a xs ∧ xs.length ≤ cap ∧ cap ≤ maxLen ∧ Kept w w' := by
  obtain ⟨v, rfl, hr, hk⟩ := h
  obtain ⟨a, cap, rfl, h1, h2, h3, _⟩ := hr.reads
  exact ⟨a, cap, rfl, h1, h2, h3, hk⟩

set_option maxRecDepth 100000 in
set_option maxHeartbeats 2000000 in
theorem tells_c (w : World) (a : Option Addr) (raw : List Int) (cap : Nat) (k first last n : Int) (hr : Reads w a raw) (hc : raw.length ≤ cap) (hm : cap ≤ maxLen) (hw : ∀ z ∈ raw, (Lit.int .i64 z).wf = true)
    (wk : (Lit.int .i64 k).wf = true) (wf : (Lit.int .i64 first).wf = true) (wl : (Lit.int .i64 last).wf = true) :
    Calls Try.prog 4 #[.slice a raw.length cap, .int .i64 k, .int .i64 first, .int .i64 last, .int .i64 n] w fun e w' => e = .returned (.bool true) ∧ Kept w w' := by
  have KK := hide (Kept.refl w)
  have HR := hide hr
  have HC := hide hc
  have HM := hide hm
  have HW := hide hw
  have HWQ : Hid (∀ z ∈ wideP raw, (Lit.int .i64 z).wf = true) := hide fun z hz => hw z (wide_mem hz)
  have WK := hide wk
  have WF := hide wf
  have WL := hide wl
  have hml : (raw.length : Int) ≤ 9223372036854775807 := by unfold maxLen at hm; omega
  clear hr hm hw wk wf wl hc
  by_cases h5 : (500 : Int) < (raw.length : Int)
  · go_enter Try.func4, Try.ntmps4
    go_wp2_with (fail)
    refine (known_c _).mono ?_
    rintro e V ⟨rfl, hk⟩
    have K1 := hide hk
    clear hk
    go_wp2
    go_ret
    exact ⟨rfl, K1.out⟩
  · go_enter Try.func4, Try.ntmps4
    go_wp2_with (fail)
    refine ((wide_c _ _ raw cap HR.out HC.out HM.out).mono (fun _ _ h => sliced2_at h)).mono ?_
    rintro e V1 ⟨aq, cq, rfl, hrq, hcq, hmq, hk⟩
    have KK1 := hide (KK.out.trans (hk))
    have HR' := hide (HR.out.kept (hk))
    clear KK hk HR
    have KK := KK1
    clear KK1
    have HR := HR'
    clear HR'
    have Rq := hide hrq
    have Cq := hide hcq
    have Mq := hide hmq
    clear hrq hcq hmq
    go_wp2_with (fail)
    refine (known_c _).mono ?_
    rintro e V2 ⟨rfl, hk⟩
    have KK2 := hide (KK.out.trans (hk))
    have HR' := hide (HR.out.kept (hk))
    have Rq' := hide (Rq.out.kept (hk))
    clear KK hk HR Rq
    have KK := KK2
    clear KK2
    have HR := HR'
    clear HR'
    have Rq := Rq'
    clear Rq'
    go_wp2_with (fail)
    refine (right_k _ _ raw cap _ HR.out HC.out HM.out rfl).mono ?_
    rintro e V3 ⟨rfl, hk⟩
    have KK3 := hide (KK.out.trans (hk))
    have HR' := hide (HR.out.kept (hk))
    have Rq' := hide (Rq.out.kept (hk))
    clear KK hk HR Rq
    have KK := KK3
    clear KK3
    have HR := HR'
    clear HR'
    have Rq := Rq'
    clear Rq'
    go_wp2_with (fail)
    refine (rising_k _ _ raw cap HR.out HC.out HM.out).mono ?_
    rintro e V4 ⟨rfl, hk⟩
    have KK4 := hide (KK.out.trans (hk))
    have HR' := hide (HR.out.kept (hk))
    have Rq' := hide (Rq.out.kept (hk))
    clear KK hk HR Rq
    have KK := KK4
    clear KK4
    have HR := HR'
    clear HR'
    have Rq := Rq'
    clear Rq'
    go_wp2_with (fail)
    refine (find_k _ _ raw cap k _ HR.out HC.out HM.out rfl).mono ?_
    rintro e V5 ⟨rfl, hk⟩
    have KK5 := hide (KK.out.trans (hk))
    have HR' := hide (HR.out.kept (hk))
    have Rq' := hide (Rq.out.kept (hk))
    clear KK hk HR Rq
    have KK := KK5
    clear KK5
    have HR := HR'
    clear HR'
    have Rq := Rq'
    clear Rq'
    go_wp2_with (fail)
    refine (findR_k _ _ raw cap k HR.out HC.out HM.out).mono ?_
    rintro e V6 ⟨rfl, hk⟩
    have KK6 := hide (KK.out.trans (hk))
    have HR' := hide (HR.out.kept (hk))
    have Rq' := hide (Rq.out.kept (hk))
    clear KK hk HR Rq
    have KK := KK6
    clear KK6
    have HR := HR'
    clear HR'
    have Rq := Rq'
    clear Rq'
    go_wp2_with (fail)
    refine (path_k _ _ raw cap k _ HR.out HC.out HM.out HW.out WK.out rfl).mono ?_
    rintro e V7 ⟨ap, cp, rfl, hrp, hcp, hmp, hk⟩
    have KK7 := hide (KK.out.trans (hk))
    have HR' := hide (HR.out.kept (hk))
    have Rq' := hide (Rq.out.kept (hk))
    clear KK hk HR Rq
    have KK := KK7
    clear KK7
    have HR := HR'
    clear HR'
    have Rq := Rq'
    clear Rq'
    have Rp := hide hrp
    have Cp := hide hcp
    have Mp := hide hmp
    clear hrp hcp hmp
    go_wp2_with (fail)
    refine (pathR_k _ _ raw cap k HR.out HC.out HM.out HW.out WK.out).mono ?_
    rintro e V8 ⟨ar, cr, rfl, hrr, hcr, hmr, hk⟩
    have KK8 := hide (KK.out.trans (hk))
    have HR' := hide (HR.out.kept (hk))
    have Rq' := hide (Rq.out.kept (hk))
    have Rp' := hide (Rp.out.kept (hk))
    clear KK hk HR Rq Rp
    have KK := KK8
    clear KK8
    have HR := HR'
    clear HR'
    have Rq := Rq'
    clear Rq'
    have Rp := Rp'
    clear Rp'
    have Rr := hide hrr
    have Cr := hide hcr
    have Mr := hide hmr
    clear hrr hcr hmr
    go_wp2_with (fail)
    refine (ints_k _ _ _ (pathP raw k) _ _ Rp.out Rr.out Cp.out Cr.out Mp.out).mono ?_
    rintro e V9 ⟨rfl, hk⟩
    have KK9 := hide (KK.out.trans (hk))
    have HR' := hide (HR.out.kept (hk))
    have Rq' := hide (Rq.out.kept (hk))
    have Rp' := hide (Rp.out.kept (hk))
    have Rr' := hide (Rr.out.kept (hk))
    clear KK hk HR Rq Rp Rr
    have KK := KK9
    clear KK9
    have HR := HR'
    clear HR'
    have Rq := Rq'
    clear Rq'
    have Rp := Rp'
    clear Rp'
    have Rr := Rr'
    clear Rr'
    clear Rp Cp Mp
    clear Rr Cr Mr
    go_wp2_with (fail)
    refine (find_k _ _ (wideP raw) cq k _ Rq.out Cq.out Mq.out rfl).mono ?_
    rintro e V10 ⟨rfl, hk⟩
    have KK10 := hide (KK.out.trans (hk))
    have HR' := hide (HR.out.kept (hk))
    have Rq' := hide (Rq.out.kept (hk))
    clear KK hk HR Rq
    have KK := KK10
    clear KK10
    have HR := HR'
    clear HR'
    have Rq := Rq'
    clear Rq'
    go_wp2_with (fail)
    refine (findR_k _ _ (wideP raw) cq k Rq.out Cq.out Mq.out).mono ?_
    rintro e V11 ⟨rfl, hk⟩
    have KK11 := hide (KK.out.trans (hk))
    have HR' := hide (HR.out.kept (hk))
    have Rq' := hide (Rq.out.kept (hk))
    clear KK hk HR Rq
    have KK := KK11
    clear KK11
    have HR := HR'
    clear HR'
    have Rq := Rq'
    clear Rq'
    go_wp2_with (fail)
    refine (path_k _ _ (wideP raw) cq k _ Rq.out Cq.out Mq.out HWQ.out WK.out rfl).mono ?_
    rintro e V12 ⟨ax, cx, rfl, hrx, hcx, hmx, hk⟩
    have KK12 := hide (KK.out.trans (hk))
    have HR' := hide (HR.out.kept (hk))
    have Rq' := hide (Rq.out.kept (hk))
    clear KK hk HR Rq
    have KK := KK12
    clear KK12
    have HR := HR'
    clear HR'
    have Rq := Rq'
    clear Rq'
    have Rx := hide hrx
    have Cx := hide hcx
    have Mx := hide hmx
    clear hrx hcx hmx
    go_wp2_with (fail)
    refine (pathR_k _ _ (wideP raw) cq k Rq.out Cq.out Mq.out HWQ.out WK.out).mono ?_
    rintro e V13 ⟨ay, cy, rfl, hry, hcy, hmy, hk⟩
    have KK13 := hide (KK.out.trans (hk))
    have HR' := hide (HR.out.kept (hk))
    have Rq' := hide (Rq.out.kept (hk))
    have Rx' := hide (Rx.out.kept (hk))
    clear KK hk HR Rq Rx
    have KK := KK13
    clear KK13
    have HR := HR'
    clear HR'
    have Rq := Rq'
    clear Rq'
    have Rx := Rx'
    clear Rx'
    have Ry := hide hry
    have Cy := hide hcy
    have My := hide hmy
    clear hry hcy hmy
    go_wp2_with (fail)
    refine (ints_k _ _ _ (pathP (wideP raw) k) _ _ Rx.out Ry.out Cx.out Cy.out Mx.out).mono ?_
    rintro e V14 ⟨rfl, hk⟩
    have KK14 := hide (KK.out.trans (hk))
    have HR' := hide (HR.out.kept (hk))
    have Rq' := hide (Rq.out.kept (hk))
    have Rx' := hide (Rx.out.kept (hk))
    have Ry' := hide (Ry.out.kept (hk))
    clear KK hk HR Rq Rx Ry
    have KK := KK14
    clear KK14
    have HR := HR'
    clear HR'
    have Rq := Rq'
    clear Rq'
    have Rx := Rx'
    clear Rx'
    have Ry := Ry'
    clear Ry'
    clear Rx Cx Mx
    clear Ry Cy My
    go_wp2_with (fail)
    refine (guess_k first last k n _ WF.out WL.out WK.out rfl _).mono ?_
    rintro e V15 ⟨rfl, hk⟩
    have KK15 := hide (KK.out.trans (hk))
    have HR' := hide (HR.out.kept (hk))
    have Rq' := hide (Rq.out.kept (hk))
    clear KK hk HR Rq
    have KK := KK15
    clear KK15
    have HR := HR'
    clear HR'
    have Rq := Rq'
    clear Rq'
    go_wp2_with (fail)
    refine (guessR_k first last k n WF.out WL.out WK.out _).mono ?_
    rintro e V16 ⟨rfl, hk⟩
    have KK16 := hide (KK.out.trans (hk))
    have HR' := hide (HR.out.kept (hk))
    have Rq' := hide (Rq.out.kept (hk))
    clear KK hk HR Rq
    have KK := KK16
    clear KK16
    have HR := HR'
    clear HR'
    have Rq := Rq'
    clear Rq'
    go_wp2
    go_ret
    exact ⟨rfl, KK.out⟩
end Go.Proofs.Ytmfpfoikfpcnkaa
