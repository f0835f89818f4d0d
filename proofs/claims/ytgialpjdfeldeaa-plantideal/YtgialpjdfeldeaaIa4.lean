/-
  What the proof of YtgialpjdfeldeaaPlantIdealProof goes by, part 4 of 6: contracts and plain facts; each part begins with its own sentence. No conditions beyond each theorem's own.
-/
import Derived.Test.YtgialpjdfeldeaaIa3
import Derived.Shelf.Abstract
import Derived.Shelf.RegionOpen
import Derived.OwnWalkIn
import Derived.TacticsInMore
import Derived.LoopNIn
import Derived.LoopIn
/-! The program's check of soundness: slots, Inners, words. -/
namespace Go.Proofs.Ytgialpjdfeldeaa
open Go.RowKit

/-- The contract of a word with fuel f, and of a slot. -/
def WordC (f : Nat) : Prop := ∀ (w0 W : World) (b : Nat) (s : Mst) (c g : Nat) (t : Tk) (_ : Chk w0 W b s c g t) (x lo hi : Int) (_ : I64 x) (_ : I64 lo) (_ : I64 hi) (_ : freeN (s.xs.length + 1) t < f) (r : Option Tk) (_ : sndW s f x lo hi t = r),
    Calls Try.prog 87 #[.pointer (some ⟨c, 0, none⟩), .int .i64 x, .int .i64 lo, .int .i64 hi] W (SndPost w0 W b s c g r)
def SlotC (f : Nat) : Prop := ∀ (w0 W : World) (b : Nat) (s : Mst) (c g : Nat) (t : Tk) (_ : Chk w0 W b s c g t) (x lo hi : Int) (_ : I64 lo) (_ : I64 hi) (_ : freeN (s.xs.length + 1) t < f) (r : Option Tk) (_ : sndSlot s (sndW s f) x lo hi t = r),
    Calls Try.prog 58 #[.pointer (some ⟨c, 0, none⟩), .int .i64 x, .int .i64 lo, .int .i64 hi] W (SndPost w0 W b s c g r)

theorem slot_of_word (f : Nat) (hW : WordC f) : SlotC f := by
  intro w0 W b s c g t C x lo hi hlo hhi hf r e1
  have c0 := C.c0
  have H := hide C
  obtain ⟨z, hz⟩ : ∃ z, s.look x = z := ⟨_, rfl⟩
  obtain ⟨k, hk⟩ : ∃ k, kd z = k := ⟨_, rfl⟩
  obtain ⟨p, hp⟩ : ∃ p, ad z = p := ⟨_, rfl⟩
  obtain ⟨l, hl⟩ : ∃ l, s.logicZ x = l := ⟨_, rfl⟩
  have hzb := C.ok.look x
  rw [hz] at hzb
  have hlb := C.ok.logic x
  rw [hl] at hlb
  have kr := ad_range z
  rw [hp] at kr
  have HZ := hide hz
  have HK := hide hk
  have HP := hide hp
  have HL := hide hl
  have HZB := hide hzb
  have HLB := hide hlb
  have HLO := hide hlo
  have HHI := hide hhi
  have HFU := hide hf
  have KR := hide kr
  have HO := hide C.ok
  by_cases hk5 : k = 5
  · cases hd : (decide (p + 4 ≤ (s.xs.length : Int)) && (s.look (p + 1) == x)) with
    | false =>
      have HR : Hid (r = none) := hide (by
        rw [← e1, sndSlot, dcssB, hz, hk, hp, hd, hk5]; rfl)
      have HD := hide hd
      subst hk5
      clear C hz hk hp hl hzb hlb hlo hhi hf kr e1 hd
      go_enter Try.func58, Try.ntmps58
      go_wp2_with (fail)
      refine (lk_p _ b s x z H.out.mem HZ.out).mono ?_
      rintro e w' ⟨rfl, rfl⟩
      go_wp2_with (fail)
      refine (kk_p _ z 5 HZB.out HK.out).mono ?_
      rintro e w' ⟨rfl, rfl⟩
      go_wp2_with (fail)
      refine (ak_p _ z p HZB.out HP.out).mono ?_
      rintro e w' ⟨rfl, rfl⟩
      go_wp2_with (fail)
      refine (dcss_p w0 _ b s c g t H.out p x false KR.out.1 (by have := KR.out.2; omega) HD.out).mono ?_
      rintro e w' ⟨rfl, rfl⟩
      go_wp2
      go_ret
      exact ⟨by rw [HR.out]; rfl, Turned.refl _ _, t, H.out, fun u h => by rw [HR.out] at h; cases h⟩
    | true =>
      have HR : Hid (sndW s f l lo hi t = r) := hide (by
        rw [← e1, sndSlot, dcssB, hz, hk, hp, hd, hk5, hl]; rfl)
      have HD := hide hd
      subst hk5
      clear C hz hk hp hl hzb hlb hlo hhi hf kr e1 hd
      go_enter Try.func58, Try.ntmps58
      go_wp2_with (fail)
      refine (lk_p _ b s x z H.out.mem HZ.out).mono ?_
      rintro e w' ⟨rfl, rfl⟩
      go_wp2_with (fail)
      refine (kk_p _ z 5 HZB.out HK.out).mono ?_
      rintro e w' ⟨rfl, rfl⟩
      go_wp2_with (fail)
      refine (ak_p _ z p HZB.out HP.out).mono ?_
      rintro e w' ⟨rfl, rfl⟩
      go_wp2_with (fail)
      refine (dcss_p w0 _ b s c g t H.out p x true KR.out.1 (by have := KR.out.2; omega) HD.out).mono ?_
      rintro e w' ⟨rfl, rfl⟩
      go_wp2_with (fail)
      refine (logic_p _ b s x l H.out.mem HO.out HL.out).mono ?_
      rintro e w' ⟨rfl, rfl⟩
      go_wp2_with (fail)
      refine (hW w0 _ b s c g t H.out l lo hi HLB.out HLO.out HHI.out HFU.out r HR.out).mono ?_
      rintro e w' ⟨rfl, hT, hC⟩
      have HC := hide hC
      have HT := hide hT
      clear hC hT H c0
      go_wp2
      go_ret
      exact ⟨rfl, HT.out, HC.out⟩
  · have HR : Hid (sndW s f l lo hi t = r) := hide (by
      have : (k == 5) = false := by simp [hk5]
      rw [← e1, sndSlot, dcssB, hz, hk, this, hl]; rfl)
    have g1 : (k == 5) = false := by simp [hk5]
    have g2 : (k != 5) = true := by simp [hk5]
    clear C hz hk hp hl hzb hlb hlo hhi hf kr e1 hk5
    go_enter Try.func58, Try.ntmps58
    go_wp2_with (fail)
    refine (lk_p _ b s x z H.out.mem HZ.out).mono ?_
    rintro e w' ⟨rfl, rfl⟩
    go_wp2_with (fail)
    refine (kk_p _ z k HZB.out HK.out).mono ?_
    rintro e w' ⟨rfl, rfl⟩
    go_wp2_with (fail)
    refine (logic_p _ b s x l H.out.mem HO.out HL.out).mono ?_
    rintro e w' ⟨rfl, rfl⟩
    go_wp2_with (fail)
    refine (hW w0 _ b s c g t H.out l lo hi HLB.out HLO.out HHI.out HFU.out r HR.out).mono ?_
    rintro e w' ⟨rfl, hT, hC⟩
    have HC := hide hC
    have HT := hide hT
    clear hC hT H c0
    go_wp2
    go_ret
    exact ⟨rfl, HT.out, HC.out⟩

theorem right_k (W : World) (q M : Nat) (L : List Int) (hM : L.length = M) (hm : M ≤ 100000) (hr : Reads W (some ⟨q, 0, none⟩) L) (r : Bool) (e1 : Pb.upB L = r) :
    Calls Try.prog 43 #[.slice (some ⟨q, 0, none⟩) M M] W fun e W' => e = .returned (.bool r) ∧ Kept W W' := by
  subst hM e1
  refine (Pb.right_c W (some ⟨q, 0, none⟩) L L.length hr (Nat.le_refl _) (by unfold maxLen; omega)).mono ?_
  rintro e W' ⟨rfl, m, rfl⟩
  exact ⟨rfl, Kept.drewN _ _⟩

theorem keysB_iff {s : Mst} {a d : Nat} {lo hi : Int} : keysB s a d lo hi = true ↔ ∀ i, i < d - 1 → lowZ s a lo i < ky s a (i + 1) ∧ ky s a (i + 1) ≤ hi := by
  unfold keysB
  rw [List.all_eq_true]
  constructor
  · intro h i hi'
    have := h i (by simpa using hi')
    simpa using this
  · intro h i hi'
    have := h i (by simpa using hi')
    simpa using this
theorem keysB_up {s : Mst} {a d : Nat} {lo hi : Int} (hd : d ≤ 60000) (h : keysB s a d lo hi = true) : Pb.upB (keysL s a d) = true := by
  refine Pb.up_true (by rw [keysL_len]; omega) ?_
  have hk := keysB_iff.1 h
  have key : ∀ i j, i < j → j < d - 1 → ky s a (i + 1) < ky s a (j + 1) := by
    intro i j hij
    induction j with
    | zero => omega
    | succ j ih =>
      intro hj
      have h1 := (hk (j + 1) hj).1
      rw [lowZ, if_neg (by omega)] at h1
      by_cases e : i = j
      · subst e; exact h1
      · exact Int.lt_trans (ih (by omega) (by omega)) h1
  rw [List.pairwise_iff_getElem]
  intro i j hi hj hij
  rw [keysL_len] at hi hj
  simp only [keysL, List.getElem_map, List.getElem_range]
  exact key i j hij hj
theorem keysB_of {s : Mst} {a d : Nat} {lo hi : Int} (hd : 2 ≤ d) (hu : Pb.upB (keysL s a d) = true) (h0 : lo < ky s a 1) (h1 : ky s a (d - 1) ≤ hi) : keysB s a d lo hi = true := by
  have hp : (keysL s a d).Pairwise (· < ·) := (of_decide_eq_true hu).2
  apply keysB_iff.2
  intro i hi'
  have up : ∀ i j, i < j → j < d - 1 → ky s a (i + 1) < ky s a (j + 1) := fun i j hij hj =>
    Pb.up_lt hp (keysL_get (by omega)) (keysL_get hj) hij
  constructor
  · unfold lowZ
    split
    · rename_i e; subst e; exact h0
    · rename_i e
      have := up (i - 1) i (by omega) hi'
      rwa [Nat.sub_add_cancel (by omega)] at this
  · by_cases e : i = d - 2
    · subst e
      have : d - 2 + 1 = d - 1 := by omega
      rwa [this]
    · have := up i (d - 2) (by omega) (by omega)
      rw [show d - 2 + 1 = d - 1 by omega] at this
      omega

set_option maxHeartbeats 2000000 in
set_option maxRecDepth 20000 in
theorem inner_of_slot (f : Nat) (hS : SlotC f) (w0 W : World) (b : Nat) (s : Mst) (c g : Nat) (t : Tk) (C : Chk w0 W b s c g t) (a : Nat) (lo hi : Int) (h1 : 1 ≤ a) (h2 : a ≤ 65536) (hlo : I64 lo) (hhi : I64 hi) (hf : freeN (s.xs.length + 1) t < f + 1) (r : Option Tk) (e1 : sndInner s (sndW s f) a lo hi t = r) :
    Calls Try.prog 103 #[.pointer (some ⟨c, 0, none⟩), .int .i64 (a : Int), .int .i64 lo, .int .i64 hi] W (SndPost w0 W b s c g r) := by
  have H := hide C
  have HO := hide C.ok
  have HLO := hide hlo
  have HHI := hide hhi
  have HSL := hide hS
  have HTT : Hid (∀ W', Chk w0 W' b s c g t → True) := hide (fun _ _ => trivial)
  have e2 : r = (innerT s t a).bind fun t1 => if (keysB s a (s.look a).toNat lo hi && shutB s a) = true then chain (kidG s (sndW s f) a (s.look a).toNat lo hi) (s.look a).toNat t1 else none := by
    rw [← e1, sndInner, innerT]
    by_cases h : s.look a < 2
    · rw [if_pos h, if_pos h]; rfl
    · rw [if_neg h, if_neg h]
  cases hT : innerT s t a with
  | none =>
    have HT := hide hT
    have HR : Hid (r = none) := hide (by rw [e2, hT]; rfl)
    have HKC := hide (keys_p w0 W b s c g t C a h1 h2 none hT)
    clear C hS hlo hhi hf e1 e2 hT
    go_enter Try.func103, Try.ntmps103
    go_wp2_with (fail)
    refine HKC.out.mono ?_
    rintro e W1 ⟨t', hT1, C1, h | h⟩
    · obtain ⟨_, rfl⟩ := h
      have H1 := hide C1
      have HT1 := hide hT1
      clear C1 H HKC hT1
      go_wp2
      go_ret
      exact ⟨by rw [HR.out]; rfl, HT1.out, t', H1.out, fun u h => by rw [HR.out] at h; cases h⟩
    · exact absurd h.1 (by simp)
  | some t1 =>
    have HT := hide hT
    have hfr : freeN (s.xs.length + 1) t1 < freeN (s.xs.length + 1) t := by
      unfold innerT at hT
      split at hT
      · cases hT
      · exact takeO_free hT
    have HFR : Hid (freeN (s.xs.length + 1) t1 < f) := hide (by omega)
    have E2 := hide e2
    have HKC := hide (keys_p w0 W b s c g t C a h1 h2 (some t1) hT)
    clear C hS hlo hhi hf e1 e2 hT hfr
    refine Exists.elim (show ∃ R, R = r from ⟨r, rfl⟩) (fun R hR => ?_)
    subst hR
    go_enter Try.func103, Try.ntmps103
    go_wp2_with (fail)
    refine HKC.out.mono ?_
    rintro e W1 ⟨t', hT1, C1, h | h⟩
    · exact absurd h.1 (by simp)
    obtain ⟨h0, d, q, hd, hd2, hd4, hfit, hq0, hqg, hqc, hq, rfl⟩ := h
    cases h0
    have HT1 := hide hT1
    have H1 := hide C1
    have hdn : (s.look a).toNat = d := by omega
    have E3 := E2.out
    rw [HT.out, hdn] at E3
    have E4 : Hid (R = if (keysB s a d lo hi && shutB s a) = true then chain (kidG s (sndW s f) a d lo hi) d t1 else none) := hide E3
    have HQ0 := hide hq0
    have HQG := hide hqg
    have HQC := hide hqc
    have HQ := hide hq
    have HD := hide hd
    have hfa : (a : Int) ≤ 65536 := by omega
    obtain ⟨M, hM⟩ : ∃ M, d - 1 = M := ⟨_, rfl⟩
    have dM : d = M + 1 := by omega
    subst dM
    have hM1 : 1 ≤ M := by omega
    have hM2 : M ≤ 40000 := by omega
    have hMM : M + 1 - 1 = M := by omega
    rw [hMM] at HQ
    rw [hMM]
    obtain ⟨L, hL⟩ : ∃ L, keysL s a (M + 1) = L := ⟨_, rfl⟩
    have HLL : Hid (L.length = M) := hide (by rw [← hL, keysL_len]; omega)
    have HRD : Hid (Reads W1 (some ⟨q, 0, none⟩) L) := hide (by rw [← hL]; exact reads_keys (by rw [hMM]; exact HQ.out))
    have HL := hide hL
    obtain ⟨k1, hk1⟩ : ∃ k1, ky s a 1 = k1 := ⟨_, rfl⟩
    obtain ⟨kM, hkM⟩ : ∃ kM, ky s a M = kM := ⟨_, rfl⟩
    have HK1 := hide hk1
    have HKM := hide hkM
    clear hT1 C1 hdn E3 hq0 hqg hqc hq hd hfit HKC H hM hMM hL hk1 hkM hd2 hd4 HT E2
    cases hu : Pb.upB L with
    | false =>
      have HU := hide hu
      have HR : Hid (R = none) := hide (by
        rw [E4.out, if_neg]
        intro hh
        simp only [Bool.and_eq_true] at hh
        have := keysB_up (by omega) hh.1
        rw [HL.out, hu] at this
        cases this)
      clear hu
      go_wp2_with (fail)
      refine (right_k _ q M L HLL.out (by omega) HRD.out false HU.out).mono ?_
      rintro e W2 ⟨rfl, hk⟩
      have HK2 := hide hk
      have H2 := hide (H1.out.on hk)
      have HQ2 : Hid (W2.rowIs q 2 M (fillK s a M)) := hide (HQ.out.of_block (hk.block q HQ.out.lt (fun e => e)))
      have T2 : Hid (Turned (fun i => i = g) W W2) := hide (Kept.behind HT1.out hk)
      clear hk
      go_wp2
      go_ret
      exact ⟨by rw [HR.out]; rfl, T2.out, t1, H2.out, fun u h => by rw [HR.out] at h; cases h⟩
    | true =>
      have HU := hide hu
      clear hu
      by_cases hk1 : k1 ≤ lo
      · have HR : Hid (R = none) := hide (by
          rw [E4.out, if_neg]
          intro hh
          simp only [Bool.and_eq_true] at hh
          have := (keysB_iff.1 hh.1 0 (by omega)).1
          rw [lowZ, if_pos rfl, HK1.out] at this
          omega)
        go_wp2_with (fail)
        refine (right_k _ q M L HLL.out (by omega) HRD.out true HU.out).mono ?_
        rintro e W2 ⟨rfl, hk⟩
        have HK2 := hide hk
        have H2 := hide (H1.out.on hk)
        have HQ2 : Hid (W2.rowIs q 2 M (fillK s a M)) := hide (HQ.out.of_block (hk.block q HQ.out.lt (fun e => e)))
        have T2 : Hid (Turned (fun i => i = g) W W2) := hide (Kept.behind HT1.out hk)
        clear hk
        have q1 : W2.cell? ⟨q, 0, none⟩ = some (.int .i64 k1) := by
          rw [HQ2.out.cell (by omega), fillK, if_pos (by omega), ← HK1.out]
        have q2 : W2.cell? ⟨q, M - 1, none⟩ = some (.int .i64 kM) := by
          rw [HQ2.out.cell (by omega), fillK, if_pos (by omega), ← HKM.out, Nat.sub_add_cancel (by omega)]
        have q3 : ((M : Int) - 1).toNat = M - 1 := by omega
        have q4 : (M : Int) - 1 < (M : Int) := by omega
        have q5 : (0 : Int) < (M : Int) := by omega
        have q6 := H2.out.c0
        go_wp2
        go_ret
        exact ⟨by rw [HR.out]; rfl, T2.out, t1, H2.out, fun u h => by rw [HR.out] at h; cases h⟩
      · by_cases hk2 : hi < kM
        · have HR : Hid (R = none) := hide (by
            rw [E4.out, if_neg]
            intro hh
            simp only [Bool.and_eq_true] at hh
            have := (keysB_iff.1 hh.1 (M - 1) (by omega)).2
            rw [Nat.sub_add_cancel (by omega), HKM.out] at this
            omega)
          go_wp2_with (fail)
          refine (right_k _ q M L HLL.out (by omega) HRD.out true HU.out).mono ?_
          rintro e W2 ⟨rfl, hk⟩
          have HK2 := hide hk
          have H2 := hide (H1.out.on hk)
          have HQ2 : Hid (W2.rowIs q 2 M (fillK s a M)) := hide (HQ.out.of_block (hk.block q HQ.out.lt (fun e => e)))
          have T2 : Hid (Turned (fun i => i = g) W W2) := hide (Kept.behind HT1.out hk)
          clear hk
          have q1 : W2.cell? ⟨q, 0, none⟩ = some (.int .i64 k1) := by
            rw [HQ2.out.cell (by omega), fillK, if_pos (by omega), ← HK1.out]
          have q2 : W2.cell? ⟨q, M - 1, none⟩ = some (.int .i64 kM) := by
            rw [HQ2.out.cell (by omega), fillK, if_pos (by omega), ← HKM.out, Nat.sub_add_cancel (by omega)]
          have q3 : ((M : Int) - 1).toNat = M - 1 := by omega
          have q4 : (M : Int) - 1 < (M : Int) := by omega
          have q5 : (0 : Int) < (M : Int) := by omega
          have q6 := H2.out.c0
          go_wp2
          go_ret
          exact ⟨by rw [HR.out]; rfl, T2.out, t1, H2.out, fun u h => by rw [HR.out] at h; cases h⟩
        · have KB : Hid (keysB s a (M + 1) lo hi = true) := hide (keysB_of (by omega) (by rw [HL.out]; exact HU.out) (by rw [HK1.out]; omega) (by rw [show M + 1 - 1 = M by omega, HKM.out]; omega))
          obtain ⟨z, hz⟩ : ∃ z, s.look ((a : Int) + 2) = z := ⟨_, rfl⟩
          have HZ := hide hz
          clear hz
          have hk1' : lo < k1 := by omega
          have hk2' : kM ≤ hi := by omega
          clear hk1 hk2
          by_cases hz01 : z = 0 ∨ z = 1
          · have SB : Hid (shutB s a = true) := hide (by unfold shutB; rw [HZ.out]; rcases hz01 with e | e <;> subst e <;> rfl)
            have E5 : Hid (R = chain (kidG s (sndW s f) a (M + 1) lo hi) (M + 1) t1) := hide (by rw [E4.out, KB.out, SB.out]; rfl)
            have START : Hid (chain (kidG s (sndW s f) a (M + 1) lo hi) 0 t1 = some t1) := hide rfl
            clear SB E4
            rcases hz01 with hz0 | hz0
            · subst hz0
              go_wp2_with (fail)
              refine (right_k _ q M L HLL.out (by omega) HRD.out true HU.out).mono ?_
              rintro e W2 ⟨rfl, hk⟩
              have HK2 := hide hk
              have H2 := hide (H1.out.on hk)
              have HQ2 : Hid (W2.rowIs q 2 M (fillK s a M)) := hide (HQ.out.of_block (hk.block q HQ.out.lt (fun e => e)))
              have T2 : Hid (Turned (fun i => i = g) W W2) := hide (Kept.behind HT1.out hk)
              clear hk
              have q1 : W2.cell? ⟨q, 0, none⟩ = some (.int .i64 k1) := by
                rw [HQ2.out.cell (by omega), fillK, if_pos (by omega), ← HK1.out]
              have q2 : W2.cell? ⟨q, M - 1, none⟩ = some (.int .i64 kM) := by
                rw [HQ2.out.cell (by omega), fillK, if_pos (by omega), ← HKM.out, Nat.sub_add_cancel (by omega)]
              have q3 : ((M : Int) - 1).toNat = M - 1 := by omega
              have q4 : (M : Int) - 1 < (M : Int) := by omega
              have q5 : (0 : Int) < (M : Int) := by omega
              have q6 := H2.out.c0
              go_wp2_with (fail)
              refine (lk_p _ b s ((a : Int) + 2) 0 H2.out.mem HZ.out).mono ?_
              rintro e w' ⟨rfl, rfl⟩
              clear q1 q2 q3 q4 q5 q6
              go_wp2
              go_loopw [63] (fun v wr => ∃ (k : Nat) (tk : Tk), k ≤ M + 1 ∧ v = .int .i64 (k : Int) ∧ Hid (chain (kidG s (sndW s f) a (M + 1) lo hi) k t1 = some tk) ∧ Hid (Chk w0 wr b s c g tk) ∧ Hid (wr.rowIs q 2 M (fillK s a M)) ∧ Hid (Turned (fun i => i = g) W wr)) (fun v _ => M + 1 - (intOf v).toNat)
              case atStart => exact ⟨0, t1, by omega, by simp, START, H2, HQ2, T2⟩
              case round =>
                obtain ⟨k, tk, hk, rfl, HCH, HC, HW, HTW⟩ := hrel
                by_cases hkn : k < M + 1
                · have j1 : (k : Int) < (M : Int) + 1 := by omega
                  have HFK : Hid (freeN (s.xs.length + 1) tk < f) := hide (Nat.lt_of_le_of_lt (chain_free (sndW_free s f) HCH.out) HFR.out)
                  have hcz := hide (childZ_in (n := a) (d := (M : Int) + 1) (i := k) (by omega) (by omega) (by omega) (by omega) (by omega) (by omega))
                  obtain ⟨u, hu⟩ : ∃ u, kidG s (sndW s f) a (M + 1) lo hi k tk = u := ⟨_, rfl⟩
                  have HUU := hide hu
                  have HNX : Hid (chain (kidG s (sndW s f) a (M + 1) lo hi) (k + 1) t1 = u) := hide (by rw [chain, HCH.out]; exact hu)
                  clear hu HCH
                  by_cases hk0 : k = 0
                  · by_cases hkM : k < M
                    · obtain ⟨kh, hkh⟩ : ∃ kh, ky s a (k + 1) = kh := ⟨_, rfl⟩
                      have r1 : wr.cell? ⟨q, k, none⟩ = some (.int .i64 kh) := by
                        rw [HW.out.cell (by omega), fillK, if_pos (by omega), ← hkh]
                      have r2 : (k : Int) < (M : Int) := by omega
                      have bh1 : I64 kh := by rw [← hkh]; exact HO.out.look _
                      have bh2 : lo < kh := by
                        have h1 := keysB_iff.1 KB.out
                        have : ∀ j, j < M → lo < ky s a (j + 1) := by
                          intro j
                          induction j with
                          | zero => intro hj; have := (h1 0 (by omega)).1; rwa [lowZ, if_pos rfl] at this
                          | succ j ih =>
                            intro hj
                            have h2 := (h1 (j + 1) (by omega)).1
                            rw [lowZ, if_neg (by omega)] at h2
                            have := ih (by omega)
                            omega
                        have := this k (by omega)
                        rwa [hkh] at this
                      have bl := HLO.out
                      have bh3 : -9223372036854775808 ≤ kh - 1 := by have := bl.1; omega
                      have bh4 : kh - 1 ≤ 9223372036854775807 := by have := bh1.2; omega
                      have BH : Hid (I64 (kh - 1)) := hide ⟨bh3, bh4⟩
                      have HU2 : Hid (sndSlot s (sndW s f) ((a : Int) + 4 + ((M : Int) + 1) + k) lo (kh - 1) tk = u) := hide (by
                        rw [← HUU.out]; unfold kidG childS lowZ highZ
                        rw [if_pos hk0, if_pos (by omega), hkh]
                        rfl)
                      subst hk0
                      clear HUU hkh bh1 bl bh2
                      go_wp2_with (fail)
                      refine (child_c _ a ((M : Int) + 1) 0 _ hcz.out).mono ?_
                      rintro e w' ⟨rfl, rfl⟩
                      go_wp2_with (fail)
                      refine (HSL.out w0 _ b s c g tk HC.out _ lo (kh - 1) HLO.out BH.out HFK.out u HU2.out).mono ?_
                      rintro e W4 ⟨rfl, hT4, t4, C4, ht4⟩
                      have H4 := hide C4
                      have T4 : Hid (Turned (fun i => i = g) W W4) := hide (HTW.out.trans hT4 (fun _ e => e) (fun _ _ e => e))
                      have Q4 : Hid (W4.rowIs q 2 M (fillK s a M)) := hide (HW.out.of_block (hT4.block q HW.out.lt HQG.out))
                      cases u with
                      | none =>
                        have HR : Hid (R = none) := hide (by rw [E5.out]; exact chain_none HNX.out (by omega))
                        clear hT4 C4 ht4 HC HW HTW r1
                        go_wp2
                        go_ret
                        exact ⟨by rw [HR.out]; rfl, T4.out, t4, H4.out, fun u h => by rw [HR.out] at h; cases h⟩
                      | some u =>
                        have := ht4 u rfl
                        subst this
                        clear hT4 C4 ht4 HC HW HTW r1
                        go_wp2
                        exact ⟨⟨1, _, by omega, by simp, HNX, H4, Q4, T4⟩, by simp [intOf]⟩
                    · omega
                  · by_cases hkM : k < M
                    · obtain ⟨kl, hkl⟩ : ∃ kl, ky s a k = kl := ⟨_, rfl⟩
                      have p1 : wr.cell? ⟨q, k - 1, none⟩ = some (.int .i64 kl) := by
                        rw [HW.out.cell (by omega), fillK, if_pos (by omega), ← hkl, Nat.sub_add_cancel (by omega)]
                      have p2 : ((k : Int) - 1).toNat = k - 1 := by omega
                      have p3 : (0 : Int) < (k : Int) := by omega
                      have p4 : (k : Int) - 1 < (M : Int) := by omega
                      have BL : Hid (I64 kl) := hide (by rw [← hkl]; exact HO.out.look _)
                      obtain ⟨kh, hkh⟩ : ∃ kh, ky s a (k + 1) = kh := ⟨_, rfl⟩
                      have r1 : wr.cell? ⟨q, k, none⟩ = some (.int .i64 kh) := by
                        rw [HW.out.cell (by omega), fillK, if_pos (by omega), ← hkh]
                      have r2 : (k : Int) < (M : Int) := by omega
                      have bh1 : I64 kh := by rw [← hkh]; exact HO.out.look _
                      have bh2 : lo < kh := by
                        have h1 := keysB_iff.1 KB.out
                        have : ∀ j, j < M → lo < ky s a (j + 1) := by
                          intro j
                          induction j with
                          | zero => intro hj; have := (h1 0 (by omega)).1; rwa [lowZ, if_pos rfl] at this
                          | succ j ih =>
                            intro hj
                            have h2 := (h1 (j + 1) (by omega)).1
                            rw [lowZ, if_neg (by omega)] at h2
                            have := ih (by omega)
                            omega
                        have := this k (by omega)
                        rwa [hkh] at this
                      have bl := HLO.out
                      have bh3 : -9223372036854775808 ≤ kh - 1 := by have := bl.1; omega
                      have bh4 : kh - 1 ≤ 9223372036854775807 := by have := bh1.2; omega
                      have BH : Hid (I64 (kh - 1)) := hide ⟨bh3, bh4⟩
                      have HU2 : Hid (sndSlot s (sndW s f) ((a : Int) + 4 + ((M : Int) + 1) + k) kl (kh - 1) tk = u) := hide (by
                        rw [← HUU.out]; unfold kidG childS lowZ highZ
                        rw [if_neg hk0, hkl, if_pos (by omega), hkh]
                        rfl)
                      clear HUU hkl hkh bh1 bl bh2
                      go_wp2_with (fail)
                      refine (child_c _ a ((M : Int) + 1) k _ hcz.out).mono ?_
                      rintro e w' ⟨rfl, rfl⟩
                      go_wp2_with (fail)
                      refine (HSL.out w0 _ b s c g tk HC.out _ kl (kh - 1) BL.out BH.out HFK.out u HU2.out).mono ?_
                      rintro e W4 ⟨rfl, hT4, t4, C4, ht4⟩
                      have H4 := hide C4
                      have T4 : Hid (Turned (fun i => i = g) W W4) := hide (HTW.out.trans hT4 (fun _ e => e) (fun _ _ e => e))
                      have Q4 : Hid (W4.rowIs q 2 M (fillK s a M)) := hide (HW.out.of_block (hT4.block q HW.out.lt HQG.out))
                      cases u with
                      | none =>
                        have HR : Hid (R = none) := hide (by rw [E5.out]; exact chain_none HNX.out (by omega))
                        clear hT4 C4 ht4 HC HW HTW p1 r1
                        go_wp2
                        go_ret
                        exact ⟨by rw [HR.out]; rfl, T4.out, t4, H4.out, fun u h => by rw [HR.out] at h; cases h⟩
                      | some u =>
                        have := ht4 u rfl
                        subst this
                        clear hT4 C4 ht4 HC HW HTW p1 r1
                        go_wp2
                        exact ⟨⟨k + 1, _, by omega, by simp, HNX, H4, Q4, T4⟩, by simp [intOf]; omega⟩
                    · obtain ⟨kl, hkl⟩ : ∃ kl, ky s a k = kl := ⟨_, rfl⟩
                      have p1 : wr.cell? ⟨q, k - 1, none⟩ = some (.int .i64 kl) := by
                        rw [HW.out.cell (by omega), fillK, if_pos (by omega), ← hkl, Nat.sub_add_cancel (by omega)]
                      have p2 : ((k : Int) - 1).toNat = k - 1 := by omega
                      have p3 : (0 : Int) < (k : Int) := by omega
                      have p4 : (k : Int) - 1 < (M : Int) := by omega
                      have BL : Hid (I64 kl) := hide (by rw [← hkl]; exact HO.out.look _)
                      have r2 : ¬ ((k : Int) < (M : Int)) := by omega
                      have HU2 : Hid (sndSlot s (sndW s f) ((a : Int) + 4 + ((M : Int) + 1) + k) kl hi tk = u) := hide (by
                        rw [← HUU.out]; unfold kidG childS lowZ highZ
                        rw [if_neg hk0, hkl, if_neg (by omega)]
                        rfl)
                      clear HUU hkl
                      go_wp2_with (fail)
                      refine (child_c _ a ((M : Int) + 1) k _ hcz.out).mono ?_
                      rintro e w' ⟨rfl, rfl⟩
                      go_wp2_with (fail)
                      refine (HSL.out w0 _ b s c g tk HC.out _ kl hi BL.out HHI.out HFK.out u HU2.out).mono ?_
                      rintro e W4 ⟨rfl, hT4, t4, C4, ht4⟩
                      have H4 := hide C4
                      have T4 : Hid (Turned (fun i => i = g) W W4) := hide (HTW.out.trans hT4 (fun _ e => e) (fun _ _ e => e))
                      have Q4 : Hid (W4.rowIs q 2 M (fillK s a M)) := hide (HW.out.of_block (hT4.block q HW.out.lt HQG.out))
                      cases u with
                      | none =>
                        have HR : Hid (R = none) := hide (by rw [E5.out]; exact chain_none HNX.out (by omega))
                        clear hT4 C4 ht4 HC HW HTW p1
                        go_wp2
                        go_ret
                        exact ⟨by rw [HR.out]; rfl, T4.out, t4, H4.out, fun u h => by rw [HR.out] at h; cases h⟩
                      | some u =>
                        have := ht4 u rfl
                        subst this
                        clear hT4 C4 ht4 HC HW HTW p1
                        go_wp2
                        exact ⟨⟨k + 1, _, by omega, by simp, HNX, H4, Q4, T4⟩, by simp [intOf]; omega⟩
                · have hkn' : k = M + 1 := by omega
                  subst hkn'
                  have j1 : ¬ (((M + 1 : Nat) : Int) < (M : Int) + 1) := by omega
                  have HR : Hid (R = some tk) := hide (by rw [E5.out]; exact HCH.out)
                  clear HCH
                  go_wp2
                  go_ret
                  exact ⟨by rw [HR.out]; rfl, HTW.out, tk, HC.out, fun u h => by rw [HR.out] at h; cases h; rfl⟩
            · subst hz0
              go_wp2_with (fail)
              refine (right_k _ q M L HLL.out (by omega) HRD.out true HU.out).mono ?_
              rintro e W2 ⟨rfl, hk⟩
              have HK2 := hide hk
              have H2 := hide (H1.out.on hk)
              have HQ2 : Hid (W2.rowIs q 2 M (fillK s a M)) := hide (HQ.out.of_block (hk.block q HQ.out.lt (fun e => e)))
              have T2 : Hid (Turned (fun i => i = g) W W2) := hide (Kept.behind HT1.out hk)
              clear hk
              have q1 : W2.cell? ⟨q, 0, none⟩ = some (.int .i64 k1) := by
                rw [HQ2.out.cell (by omega), fillK, if_pos (by omega), ← HK1.out]
              have q2 : W2.cell? ⟨q, M - 1, none⟩ = some (.int .i64 kM) := by
                rw [HQ2.out.cell (by omega), fillK, if_pos (by omega), ← HKM.out, Nat.sub_add_cancel (by omega)]
              have q3 : ((M : Int) - 1).toNat = M - 1 := by omega
              have q4 : (M : Int) - 1 < (M : Int) := by omega
              have q5 : (0 : Int) < (M : Int) := by omega
              have q6 := H2.out.c0
              go_wp2_with (fail)
              refine (lk_p _ b s ((a : Int) + 2) 1 H2.out.mem HZ.out).mono ?_
              rintro e w' ⟨rfl, rfl⟩
              clear q1 q2 q3 q4 q5 q6
              go_wp2
              go_loopw [63] (fun v wr => ∃ (k : Nat) (tk : Tk), k ≤ M + 1 ∧ v = .int .i64 (k : Int) ∧ Hid (chain (kidG s (sndW s f) a (M + 1) lo hi) k t1 = some tk) ∧ Hid (Chk w0 wr b s c g tk) ∧ Hid (wr.rowIs q 2 M (fillK s a M)) ∧ Hid (Turned (fun i => i = g) W wr)) (fun v _ => M + 1 - (intOf v).toNat)
              case atStart => exact ⟨0, t1, by omega, by simp, START, H2, HQ2, T2⟩
              case round =>
                obtain ⟨k, tk, hk, rfl, HCH, HC, HW, HTW⟩ := hrel
                by_cases hkn : k < M + 1
                · have j1 : (k : Int) < (M : Int) + 1 := by omega
                  have HFK : Hid (freeN (s.xs.length + 1) tk < f) := hide (Nat.lt_of_le_of_lt (chain_free (sndW_free s f) HCH.out) HFR.out)
                  have hcz := hide (childZ_in (n := a) (d := (M : Int) + 1) (i := k) (by omega) (by omega) (by omega) (by omega) (by omega) (by omega))
                  obtain ⟨u, hu⟩ : ∃ u, kidG s (sndW s f) a (M + 1) lo hi k tk = u := ⟨_, rfl⟩
                  have HUU := hide hu
                  have HNX : Hid (chain (kidG s (sndW s f) a (M + 1) lo hi) (k + 1) t1 = u) := hide (by rw [chain, HCH.out]; exact hu)
                  clear hu HCH
                  by_cases hk0 : k = 0
                  · by_cases hkM : k < M
                    · obtain ⟨kh, hkh⟩ : ∃ kh, ky s a (k + 1) = kh := ⟨_, rfl⟩
                      have r1 : wr.cell? ⟨q, k, none⟩ = some (.int .i64 kh) := by
                        rw [HW.out.cell (by omega), fillK, if_pos (by omega), ← hkh]
                      have r2 : (k : Int) < (M : Int) := by omega
                      have bh1 : I64 kh := by rw [← hkh]; exact HO.out.look _
                      have bh2 : lo < kh := by
                        have h1 := keysB_iff.1 KB.out
                        have : ∀ j, j < M → lo < ky s a (j + 1) := by
                          intro j
                          induction j with
                          | zero => intro hj; have := (h1 0 (by omega)).1; rwa [lowZ, if_pos rfl] at this
                          | succ j ih =>
                            intro hj
                            have h2 := (h1 (j + 1) (by omega)).1
                            rw [lowZ, if_neg (by omega)] at h2
                            have := ih (by omega)
                            omega
                        have := this k (by omega)
                        rwa [hkh] at this
                      have bl := HLO.out
                      have bh3 : -9223372036854775808 ≤ kh - 1 := by have := bl.1; omega
                      have bh4 : kh - 1 ≤ 9223372036854775807 := by have := bh1.2; omega
                      have BH : Hid (I64 (kh - 1)) := hide ⟨bh3, bh4⟩
                      have HU2 : Hid (sndSlot s (sndW s f) ((a : Int) + 4 + ((M : Int) + 1) + k) lo (kh - 1) tk = u) := hide (by
                        rw [← HUU.out]; unfold kidG childS lowZ highZ
                        rw [if_pos hk0, if_pos (by omega), hkh]
                        rfl)
                      subst hk0
                      clear HUU hkh bh1 bl bh2
                      go_wp2_with (fail)
                      refine (child_c _ a ((M : Int) + 1) 0 _ hcz.out).mono ?_
                      rintro e w' ⟨rfl, rfl⟩
                      go_wp2_with (fail)
                      refine (HSL.out w0 _ b s c g tk HC.out _ lo (kh - 1) HLO.out BH.out HFK.out u HU2.out).mono ?_
                      rintro e W4 ⟨rfl, hT4, t4, C4, ht4⟩
                      have H4 := hide C4
                      have T4 : Hid (Turned (fun i => i = g) W W4) := hide (HTW.out.trans hT4 (fun _ e => e) (fun _ _ e => e))
                      have Q4 : Hid (W4.rowIs q 2 M (fillK s a M)) := hide (HW.out.of_block (hT4.block q HW.out.lt HQG.out))
                      cases u with
                      | none =>
                        have HR : Hid (R = none) := hide (by rw [E5.out]; exact chain_none HNX.out (by omega))
                        clear hT4 C4 ht4 HC HW HTW r1
                        go_wp2
                        go_ret
                        exact ⟨by rw [HR.out]; rfl, T4.out, t4, H4.out, fun u h => by rw [HR.out] at h; cases h⟩
                      | some u =>
                        have := ht4 u rfl
                        subst this
                        clear hT4 C4 ht4 HC HW HTW r1
                        go_wp2
                        exact ⟨⟨1, _, by omega, by simp, HNX, H4, Q4, T4⟩, by simp [intOf]⟩
                    · omega
                  · by_cases hkM : k < M
                    · obtain ⟨kl, hkl⟩ : ∃ kl, ky s a k = kl := ⟨_, rfl⟩
                      have p1 : wr.cell? ⟨q, k - 1, none⟩ = some (.int .i64 kl) := by
                        rw [HW.out.cell (by omega), fillK, if_pos (by omega), ← hkl, Nat.sub_add_cancel (by omega)]
                      have p2 : ((k : Int) - 1).toNat = k - 1 := by omega
                      have p3 : (0 : Int) < (k : Int) := by omega
                      have p4 : (k : Int) - 1 < (M : Int) := by omega
                      have BL : Hid (I64 kl) := hide (by rw [← hkl]; exact HO.out.look _)
                      obtain ⟨kh, hkh⟩ : ∃ kh, ky s a (k + 1) = kh := ⟨_, rfl⟩
                      have r1 : wr.cell? ⟨q, k, none⟩ = some (.int .i64 kh) := by
                        rw [HW.out.cell (by omega), fillK, if_pos (by omega), ← hkh]
                      have r2 : (k : Int) < (M : Int) := by omega
                      have bh1 : I64 kh := by rw [← hkh]; exact HO.out.look _
                      have bh2 : lo < kh := by
                        have h1 := keysB_iff.1 KB.out
                        have : ∀ j, j < M → lo < ky s a (j + 1) := by
                          intro j
                          induction j with
                          | zero => intro hj; have := (h1 0 (by omega)).1; rwa [lowZ, if_pos rfl] at this
                          | succ j ih =>
                            intro hj
                            have h2 := (h1 (j + 1) (by omega)).1
                            rw [lowZ, if_neg (by omega)] at h2
                            have := ih (by omega)
                            omega
                        have := this k (by omega)
                        rwa [hkh] at this
                      have bl := HLO.out
                      have bh3 : -9223372036854775808 ≤ kh - 1 := by have := bl.1; omega
                      have bh4 : kh - 1 ≤ 9223372036854775807 := by have := bh1.2; omega
                      have BH : Hid (I64 (kh - 1)) := hide ⟨bh3, bh4⟩
                      have HU2 : Hid (sndSlot s (sndW s f) ((a : Int) + 4 + ((M : Int) + 1) + k) kl (kh - 1) tk = u) := hide (by
                        rw [← HUU.out]; unfold kidG childS lowZ highZ
                        rw [if_neg hk0, hkl, if_pos (by omega), hkh]
                        rfl)
                      clear HUU hkl hkh bh1 bl bh2
                      go_wp2_with (fail)
                      refine (child_c _ a ((M : Int) + 1) k _ hcz.out).mono ?_
                      rintro e w' ⟨rfl, rfl⟩
                      go_wp2_with (fail)
                      refine (HSL.out w0 _ b s c g tk HC.out _ kl (kh - 1) BL.out BH.out HFK.out u HU2.out).mono ?_
                      rintro e W4 ⟨rfl, hT4, t4, C4, ht4⟩
                      have H4 := hide C4
                      have T4 : Hid (Turned (fun i => i = g) W W4) := hide (HTW.out.trans hT4 (fun _ e => e) (fun _ _ e => e))
                      have Q4 : Hid (W4.rowIs q 2 M (fillK s a M)) := hide (HW.out.of_block (hT4.block q HW.out.lt HQG.out))
                      cases u with
                      | none =>
                        have HR : Hid (R = none) := hide (by rw [E5.out]; exact chain_none HNX.out (by omega))
                        clear hT4 C4 ht4 HC HW HTW p1 r1
                        go_wp2
                        go_ret
                        exact ⟨by rw [HR.out]; rfl, T4.out, t4, H4.out, fun u h => by rw [HR.out] at h; cases h⟩
                      | some u =>
                        have := ht4 u rfl
                        subst this
                        clear hT4 C4 ht4 HC HW HTW p1 r1
                        go_wp2
                        exact ⟨⟨k + 1, _, by omega, by simp, HNX, H4, Q4, T4⟩, by simp [intOf]; omega⟩
                    · obtain ⟨kl, hkl⟩ : ∃ kl, ky s a k = kl := ⟨_, rfl⟩
                      have p1 : wr.cell? ⟨q, k - 1, none⟩ = some (.int .i64 kl) := by
                        rw [HW.out.cell (by omega), fillK, if_pos (by omega), ← hkl, Nat.sub_add_cancel (by omega)]
                      have p2 : ((k : Int) - 1).toNat = k - 1 := by omega
                      have p3 : (0 : Int) < (k : Int) := by omega
                      have p4 : (k : Int) - 1 < (M : Int) := by omega
                      have BL : Hid (I64 kl) := hide (by rw [← hkl]; exact HO.out.look _)
                      have r2 : ¬ ((k : Int) < (M : Int)) := by omega
                      have HU2 : Hid (sndSlot s (sndW s f) ((a : Int) + 4 + ((M : Int) + 1) + k) kl hi tk = u) := hide (by
                        rw [← HUU.out]; unfold kidG childS lowZ highZ
                        rw [if_neg hk0, hkl, if_neg (by omega)]
                        rfl)
                      clear HUU hkl
                      go_wp2_with (fail)
                      refine (child_c _ a ((M : Int) + 1) k _ hcz.out).mono ?_
                      rintro e w' ⟨rfl, rfl⟩
                      go_wp2_with (fail)
                      refine (HSL.out w0 _ b s c g tk HC.out _ kl hi BL.out HHI.out HFK.out u HU2.out).mono ?_
                      rintro e W4 ⟨rfl, hT4, t4, C4, ht4⟩
                      have H4 := hide C4
                      have T4 : Hid (Turned (fun i => i = g) W W4) := hide (HTW.out.trans hT4 (fun _ e => e) (fun _ _ e => e))
                      have Q4 : Hid (W4.rowIs q 2 M (fillK s a M)) := hide (HW.out.of_block (hT4.block q HW.out.lt HQG.out))
                      cases u with
                      | none =>
                        have HR : Hid (R = none) := hide (by rw [E5.out]; exact chain_none HNX.out (by omega))
                        clear hT4 C4 ht4 HC HW HTW p1
                        go_wp2
                        go_ret
                        exact ⟨by rw [HR.out]; rfl, T4.out, t4, H4.out, fun u h => by rw [HR.out] at h; cases h⟩
                      | some u =>
                        have := ht4 u rfl
                        subst this
                        clear hT4 C4 ht4 HC HW HTW p1
                        go_wp2
                        exact ⟨⟨k + 1, _, by omega, by simp, HNX, H4, Q4, T4⟩, by simp [intOf]; omega⟩
                · have hkn' : k = M + 1 := by omega
                  subst hkn'
                  have j1 : ¬ (((M + 1 : Nat) : Int) < (M : Int) + 1) := by omega
                  have HR : Hid (R = some tk) := hide (by rw [E5.out]; exact HCH.out)
                  clear HCH
                  go_wp2
                  go_ret
                  exact ⟨by rw [HR.out]; rfl, HTW.out, tk, HC.out, fun u h => by rw [HR.out] at h; cases h; rfl⟩
          · have SB : Hid (shutB s a = false) := hide (by unfold shutB; rw [HZ.out]; simp; omega)
            have HR : Hid (R = none) := hide (by rw [E4.out, KB.out, SB.out]; rfl)
            have g1 : (z == 0) = false := by simp; omega
            have g2 : (z != 0) = true := by simp; omega
            have g3 : (z == 1) = false := by simp; omega
            have g4 : (z != 1) = true := by simp; omega
            clear hz01 SB E4
            go_wp2_with (fail)
            refine (right_k _ q M L HLL.out (by omega) HRD.out true HU.out).mono ?_
            rintro e W2 ⟨rfl, hk⟩
            have HK2 := hide hk
            have H2 := hide (H1.out.on hk)
            have HQ2 : Hid (W2.rowIs q 2 M (fillK s a M)) := hide (HQ.out.of_block (hk.block q HQ.out.lt (fun e => e)))
            have T2 : Hid (Turned (fun i => i = g) W W2) := hide (Kept.behind HT1.out hk)
            clear hk
            have q1 : W2.cell? ⟨q, 0, none⟩ = some (.int .i64 k1) := by
              rw [HQ2.out.cell (by omega), fillK, if_pos (by omega), ← HK1.out]
            have q2 : W2.cell? ⟨q, M - 1, none⟩ = some (.int .i64 kM) := by
              rw [HQ2.out.cell (by omega), fillK, if_pos (by omega), ← HKM.out, Nat.sub_add_cancel (by omega)]
            have q3 : ((M : Int) - 1).toNat = M - 1 := by omega
            have q4 : (M : Int) - 1 < (M : Int) := by omega
            have q5 : (0 : Int) < (M : Int) := by omega
            have q6 := H2.out.c0
            go_wp2_with (fail)
            refine (lk_p _ b s ((a : Int) + 2) z H2.out.mem HZ.out).mono ?_
            rintro e w' ⟨rfl, rfl⟩
            go_wp2
            go_ret
            exact ⟨by rw [HR.out]; rfl, T2.out, t1, H2.out, fun u h => by rw [HR.out] at h; cases h⟩
end Go.Proofs.Ytgialpjdfeldeaa

/-! The program's check of soundness: words (by fuel), and Sound. -/
namespace Go.Proofs.Ytgialpjdfeldeaa
open Go.RowKit

theorem sndW_succ (s : Mst) (f : Nat) (w lo hi : Int) (t : Tk) : sndW s (f + 1) w lo hi t =
    if kd w = 1 then takeO (s.xs.length + 1) t (ad w).toNat 1
    else if kd w = 2 then (if lo ≤ s.look (ad w) ∧ s.look (ad w) ≤ hi then takeO (s.xs.length + 1) t (ad w).toNat 2 else none)
    else if kd w = 3 then sndInner s (sndW s f) (ad w).toNat lo hi t
    else if kd w = 4 then (if kd (s.look (ad w)) = 3 then (takeO (s.xs.length + 1) t (ad w).toNat 5).bind fun t1 => sndW s f (s.look (ad w)) lo hi t1 else none)
    else none := rfl

set_option maxHeartbeats 1000000 in
set_option maxRecDepth 20000 in
theorem word_p : ∀ f, WordC f
  | 0 => fun w0 W b s c g t C x lo hi hx hlo hhi hf r e1 => absurd hf (by omega)
  | f + 1 => by
    have ih := word_p f
    have hS := slot_of_word f ih
    intro w0 W b s c g t C x lo hi hx hlo hhi hf r e1
    have c0 := C.c0
    have H := hide C
    have HX := hide hx
    have HLO := hide hlo
    have HHI := hide hhi
    have HF := hide hf
    have IH := hide ih
    have HS := hide hS
    obtain ⟨k, hk⟩ : ∃ k, kd x = k := ⟨_, rfl⟩
    obtain ⟨p, hp⟩ : ∃ p, ad x = p := ⟨_, rfl⟩
    have kr := ad_range x
    rw [hp] at kr
    have HK := hide hk
    obtain ⟨a, rfl⟩ : ∃ a : Nat, p = (a : Int) := ⟨p.toNat, by omega⟩
    have HP := hide hp
    have hap : k ≠ 0 → 1 ≤ a := fun h => by
      have := ad_pos (w := x) (by rw [hk]; exact h)
      rw [hp] at this; omega
    have HA := hide hap
    have a1 : (a : Int) ≤ 65536 := kr.2
    have haN : (ad x).toNat = a := by rw [hp]; omega
    obtain ⟨z, hz⟩ : ∃ z, s.look (a : Int) = z := ⟨_, rfl⟩
    have HZ := hide hz
    have HZB : Hid (I64 z) := hide (by rw [← hz]; exact C.ok.look _)
    have e2 : r = if k = 1 then takeO (s.xs.length + 1) t a 1
      else if k = 2 then (if lo ≤ z ∧ z ≤ hi then takeO (s.xs.length + 1) t a 2 else none)
      else if k = 3 then sndInner s (sndW s f) a lo hi t
      else if k = 4 then (if kd z = 3 then (takeO (s.xs.length + 1) t a 5).bind fun t1 => sndW s f z lo hi t1 else none)
      else none := by
      rw [← e1, sndW_succ, hk, hp, hz, Int.toNat_natCast]
    have hkr := kd_range x
    rw [hk] at hkr
    have E2 := hide e2
    by_cases k1 : k = 1
    · have HR : Hid (takeO (s.xs.length + 1) t a 1 = r) := hide (by rw [E2.out, if_pos k1])
      have ha := hap (by omega)
      subst k1
      clear C hx hlo hhi hf ih hS hk hp kr hap haN hz e1 e2 E2 hkr
      go_enter Try.func87, Try.ntmps87
      go_wp2_with (fail)
      refine (ak_p _ x a HX.out HP.out).mono ?_
      rintro e w' ⟨rfl, rfl⟩
      go_wp2_with (fail)
      refine (kk_p _ x 1 HX.out HK.out).mono ?_
      rintro e w' ⟨rfl, rfl⟩
      go_wp2_with (fail)
      refine (take_p w0 _ b s c g t H.out a 1 ha (by omega) (by omega) r HR.out).mono ?_
      rintro e w' ⟨rfl, hT, hC⟩
      have HC := hide hC
      have HT := hide hT
      clear hC hT H c0
      go_wp2
      go_ret
      exact ⟨rfl, HT.out, HC.out⟩
    by_cases k2 : k = 2
    · have ha := hap (by omega)
      have e3 : r = if lo ≤ z ∧ z ≤ hi then takeO (s.xs.length + 1) t a 2 else none := by rw [E2.out, if_neg k1, if_pos k2]
      obtain ⟨u, hu⟩ : ∃ u, takeO (s.xs.length + 1) t a 2 = u := ⟨_, rfl⟩
      have HU := hide hu
      rw [hu] at e3
      have E3 := hide e3
      subst k2
      clear C hx hlo hhi hf ih hS hk hp kr hap haN hz e1 e2 E2 hkr k1 hu e3
      cases u with
      | none =>
        have HR : Hid (r = none) := hide (by rw [E3.out]; split <;> rfl)
        go_enter Try.func87, Try.ntmps87
        go_wp2_with (fail)
        refine (ak_p _ x a HX.out HP.out).mono ?_
        rintro e w' ⟨rfl, rfl⟩
        go_wp2_with (fail)
        refine (kk_p _ x 2 HX.out HK.out).mono ?_
        rintro e w' ⟨rfl, rfl⟩
        go_wp2_with (fail)
        refine (lk_p _ b s a z H.out.mem HZ.out).mono ?_
        rintro e w' ⟨rfl, rfl⟩
        go_wp2_with (fail)
        refine (take_p w0 _ b s c g t H.out a 2 ha (by omega) (by omega) none HU.out).mono ?_
        rintro e w' ⟨rfl, hT, t', hC, _⟩
        have HC := hide hC
        have HT := hide hT
        clear hC hT H c0
        go_wp2
        go_ret
        exact ⟨by rw [HR.out]; rfl, HT.out, t', HC.out, fun u h => by rw [HR.out] at h; cases h⟩
      | some u =>
        by_cases hl1 : lo ≤ z
        · by_cases hl2 : z ≤ hi
          · have HR : Hid (r = some u) := hide (by rw [E3.out, if_pos ⟨hl1, hl2⟩])
            go_enter Try.func87, Try.ntmps87
            go_wp2_with (fail)
            refine (ak_p _ x a HX.out HP.out).mono ?_
            rintro e w' ⟨rfl, rfl⟩
            go_wp2_with (fail)
            refine (kk_p _ x 2 HX.out HK.out).mono ?_
            rintro e w' ⟨rfl, rfl⟩
            go_wp2_with (fail)
            refine (lk_p _ b s a z H.out.mem HZ.out).mono ?_
            rintro e w' ⟨rfl, rfl⟩
            go_wp2_with (fail)
            refine (take_p w0 _ b s c g t H.out a 2 ha (by omega) (by omega) (some u) HU.out).mono ?_
            rintro e w' ⟨rfl, hT, t', hC, ht'⟩
            have := ht' u rfl
            subst this
            have HC := hide hC
            have HT := hide hT
            clear hC hT H c0 ht'
            go_wp2
            go_ret
            exact ⟨by rw [HR.out]; rfl, HT.out, t', HC.out, fun u h => by rw [HR.out] at h; cases h; rfl⟩
          · have HR : Hid (r = none) := hide (by rw [E3.out, if_neg (fun h => hl2 h.2)])
            have g1 : decide (z ≤ hi) = false := by simp; omega
            have hl2' : hi < z := by omega
            clear hl2
            go_enter Try.func87, Try.ntmps87
            go_wp2_with (fail)
            refine (ak_p _ x a HX.out HP.out).mono ?_
            rintro e w' ⟨rfl, rfl⟩
            go_wp2_with (fail)
            refine (kk_p _ x 2 HX.out HK.out).mono ?_
            rintro e w' ⟨rfl, rfl⟩
            go_wp2_with (fail)
            refine (lk_p _ b s a z H.out.mem HZ.out).mono ?_
            rintro e w' ⟨rfl, rfl⟩
            go_wp2_with (fail)
            refine (take_p w0 _ b s c g t H.out a 2 ha (by omega) (by omega) (some u) HU.out).mono ?_
            rintro e w' ⟨rfl, hT, t', hC, _⟩
            have HC := hide hC
            have HT := hide hT
            clear hC hT H c0
            go_wp2
            go_ret
            exact ⟨by rw [HR.out]; rfl, HT.out, t', HC.out, fun u h => by rw [HR.out] at h; cases h⟩
        · have HR : Hid (r = none) := hide (by rw [E3.out, if_neg (fun h => hl1 h.1)])
          have g1 : decide (lo ≤ z) = false := by simp; omega
          have hl1' : z < lo := by omega
          clear hl1
          go_enter Try.func87, Try.ntmps87
          go_wp2_with (fail)
          refine (ak_p _ x a HX.out HP.out).mono ?_
          rintro e w' ⟨rfl, rfl⟩
          go_wp2_with (fail)
          refine (kk_p _ x 2 HX.out HK.out).mono ?_
          rintro e w' ⟨rfl, rfl⟩
          go_wp2_with (fail)
          refine (lk_p _ b s a z H.out.mem HZ.out).mono ?_
          rintro e w' ⟨rfl, rfl⟩
          go_wp2_with (fail)
          refine (take_p w0 _ b s c g t H.out a 2 ha (by omega) (by omega) (some u) HU.out).mono ?_
          rintro e w' ⟨rfl, hT, t', hC, _⟩
          have HC := hide hC
          have HT := hide hT
          clear hC hT H c0
          go_wp2
          go_ret
          exact ⟨by rw [HR.out]; rfl, HT.out, t', HC.out, fun u h => by rw [HR.out] at h; cases h⟩
    by_cases k3 : k = 3
    · have HR : Hid (sndInner s (sndW s f) a lo hi t = r) := hide (by rw [E2.out, if_neg k1, if_neg k2, if_pos k3])
      have ha := hap (by omega)
      subst k3
      clear C hx hlo hhi hf ih hS hk hp kr hap haN hz e1 e2 E2 hkr k1 k2
      go_enter Try.func87, Try.ntmps87
      go_wp2_with (fail)
      refine (ak_p _ x a HX.out HP.out).mono ?_
      rintro e w' ⟨rfl, rfl⟩
      go_wp2_with (fail)
      refine (kk_p _ x 3 HX.out HK.out).mono ?_
      rintro e w' ⟨rfl, rfl⟩
      go_wp2_with (fail)
      refine (inner_of_slot f HS.out w0 _ b s c g t H.out a lo hi ha (by omega) HLO.out HHI.out HF.out r HR.out).mono ?_
      rintro e w' ⟨rfl, hT, hC⟩
      have HC := hide hC
      have HT := hide hT
      clear hC hT H c0
      go_wp2
      go_ret
      exact ⟨rfl, HT.out, HC.out⟩
    by_cases k4 : k = 4
    · have ha := hap (by omega)
      have e3 : r = if kd z = 3 then (takeO (s.xs.length + 1) t a 5).bind (fun t1 => sndW s f z lo hi t1) else none := by rw [E2.out, if_neg k1, if_neg k2, if_neg k3, if_pos k4]
      obtain ⟨u, hu⟩ : ∃ u, takeO (s.xs.length + 1) t a 5 = u := ⟨_, rfl⟩
      have HU := hide hu
      obtain ⟨j, hj⟩ : ∃ j, kd z = j := ⟨_, rfl⟩
      have HJ := hide hj
      rw [hu, hj] at e3
      have E3 := hide e3
      subst k4
      clear C hx hlo hhi hf ih hS hk hp kr hap haN hz e1 e2 E2 hkr k1 k2 k3 e3 hj
      cases u with
      | none =>
        have HR : Hid (r = none) := hide (by rw [E3.out]; split <;> rfl)
        clear hu
        go_enter Try.func87, Try.ntmps87
        go_wp2_with (fail)
        refine (ak_p _ x a HX.out HP.out).mono ?_
        rintro e w' ⟨rfl, rfl⟩
        go_wp2_with (fail)
        refine (kk_p _ x 4 HX.out HK.out).mono ?_
        rintro e w' ⟨rfl, rfl⟩
        go_wp2_with (fail)
        refine (lk_p _ b s a z H.out.mem HZ.out).mono ?_
        rintro e w' ⟨rfl, rfl⟩
        go_wp2_with (fail)
        refine (take_p w0 _ b s c g t H.out a 5 ha (by omega) (by omega) none HU.out).mono ?_
        rintro e w' ⟨rfl, hT, t', hC, _⟩
        have HC := hide hC
        have HT := hide hT
        clear hC hT H c0
        go_wp2
        go_ret
        exact ⟨by rw [HR.out]; rfl, HT.out, t', HC.out, fun u h => by rw [HR.out] at h; cases h⟩
      | some u =>
        have HFU : Hid (freeN (s.xs.length + 1) u < f) := hide (by have := takeO_free hu; have := HF.out; omega)
        clear hu
        by_cases j3 : j = 3
        · have HR : Hid (sndW s f z lo hi u = r) := hide (by rw [E3.out, if_pos j3]; rfl)
          subst j3
          go_enter Try.func87, Try.ntmps87
          go_wp2_with (fail)
          refine (ak_p _ x a HX.out HP.out).mono ?_
          rintro e w' ⟨rfl, rfl⟩
          go_wp2_with (fail)
          refine (kk_p _ x 4 HX.out HK.out).mono ?_
          rintro e w' ⟨rfl, rfl⟩
          go_wp2_with (fail)
          refine (lk_p _ b s a z H.out.mem HZ.out).mono ?_
          rintro e w' ⟨rfl, rfl⟩
          go_wp2_with (fail)
          refine (take_p w0 _ b s c g t H.out a 5 ha (by omega) (by omega) (some u) HU.out).mono ?_
          rintro e w' ⟨rfl, hT, t', hC, ht'⟩
          have := ht' u rfl
          subst this
          have HC := hide hC
          have HT := hide hT
          clear hC hT H c0 ht'
          go_wp2_with (fail)
          refine (kk_p _ z 3 HZB.out HJ.out).mono ?_
          rintro e w'' ⟨rfl, rfl⟩
          go_wp2_with (fail)
          refine (IH.out w0 _ b s c g _ HC.out z lo hi HZB.out HLO.out HHI.out HFU.out r HR.out).mono ?_
          rintro e w'' ⟨rfl, hT, hC⟩
          have HC2 := hide hC
          have HT2 := hide (HT.out.trans hT (fun _ e => e) (fun _ _ e => e))
          clear hC hT HC HT
          go_wp2
          go_ret
          exact ⟨rfl, HT2.out, HC2.out⟩
        · have HR : Hid (r = none) := hide (by rw [E3.out, if_neg j3])
          have g1 : (j == 3) = false := by simp [j3]
          have g2 : (j != 3) = true := by simp [j3]
          clear j3
          go_enter Try.func87, Try.ntmps87
          go_wp2_with (fail)
          refine (ak_p _ x a HX.out HP.out).mono ?_
          rintro e w' ⟨rfl, rfl⟩
          go_wp2_with (fail)
          refine (kk_p _ x 4 HX.out HK.out).mono ?_
          rintro e w' ⟨rfl, rfl⟩
          go_wp2_with (fail)
          refine (lk_p _ b s a z H.out.mem HZ.out).mono ?_
          rintro e w' ⟨rfl, rfl⟩
          go_wp2_with (fail)
          refine (take_p w0 _ b s c g t H.out a 5 ha (by omega) (by omega) (some u) HU.out).mono ?_
          rintro e w' ⟨rfl, hT, t', hC, _⟩
          have HC := hide hC
          have HT := hide hT
          clear hC hT H c0
          go_wp2_with (fail)
          refine (kk_p _ z j HZB.out HJ.out).mono ?_
          rintro e w'' ⟨rfl, rfl⟩
          go_wp2
          go_ret
          exact ⟨by rw [HR.out]; rfl, HT.out, t', HC.out, fun u h => by rw [HR.out] at h; cases h⟩
    · have HR : Hid (r = none) := hide (by rw [E2.out, if_neg k1, if_neg k2, if_neg k3, if_neg k4])
      have g1 : (k == 1) = false := by simp [k1]
      have g2 : (k == 2) = false := by simp [k2]
      have g3 : (k == 3) = false := by simp [k3]
      have g4 : (k == 4) = false := by simp [k4]
      clear C hx hlo hhi hf ih hS hk hp kr hap haN hz e1 e2 E2 hkr k1 k2 k3 k4
      go_enter Try.func87, Try.ntmps87
      go_wp2_with (fail)
      refine (ak_p _ x a HX.out HP.out).mono ?_
      rintro e w' ⟨rfl, rfl⟩
      go_wp2_with (fail)
      refine (kk_p _ x k HX.out HK.out).mono ?_
      rintro e w' ⟨rfl, rfl⟩
      go_wp2
      go_ret
      exact ⟨by rw [HR.out]; rfl, Turned.refl _ _, t, H.out, fun u h => by rw [HR.out] at h; cases h⟩
end Go.Proofs.Ytgialpjdfeldeaa

/-! The program's Sound. -/
namespace Go.Proofs.Ytgialpjdfeldeaa
open Go.RowKit

set_option maxRecDepth 20000 in
theorem sound_p (w : World) (b : Nat) (s : Mst) (h : PM w b s) (ho : s.ok) (r : Bool) (e1 : soundB s = r) :
    Calls Try.prog 31 #[.pointer (some ⟨b, 0, none⟩)] w fun e w' => e = .returned (.bool r) ∧ Kept w w' := by
  have H := hide h
  have HO := hide ho
  obtain ⟨z1, hz1⟩ : ∃ z, s.look 1 = z := ⟨_, rfl⟩
  obtain ⟨z3, hz3⟩ : ∃ z, s.look 3 = z := ⟨_, rfl⟩
  have H1 := hide hz1
  have H3 := hide hz3
  have e2 : r = (decide (6 ≤ s.xs.length) && (z1 == 1) && (z3 == 0) && (sndSlot s (sndW s (fuel s)) 6 (-9223372036854775808) 9223372036854775807 base0).isSome) := by
    rw [← e1, soundB, hz1, hz3]
  have E2 := hide e2
  clear h ho hz1 hz3 e1 e2
  by_cases c1 : z1 = 1
  · by_cases c3 : z3 = 0
    · subst c1 c3
      obtain ⟨N, hN⟩ : ∃ N, s.xs.length = N := ⟨_, rfl⟩
      have HN := hide hN
      have HNi : Hid ((s.xs.length : Int) = (N : Int)) := hide (by omega)
      have n1 : N ≤ 65536 := by rw [← hN]; exact HO.out.2
      have hmk := run_make58 (N + 1) (by omega)
      rw [show ((N + 1 : Nat) : Int) = (N : Int) + 1 from rfl] at hmk
      clear hN
      go_enter Try.func31, Try.ntmps31
      go_wp2_with (fail)
      refine (lk_p _ b s 1 1 H.out H1.out).mono ?_
      rintro e w' ⟨rfl, rfl⟩
      go_wp2_with (fail)
      refine (lk_p _ b s 3 0 H.out H3.out).mono ?_
      rintro e w' ⟨rfl, rfl⟩
      go_wp2_with (fail)
      refine (used_k _ b s N H.out HNi.out).mono ?_
      rintro e w' ⟨rfl, rfl⟩
      go_wp2_with (fail)
      have C0 : Chk w ((w.alloc (.cells (madeCells #[.bool false] (N + 1)) 4)).alloc (.cells #[.pointer (some ⟨b, 0, none⟩), .slice (some ⟨w.heap.size, 0, none⟩) (N + 1) (N + 1)] 79)) b s (w.heap.size + 1) w.heap.size (fun _ => false) := by
        refine ⟨H.out, HO.out, ((Kept.refl w).alloc _).alloc _, by omega, Nat.le_refl _, by omega, ?_, ?_⟩
        · rw [HN.out]
          have := heap_new (w.alloc (.cells (madeCells #[.bool false] (N + 1)) 4)) (.cells #[.pointer (some ⟨b, 0, none⟩), .slice (some ⟨w.heap.size, 0, none⟩) (N + 1) (N + 1)] 79)
          rwa [show (w.alloc (.cells (madeCells #[.bool false] (N + 1)) 4)).heap.size = w.heap.size + 1 by simp] at this
        · rw [HN.out]
          exact (World.rowIs_made w (.bool false) (N + 1) 4).alloc _
      have HC := hide C0
      obtain ⟨W1, hW1⟩ : ∃ W1, ((w.alloc (.cells (madeCells #[.bool false] (N + 1)) 4)).alloc (.cells #[.pointer (some ⟨b, 0, none⟩), .slice (some ⟨w.heap.size, 0, none⟩) (N + 1) (N + 1)] 79)) = W1 := ⟨_, rfl⟩
      rw [hW1] at HC ⊢
      clear hW1 C0 hmk
      by_cases h6 : 6 ≤ N
      · have HT : Hid (takeO (s.xs.length + 1) (fun _ => false) 1 6 = some base0) := hide (by
          rw [HN.out, takeO, if_pos]
          · rfl
          · simp [freeB]; omega)
        have HFU : Hid (freeN (s.xs.length + 1) base0 < fuel s) := hide (by
          have := freeN_le (s.xs.length + 1) base0
          unfold fuel; omega)
        refine (take_p w _ b s _ _ _ HC.out 1 6 (by omega) (by omega) (by omega) _ HT.out).mono ?_
        rintro e W2 ⟨rfl, hT, t', hC, ht'⟩
        have := ht' _ rfl
        subst this
        have HC2 := hide hC
        clear hT hC ht' HC
        obtain ⟨u, hu⟩ : ∃ u, sndSlot s (sndW s (fuel s)) 6 (-9223372036854775808) 9223372036854775807 base0 = u := ⟨_, rfl⟩
        have HU := hide hu
        have HR : Hid (r = u.isSome) := hide (by rw [E2.out, hu, HN.out]; simp [h6])
        clear hu
        go_wp2_with (fail)
        refine (slot_of_word _ (word_p (fuel s)) w _ b s _ _ _ HC2.out 6 (-9223372036854775808) 9223372036854775807 ⟨by decide, by decide⟩ ⟨by decide, by decide⟩ HFU.out u HU.out).mono ?_
        rintro e W3 ⟨rfl, hT, t', hC, ht'⟩
        have HC3 := hide hC
        clear hT hC ht' HC2
        go_wp2
        go_ret
        exact ⟨by rw [HR.out]; rfl, HC3.out.kept⟩
      · have HT : Hid (takeO (s.xs.length + 1) (fun _ => false) 1 6 = none) := hide (by
          rw [HN.out, takeO, if_neg]
          simp; omega)
        have HR : Hid (r = false) := hide (by rw [E2.out, HN.out]; simp [h6])
        refine (take_p w _ b s _ _ _ HC.out 1 6 (by omega) (by omega) (by omega) _ HT.out).mono ?_
        rintro e W2 ⟨rfl, hT, t', hC, ht'⟩
        have HC2 := hide hC
        clear hT hC ht' HC
        go_wp2
        go_ret
        exact ⟨by rw [HR.out]; rfl, HC2.out.kept⟩
    · have HR : Hid (r = false) := hide (by rw [E2.out]; simp [c3])
      have g1 : (z3 == 0) = false := by simp [c3]
      have g2 : (z3 != 0) = true := by simp [c3]
      subst c1
      clear c3
      go_enter Try.func31, Try.ntmps31
      go_wp2_with (fail)
      refine (lk_p _ b s 1 1 H.out H1.out).mono ?_
      rintro e w' ⟨rfl, rfl⟩
      go_wp2_with (fail)
      refine (lk_p _ b s 3 z3 H.out H3.out).mono ?_
      rintro e w' ⟨rfl, rfl⟩
      go_wp2
      go_ret
      exact ⟨by rw [HR.out]; rfl, Kept.refl _⟩
  · have HR : Hid (r = false) := hide (by rw [E2.out]; simp [c1])
    have g1 : (z1 == 1) = false := by simp [c1]
    have g2 : (z1 != 1) = true := by simp [c1]
    clear c1
    go_enter Try.func31, Try.ntmps31
    go_wp2_with (fail)
    refine (lk_p _ b s 1 z1 H.out H1.out).mono ?_
    rintro e w' ⟨rfl, rfl⟩
    go_wp2
    go_ret
    exact ⟨by rw [HR.out]; rfl, Kept.refl _⟩
end Go.Proofs.Ytgialpjdfeldeaa

/-! Chapter 9 in plain: what lies below a word, by fuel; that a sound tree's words are well-founded. -/
namespace Go.Proofs.Ytgialpjdfeldeaa
open Go.RowKit

section
variable (s : Mst)
def tgt (w : Int) : Int := if kd w = 4 then s.look (ad w) else w
def atN (w : Int) : Nat := (ad (tgt s w)).toNat
def degN (w : Int) : Nat := (s.look (ad (tgt s w))).toNat
def slotsL (w : Int) : List (Int × Int) := if kd (tgt s w) = 3 then (List.range (degN s w)).map (fun i : Nat => ((i : Int), childS (atN s w) (degN s w) i)) else []
/-- A word whose record may be. -/
structure WfH (w : Int) : Prop where
  i64 : I64 w
  deg : kd (tgt s w) = 3 → 2 ≤ s.look (ad (tgt s w)) ∧ s.look (ad (tgt s w)) ≤ 40000
  tg : kd w = 4 → kd (tgt s w) = 3
def Wf : Nat → Int → Prop
  | 0, _ => False
  | f + 1, w => WfH s w ∧ ∀ p ∈ slotsL s w, Wf f (s.logicZ p.2)
def spotsF : Nat → Int → List (Int × Int)
  | 0, _ => []
  | f + 1, w => (slotsL s w).flatMap (fun p => (p.2, s.logicZ p.2) :: spotsF f (s.logicZ p.2))
end
theorem tgt_i64 {s : Mst} (ho : s.ok) {w : Int} (h : I64 w) : I64 (tgt s w) := by
  unfold tgt; split
  · exact ho.look _
  · exact h
theorem tgt_tgt {s : Mst} {w : Int} (h : kd (tgt s w) = 3) : tgt s (tgt s w) = tgt s w := by
  rw [tgt, if_neg (by rw [h]; decide)]
theorem Wf.mono {s : Mst} : ∀ {f g : Nat} {w : Int}, Wf s f w → f ≤ g → Wf s g w
  | 0, _, _, h, _ => h.elim
  | f + 1, 0, _, _, h => absurd h (by omega)
  | f + 1, g + 1, _, h, hg => ⟨h.1, fun p hp => (h.2 p hp).mono (by omega)⟩
theorem Wf.pos {s : Mst} {f : Nat} {w : Int} (h : Wf s f w) : ∃ g, f = g + 1 ∧ WfH s w ∧ ∀ p ∈ slotsL s w, Wf s g (s.logicZ p.2) := by
  cases f with
  | zero => exact h.elim
  | succ f => exact ⟨f, rfl, h.1, h.2⟩
/-- What is said of a Rebuild's Target is said of the Rebuild. -/
theorem Wf.up {s : Mst} {f : Nat} {w : Int} (hi : I64 w) (hk : kd (s.look (ad w)) = 3) (h4 : kd w = 4) (h : Wf s f (s.look (ad w))) : Wf s f w := by
  obtain ⟨g, rfl, h1, h2⟩ := h.pos
  have e1 : tgt s w = s.look (ad w) := by rw [tgt, if_pos h4]
  have e2 : tgt s (s.look (ad w)) = s.look (ad w) := by rw [tgt, if_neg (by rw [hk]; decide)]
  have e3 : slotsL s w = slotsL s (s.look (ad w)) := by unfold slotsL degN atN; rw [e1, e2]
  refine ⟨⟨hi, ?_, ?_⟩, ?_⟩
  · rw [e1, ← e2]; exact h1.deg
  · intro _; rw [e1]; exact hk
  · rw [e3]; exact h2
theorem chain_all {s : Mst} {W : Int → Int → Int → Tk → Option Tk} {a d : Nat} {lo hi : Int} {n : Nat} {t u : Tk} (h : chain (kidG s W a d lo hi) n t = some u) : ∀ i, i < n → ∃ l h t' u', W (s.logicZ (childS a d i)) l h t' = some u' := by
  induction n generalizing u with
  | zero => intro i hi; omega
  | succ n ih =>
    rw [chain, Option.bind_eq_some_iff] at h
    obtain ⟨v, h1, h2⟩ := h
    intro i hi
    by_cases e : i = n
    · subst e
      unfold kidG sndSlot at h2
      split at h2
      · exact ⟨_, _, _, _, h2⟩
      · cases h2
    · exact ih h1 i (by omega)
theorem wf_of_snd {s : Mst} (ho : s.ok) : ∀ (f : Nat) (w lo hi : Int) (t u : Tk), I64 w → sndW s f w lo hi t = some u → Wf s f w
  | 0, _, _, _, _, _, _, h => by cases h
  | f + 1, w, lo, hi, t, u, hw, h => by
    have ih := wf_of_snd ho f
    rw [sndW_succ] at h
    have plain : kd w ≠ 3 → kd w ≠ 4 → Wf s (f + 1) w := fun h3 h4 => by
      have e : tgt s w = w := by rw [tgt, if_neg h4]
      refine ⟨⟨hw, fun h' => absurd (e ▸ h') h3, fun h' => absurd h' h4⟩, ?_⟩
      unfold slotsL
      rw [e, if_neg h3]
      intro p hp; cases hp
    split at h
    · rename_i k; exact plain (by omega) (by omega)
    · split at h
      · rename_i k; exact plain (by omega) (by omega)
      · split at h
        · rename_i k3
          have e : tgt s w = w := by rw [tgt, if_neg (by omega)]
          have ha := ad_range w
          unfold sndInner at h
          have ea : (((ad w).toNat : Nat) : Int) = ad w := by omega
          rw [ea] at h
          split at h
          · cases h
          · rename_i hd
            rw [Option.bind_eq_some_iff] at h
            obtain ⟨t1, h1, h2⟩ := h
            split at h2
            · have hfit : (s.look (ad w)).toNat ≤ 40000 := by
                unfold takeO at h1
                split at h1
                · rename_i c
                  simp only [Bool.and_eq_true, decide_eq_true_eq] at c
                  have := ho.2
                  omega
                · cases h1
              refine ⟨⟨hw, fun _ => by rw [e]; omega, fun h' => by omega⟩, ?_⟩
              unfold slotsL
              rw [e, if_pos k3]
              intro p hp
              rw [List.mem_map] at hp
              obtain ⟨i, hi, rfl⟩ := hp
              simp only [List.mem_range, degN, e] at hi
              obtain ⟨l, h', t', u', h3⟩ := chain_all h2 i hi
              have h4 := ih _ _ _ _ _ (ho.logic _) h3
              simpa [degN, atN, e] using h4
            · cases h2
        · split at h
          · rename_i k4
            split at h
            · rename_i k3
              rw [Option.bind_eq_some_iff] at h
              obtain ⟨t1, h1, h2⟩ := h
              exact ((ih _ _ _ _ _ (ho.look _) h2).up hw k3 k4).mono (by omega)
            · cases h
          · cases h
theorem wf_root {s : Mst} (ho : s.ok) (h : soundB s = true) : Wf s (fuel s) (s.logicZ 6) := by
  unfold soundB at h
  simp only [Bool.and_eq_true] at h
  have h4 := h.2
  cases e : sndSlot s (sndW s (fuel s)) 6 (-9223372036854775808) 9223372036854775807 base0 with
  | none => rw [e] at h4; cases h4
  | some u =>
    unfold sndSlot at e
    split at e
    · exact wf_of_snd ho _ _ _ _ _ _ (ho.logic _) e
    · cases e
end Go.Proofs.Ytgialpjdfeldeaa

/-! Loops over iterators, once more: the frame that a round begins with is found by the walk ('wp_range2'); a function that leaves with marks of such loops ('leave_marks'). Conditions: each theorem's own. -/
namespace Go.Proofs.Ytgialpjdfeldeaa
open Go.RowKit

theorem wp_range2 {P : Program} {α : Type} {g : Operand} {ps : Array Tmp} {assign body : Code} {Q : Exit → Act → World → Prop} {a : Act} {w : World}
    {gf : Nat} {lb : Array Value} (hg : a.eval g = .func (.func gf) #[] lb) (eg : ∀ args w, (callFunc gf args).run P w = .ok (.enter gf args) w)
    {encs : α → Array Value} {xs : List α} {R : Nat → Prop} (hit : ∀ W, Turned (fun _ => False) w W → Iter P gf lb encs xs R W) (hps : ∀ x, (encs x).size = ps.size)
    (O₀ : Nat → Prop) (I : Inv α) (Ix : Code → Inv α) (hR : ∀ k, R k → k < w.heap.size ∧ ¬ O₀ k) (hI : Good I) (hIx : ∀ c, Good (Ix c)) (h0 : I O₀ [] w)
    (hab : ∃ a₁ : α → Act, (∀ (l : Nat) (x : α) (W : World) (K : Act → World → Prop), K (a₁ x) W →
        assign.wpIn (Fence.wide.inRound l) 9 P (Exit.then K (fun _ _ _ => False)) { tmps := (ps.zip (encs x)).foldl (fun t (p, v) => t.setIfInBounds p v) a.tmps, defers := [] } W) ∧
      (∀ (l : Nat) (O : Nat → Prop) (pre : List α) (x : α) (rest : List α) (W : World), xs = pre ++ x :: rest → Turned O₀ w W → Sub O O₀ w.heap.size → I O pre W →
        body.wpIn (Fence.wide.inRound l) 9 P (BodyEnds I Ix O (pre ++ [x]) W) (a₁ x) W))
    (hdone : ∀ (D : Nat) (O : Nat → Prop) (W : World), w.heap.size ≤ D → ¬ O D → Turned O₀ w W → Sub O O₀ w.heap.size → I O xs W → W.heap[D]? = some (.deferred (some [])) →
      Q .normal { a with defers := { target := .collected D, args := #[] } :: a.defers } W)
    (hstop : ∀ (D : Nat) (O : Nat → Prop) (c : Code) (pre rest : List α) (W : World), w.heap.size ≤ D → ¬ O D → Turned O₀ w W → Sub O O₀ w.heap.size → xs = pre ++ rest → Ix c O pre W → W.heap[D]? = some (.deferred (some [])) →
      c.wp P Q { a with defers := { target := .collected D, args := #[] } :: a.defers } W) :
    (Code.rangeFunc g ps assign body).wp P Q a w := by
  obtain ⟨a₁, h1, h2⟩ := hab
  exact wp_range' hg eg hit hps O₀ I Ix hR hI hIx h0 a₁ h1 h2 hdone hstop

/-- A mark of a loop over an iterator. -/
abbrev markOf (D : Nat) : Deferred := { target := .collected D, args := #[] }

theorem leave_marks {F : Fence} {n : Nat} {P : Program} {fn : Func} {tmps : Array Value} {R : Ending → World → Prop} : ∀ (Ds : List Nat) (X : World), (∀ D ∈ Ds, X.heap[D]? = some (.deferred (some []))) → Ds.Nodup →
    (∀ X', Turned (fun k => k ∈ Ds) X X' → ∃ v, (results fn tmps).run P X' = .ok v X' ∧ R (.returned v) X') → LeavesInM F n P fn tmps R (Ds.map markOf) .returning X
  | [], X, _, _, h => h X (Turned.refl _ _)
  | D :: Ds, X, hD, hn, h => by
    have h1 := hD D (List.mem_cons_self ..)
    obtain ⟨hn1, hn2⟩ := List.nodup_cons.1 hn
    refine ⟨by simp, .inl ⟨D, _, rfl, run_takeDeferred h1, leave_marks Ds _ (fun E hE => ?_) hn2 (fun X' hX' => h X' ?_)⟩⟩
    · exact (World.putObj_heap_other (fun e => hn1 (by rw [← e]; exact hE))).trans (hD E (List.mem_cons_of_mem _ hE))
    · exact (Turned.putObj (R := fun k => k = D) X D _ rfl).trans hX' (fun _ e => List.mem_cons.2 (.inl e)) (fun _ _ e => List.mem_cons_of_mem _ e)

end Go.Proofs.Ytgialpjdfeldeaa

/-! The program's target, spotAt and slots; what slots promises of its rounds ('Iter'). -/
namespace Go.Proofs.Ytgialpjdfeldeaa
open Go.RowKit Go.Shelf

attribute [local go_sem] Oper.semAt_some

theorem target_p (w : World) (b : Nat) (s : Mst) (x r : Int) (h : PM w b s) (hx : I64 x) (e1 : tgt s x = r) :
    Calls Try.prog 93 #[.pointer (some ⟨b, 0, none⟩), .int .i64 x] w fun e w' => e = .returned (.int .i64 r) ∧ w = w' := by
  have H := hide h
  have HX := hide hx
  obtain ⟨k, hk⟩ : ∃ k, kd x = k := ⟨_, rfl⟩
  obtain ⟨p, hp⟩ : ∃ p, ad x = p := ⟨_, rfl⟩
  have kr := ad_range x
  rw [hp] at kr
  obtain ⟨p0, p1⟩ := kr
  have HK := hide hk
  have HP := hide hp
  by_cases hk4 : k = 4
  · have e3 : Hid (s.look p = r) := hide (by rw [← e1, tgt, if_pos (by rw [hk]; exact hk4), hp])
    subst hk4
    clear h hx hk hp e1
    go_enter Try.func93, Try.ntmps93
    go_wp2_with (fail)
    refine (kk_p _ x 4 HX.out HK.out).mono ?_
    rintro e w' ⟨rfl, rfl⟩
    go_wp2_with (fail)
    refine (ak_p _ x p HX.out HP.out).mono ?_
    rintro e w' ⟨rfl, rfl⟩
    go_wp2_with (fail)
    refine (lk_p _ b s _ r H.out (by first | exact e3.out | simpa using e3.out)).mono ?_
    rintro e w' ⟨rfl, rfl⟩
    go_wp2
    go_ret
    exact ⟨rfl, rfl⟩
  · have e3 : r = x := by rw [← e1, tgt, if_neg (by rw [hk]; exact hk4)]
    have g1 : (k == 4) = false := by simp [hk4]
    have g2 : (k != 4) = true := by simp [hk4]
    subst e3
    clear h hx hk hp e1 hk4
    go_enter Try.func93, Try.ntmps93
    go_wp2_with (fail)
    refine (kk_p _ r k HX.out HK.out).mono ?_
    rintro e w' ⟨rfl, rfl⟩
    go_wp2
    go_ret
    exact ⟨rfl, rfl⟩

theorem spotAt_p (w : World) (b : Nat) (s : Mst) (a r : Int) (h : PM w b s) (ho : s.ok) (e1 : s.logicZ a = r) :
    Calls Try.prog 89 #[.pointer (some ⟨b, 0, none⟩), .int .i64 a] w fun e w' => e = .returned (.agg #[.int .i64 a, .int .i64 r]) ∧ Kept w w' := by
  have H := hide (h.kept (Kept.alloc (Kept.refl w) (.cells #[.int .i64 0, .int .i64 0] 86)))
  have HO := hide ho
  have HE := hide e1
  clear h ho e1
  go_enter Try.func89, Try.ntmps89
  go_wp2_with (fail)
  refine (logic_p _ b s a r H.out HO.out HE.out).mono ?_
  rintro e w' ⟨rfl, rfl⟩
  go_wp2
  refine bodyPost_ret (v := .agg #[.int .i64 a, .int .i64 r]) (by simp [results, Try.results89, go_sem]) rfl ⟨rfl, ?_⟩
  exact Turned.alloc _ _ _

theorem slots_c (w : World) (b : Nat) (x : Int) :
    Calls Try.prog 97 #[.pointer (some ⟨b, 0, none⟩), .int .i64 x] w fun e w' => e = .returned (.func (.func 107) #[] #[.pointer (some ⟨w.heap.size, 0, none⟩), .pointer (some ⟨w.heap.size + 1, 0, none⟩)]) ∧ w' = (w.alloc (.cells #[.pointer (some ⟨b, 0, none⟩)] 22)).alloc (.cells #[.int .i64 x] 2) := by
  go_enter Try.func97, Try.ntmps97
  go_wp2
  go_ret
  exact ⟨rfl, rfl⟩

/-- What slots answers, by letters. -/
theorem slots_k (w : World) (b : Nat) (x : Int) :
    Calls Try.prog 97 #[.pointer (some ⟨b, 0, none⟩), .int .i64 x] w fun e w' => ∃ B1 B2, e = .returned (.func (.func 107) #[] #[.pointer (some ⟨B1, 0, none⟩), .pointer (some ⟨B2, 0, none⟩)]) ∧ Kept w w' ∧ Boxed w' B1 22 (.pointer (some ⟨b, 0, none⟩)) ∧ Boxed w' B2 2 (.int .i64 x) ∧ w.heap.size ≤ B1 ∧ w.heap.size ≤ B2 := by
  refine (slots_c w b x).mono ?_
  rintro e w' ⟨rfl, rfl⟩
  refine ⟨_, _, rfl, ((Kept.refl w).alloc _).alloc _, (Boxed.new w 22 _).alloc _, ?_, Nat.le_refl _, by omega⟩
  have := Boxed.new (w.alloc (.cells #[.pointer (some ⟨b, 0, none⟩)] 22)) 2 (.int .i64 x)
  rwa [World.size_alloc] at this

/-- A round is one at whatever depth, and within another's round. -/
theorem round_any {P : Program} {m m' l l' : Nat} {f : FuncId} {tmps : Array Value} {assign body : Code} {w : World} {Q : Ending → World → Prop} (h : RoundIn Fence.wide m P l f tmps assign body w Q) : RoundIn (Fence.wide.inRound l') m' P l f tmps assign body w Q :=
  ⟨h.1, fun c cs _ => h.2 c cs (fun d hd => by simp [Fence.wide] at hd)⟩

/-- Two numbers as they are handed to a loop's body. -/
abbrev enc2 (x : Int × Int) : Array Value := #[.int .i64 x.1, .int .i64 x.2]
theorem at_split {α : Type} {L : List α} {k : Nat} {p : α} (h : L[k]? = some p) : L = L.take k ++ p :: L.drop (k + 1) ∧ L.take k ++ [p] = L.take (k + 1) := by
  obtain ⟨hk, rfl⟩ := List.getElem?_eq_some_iff.1 h
  refine ⟨?_, ?_⟩
  · rw [List.getElem_cons_drop, List.take_append_drop]
  · rw [List.take_succ_eq_append_getElem hk]
theorem slotsL_none {s : Mst} {x : Int} (h : kd (tgt s x) ≠ 3) : slotsL s x = [] := by unfold slotsL; rw [if_neg h]
theorem slotsL_len {s : Mst} {x : Int} (h : kd (tgt s x) = 3) : (slotsL s x).length = degN s x := by unfold slotsL; rw [if_pos h]; simp
theorem slotsL_at {s : Mst} {x : Int} (h : kd (tgt s x) = 3) {k : Nat} (hk : k < degN s x) : (slotsL s x)[k]? = some ((k : Int), childS (atN s x) (degN s x) k) := by
  unfold slotsL
  rw [if_pos h, List.getElem?_map, List.getElem?_range hk]
  rfl

/-- What a loop over slots reads: all that lay at w, and the two boxes. -/
def SlotR (w : World) (B1 B2 : Nat) : Nat → Prop := fun k => k < w.heap.size ∨ k = B1 ∨ k = B2

set_option maxHeartbeats 1000000 in
theorem slots_i (w W : World) (hk : Kept w W) (b : Nat) (s : Mst) (hM : PM w b s) (ho : s.ok) (x : Int) (hx : WfH s x) (B1 B2 : Nat) (h1 : Boxed W B1 22 (.pointer (some ⟨b, 0, none⟩))) (h2 : Boxed W B2 2 (.int .i64 x)) :
    Iter Try.prog 107 #[.pointer (some ⟨B1, 0, none⟩), .pointer (some ⟨B2, 0, none⟩)] enc2 (slotsL s x) (SlotR w B1 B2) W := by
  intro l O₀ J Jx hR gJ gJx hY h0
  have hkA : ∀ A, Turned O₀ W A → Kept w A := fun A t => Turned.trans hk t (fun _ e => e) (fun i hi e => hR i (.inl hi) e)
  have hcm : ∀ A, Turned O₀ W A → A.cell? ⟨B1, 0, none⟩ = some (.pointer (some ⟨b, 0, none⟩)) := fun A t => t.cell h1.cell (hR B1 (.inr (.inl rfl)))
  have c1 := h1.cell
  have c2 := h2.cell
  have HM := hide hM
  have HM0 := hide (hM.kept hk)
  have HO := hide ho
  have HX := hide hx
  have HY := hide hY
  have HK := hide hkA
  have HC := hide hcm
  have H0 := hide h0
  obtain ⟨t, ht⟩ : ∃ t, tgt s x = t := ⟨_, rfl⟩
  have HT := hide ht
  have HTI : Hid (I64 t) := hide (by rw [← ht]; exact tgt_i64 ho hx.i64)
  by_cases k3 : kd t = 3
  · obtain ⟨p, hp⟩ : ∃ p, ad t = p := ⟨_, rfl⟩
    have pr := ad_range t
    rw [hp] at pr
    obtain ⟨a, rfl⟩ : ∃ a : Nat, p = (a : Int) := ⟨p.toNat, by omega⟩
    have a2 : (a : Int) ≤ 65536 := pr.2
    have hd := hx.deg (by rw [ht]; exact k3)
    rw [ht, hp] at hd
    obtain ⟨d, hd'⟩ : ∃ d : Nat, s.look (a : Int) = (d : Int) := ⟨(s.look a).toNat, by omega⟩
    rw [hd'] at hd
    obtain ⟨d2, d3⟩ := hd
    have HP := hide hp
    have HD := hide hd'
    have eA : atN s x = a := by unfold atN; rw [ht, hp]; omega
    have eD : degN s x = d := by unfold degN; rw [ht, hp, hd']; omega
    have K3 := hide k3
    have HLA : Hid (∀ k, k < d → (slotsL s x)[k]? = some ((k : Int), childS a d k)) := hide (fun k hk => by
      have := slotsL_at (s := s) (x := x) (by rw [ht]; exact k3) (k := k) (by rw [eD]; exact hk)
      rwa [eA, eD] at this)
    have HLL : Hid ((slotsL s x).length = d) := hide (by rw [slotsL_len (by rw [ht]; exact k3), eD])
    clear hM ho hx hY hkA hcm h0 ht k3 hp pr hd' h1 h2 hk hR eA eD
    refine (callsIn_wide (n := 10)).1 ?_
    refine callsIn_of_wp Try.func107 rfl trivial ?_ rfl
    simp only [Try.ntmps107, List.size_toArray, List.length_cons, List.length_nil, Nat.reduceAdd, Nat.reduceSub, Array.replicate_succ, Array.replicate_zero, List.push_toArray, List.append_toArray, List.nil_append, List.cons_append]
    gi_wp2_with (fail)
    refine ⟨trivial, ?_⟩
    refine (callsIn_wide.2 (target_p _ b s x t HM0.out HX.out.i64 HT.out)).mono ?_
    rintro e w' ⟨rfl, rfl⟩
    gi_wp2_with (fail)
    refine ⟨trivial, ?_⟩
    refine (callsIn_wide.2 (kk_p _ t 3 HTI.out K3.out)).mono ?_
    rintro e w' ⟨rfl, rfl⟩
    gi_wp2_with (fail)
    refine ⟨trivial, ?_⟩
    refine (callsIn_wide.2 (ak_p _ t a HTI.out HP.out)).mono ?_
    rintro e w' ⟨rfl, rfl⟩
    gi_wp2_with (fail)
    refine ⟨trivial, ?_⟩
    refine (callsIn_wide.2 (lk_p _ b s _ d HM0.out (by first | exact HD.out | simpa using HD.out))).mono ?_
    rintro e w' ⟨rfl, rfl⟩
    gi_wp2
    gi_loopw [21] (fun i wr => ∃ (k : Nat) (O : Nat → Prop), k ≤ d ∧ i = .int .i64 (k : Int) ∧ Hid (Sub O O₀ W.heap.size) ∧ Hid (Turned O₀ W wr) ∧ Hid (J O ((slotsL s x).take k) wr)) (fun i _ => d - (intOf i).toNat)
    case atStart => exact ⟨0, O₀, by omega, by simp, hide (Sub.refl _ _), hide (Turned.refl _ _), hide (by simpa using H0.out)⟩
    case round =>
      obtain ⟨k, O, hk, rfl, HS, HTT, HJ⟩ := hrel
      by_cases hkn : k < d
      · have j1 : (k : Int) < (d : Int) := by omega
        have hcz := hide (childZ_in (n := a) (d := (d : Int)) (i := k) (by omega) (by omega) (by omega) (by omega) (by omega) (by omega))
        obtain ⟨q1, q2⟩ := at_split (HLA.out k hkn)
        obtain ⟨fn, tmps, assign, body, hy, hRd⟩ := HY.out O ((slotsL s x).take k) ((k : Int), childS a d k) _ wr q1 HTT.out HS.out HJ.out
        rw [q2] at hRd
        have Q1 := hide q1
        have HRd := hide hRd
        dsimp only [enc2, childS] at hy
        clear q1 q2 hRd
        gi_wp2_with (fail)
        refine ⟨trivial, ?_⟩
        refine (callsIn_wide.2 (child_c _ a d k _ hcz.out)).mono ?_
        rintro e w' ⟨rfl, rfl⟩
        gi_wp2_with (fail)
        refine HRd.out.mono ?_
        rintro e W3 ⟨O', hs3, ht3, ⟨rfl, hj3⟩ | ⟨rfl, hj3⟩⟩
        · have S3 := hide (hs3.trans HS.out HTT.out.size)
          have T3 := hide (HTT.out.sub ht3 HS.out)
          have J3 := hide hj3
          clear hs3 ht3 hj3 hy HRd HY
          gi_wp2
          exact ⟨⟨k + 1, O', by omega, by simp, S3, T3, J3⟩, by simp [intOf]; omega⟩
        · have S3 := hide (hs3.trans HS.out HTT.out.size)
          have T3 := hide (HTT.out.sub ht3 HS.out)
          have J3 := hide hj3
          clear hs3 ht3 hj3 hy HRd HY
          gi_wp2
          refine bodyPost_ret (results_none rfl _ _ _) rfl ?_
          exact ⟨⟨_, rfl⟩, O', S3.out, T3.out, .inr ⟨_, (slotsL s x).drop (k + 1), (List.take_append_drop _ _).symm, J3.out⟩⟩
      · have hkn' : k = d := by omega
        subst hkn'
        have j1 : ¬ ((k : Int) < (k : Int)) := by omega
        gi_wp2
        go_end0
        exact ⟨⟨_, rfl⟩, O, HS.out, HTT.out, .inl (by have := HJ.out; rwa [List.take_of_length_le (by rw [HLL.out]; omega)] at this)⟩
  · obtain ⟨j, hj⟩ : ∃ j, kd t = j := ⟨_, rfl⟩
    have j3 : j ≠ 3 := by rw [← hj]; exact k3
    have HJJ := hide hj
    have g1 : (j == 3) = false := by simp [j3]
    have g2 : (j != 3) = true := by simp [j3]
    have HE := hide (slotsL_none (s := s) (x := x) (by rw [ht]; exact k3))
    clear hM ho hx hY hkA hcm h0 ht k3 h1 h2 hk hR hj j3
    refine (callsIn_wide (n := 10)).1 ?_
    refine callsIn_of_wp Try.func107 rfl trivial ?_ rfl
    simp only [Try.ntmps107, List.size_toArray, List.length_cons, List.length_nil, Nat.reduceAdd, Nat.reduceSub, Array.replicate_succ, Array.replicate_zero, List.push_toArray, List.append_toArray, List.nil_append, List.cons_append]
    gi_wp2_with (fail)
    refine ⟨trivial, ?_⟩
    refine (callsIn_wide.2 (target_p _ b s x t HM0.out HX.out.i64 HT.out)).mono ?_
    rintro e w' ⟨rfl, rfl⟩
    gi_wp2_with (fail)
    refine ⟨trivial, ?_⟩
    refine (callsIn_wide.2 (kk_p _ t j HTI.out HJJ.out)).mono ?_
    rintro e w' ⟨rfl, rfl⟩
    gi_wp2
    refine bodyPost_ret (results_none rfl _ _ _) rfl ?_
    exact ⟨⟨_, rfl⟩, O₀, Sub.refl _ _, Turned.refl _ _, .inl (by rw [HE.out]; exact H0.out)⟩
end Go.Proofs.Ytgialpjdfeldeaa

/-! The program's goBelow, spots and below: what they promise of their rounds. -/
namespace Go.Proofs.Ytgialpjdfeldeaa
open Go.RowKit Go.Shelf

attribute [local go_sem] Oper.semAt_some

/-- A spot as it is handed to a loop's body. -/
abbrev encS (x : Int × Int) : Array Value := #[.agg #[.int .i64 x.1, .int .i64 x.2]]
/-- How a walk over a part of a tree ends. -/
def Rose (J Jx : Inv (Int × Int)) (O : Nat → Prop) (A : World) (xs pre' : List (Int × Int)) (e : Ending) (A' : World) : Prop :=
  ∃ O', Sub O' O A.heap.size ∧ Turned O A A' ∧ ((e = .returned (.bool true) ∧ J O' pre' A') ∨ (e = .returned (.bool false) ∧ ∃ p r, xs = p ++ r ∧ Jx O' p A'))
/-- What a body's rounds promise. -/
def Rounds (l : Nat) (O₀ : Nat → Prop) (J Jx : Inv (Int × Int)) (W : World) (xs : List (Int × Int)) : Prop :=
  ∀ O pre x rest A, xs = pre ++ x :: rest → Turned O₀ W A → Sub O O₀ W.heap.size → J O pre A → YieldAt Fence.wide 9 Try.prog l (encS x) A (RoundEnds J Jx O (pre ++ [x]) A)

/-- What goes through one slot. -/
def oneF (s : Mst) (f : Nat) (p : Int × Int) : List (Int × Int) := (p.2, s.logicZ p.2) :: spotsF s f (s.logicZ p.2)
theorem spotsF_succ (s : Mst) (f : Nat) (x : Int) : spotsF s (f + 1) x = (slotsL s x).flatMap (oneF s f) := rfl

/-- The inner loop's invariant: the outer one's, and the cell of the result. -/
def Mid (J : Inv (Int × Int)) (pre : List (Int × Int)) (F : Int × Int → List (Int × Int)) (n : Nat) : Inv (Int × Int) := fun OO pre' A =>
  ∃ O, (∀ k, OO k ↔ O k ∨ k = n) ∧ ¬ O n ∧ J O (pre ++ pre'.flatMap F) A ∧ Boxed A n 4 (.bool false)
def MidX (Jx : Inv (Int × Int)) (xs : List (Int × Int)) (n : Nat) : Inv (Int × Int) := fun OO _ A =>
  ∃ O p r, (∀ k, OO k ↔ O k ∨ k = n) ∧ ¬ O n ∧ xs = p ++ r ∧ Jx O p A ∧ Boxed A n 4 (.bool false)
theorem Mid.good {J : Inv (Int × Int)} (h : Good J) (pre : List (Int × Int)) (F : Int × Int → List (Int × Int)) (n : Nat) : Good (Mid J pre F n) := by
  constructor
  · rintro OO pre' A B ⟨O, e, h1, hj, hb⟩ ht
    exact ⟨O, e, h1, h.abides _ _ _ _ hj (ht.mono fun k _ hk hn => hk ((e k).2 (.inl hn))), ht.boxed hb (fun hn => hn ((e n).2 (.inr rfl)))⟩
  · rintro OO pre' A ⟨O, e, _, hj, hb⟩ k hk
    rcases (e k).1 hk with hk | rfl
    · exact h.within _ _ _ hj k hk
    · exact hb.lt
theorem MidX.good {Jx : Inv (Int × Int)} (h : Good Jx) (xs : List (Int × Int)) (n : Nat) : Good (MidX Jx xs n) := by
  constructor
  · rintro OO pre' A B ⟨O, p, r, e, h1, hx, hj, hb⟩ ht
    exact ⟨O, p, r, e, h1, hx, h.abides _ _ _ _ hj (ht.mono fun k _ hk hn => hk ((e k).2 (.inl hn))), ht.boxed hb (fun hn => hn ((e n).2 (.inr rfl)))⟩
  · rintro OO pre' A ⟨O, p, r, e, _, _, hj, hb⟩ k hk
    rcases (e k).1 hk with hk | rfl
    · exact h.within _ _ _ hj k hk
    · exact hb.lt
theorem Sub.more {O' O : Nat → Prop} {n m : Nat} (h : Sub O' O m) (k : n ≤ m) : Sub O' O n := fun i hi => (h i hi).imp id (fun e => Nat.le_trans k e)
theorem good_if {J : Inv (Int × Int)} (h : Good J) (c d : Code) : Good (fun O pre A => c = d ∧ J O pre A) :=
  ⟨fun _ _ _ _ hj ht => ⟨hj.1, h.abides _ _ _ _ hj.2 ht⟩, fun _ _ _ hj => h.within _ _ _ hj.2⟩

set_option maxHeartbeats 2000000 in
theorem goBelow_p {w W : World} (hk : Kept w W) {b : Nat} {s : Mst} (hM : PM w b s) (ho : s.ok) {l : Nat} {O₀ : Nat → Prop} {J Jx : Inv (Int × Int)} (gJ : Good J) (gJx : Good Jx) {xs : List (Int × Int)} (hN : ∀ k, k < w.heap.size → ¬ O₀ k) (hY : Rounds l O₀ J Jx W xs) :
    ∀ (f : Nat) (x : Int) (pre rest : List (Int × Int)) (O : Nat → Prop) (A : World), Wf s f x → xs = pre ++ (spotsF s f x ++ rest) → Turned O₀ W A → Sub O O₀ W.heap.size → J O pre A →
    Calls Try.prog 90 #[.pointer (some ⟨b, 0, none⟩), .int .i64 x, .func (.yield l) #[] #[]] A (Rose J Jx O A xs (pre ++ spotsF s f x))
  | 0, _, _, _, _, _, h, _, _, _, _ => h.elim
  | f + 1, x, pre, rest, O, A, hw, hx, hA, hO, hj => by
    have ih := goBelow_p hk hM ho gJ gJx hN hY f
    obtain ⟨hwh, hwk⟩ := hw
    rw [spotsF_succ] at hx ⊢
    have hkA : Kept w A := Turned.trans hk hA (fun _ e => e) (fun i hi e => hN i hi e)
    have hw0 := gJ.within _ _ _ hj
    have hk_size := hk.size
    have HM := hide hM
    have HO := hide ho
    have HY := hide hY
    have IH := hide ih
    have HX := hide hx
    have HWK := hide hwk
    have HWH := hide hwh
    have HA := hide hA
    have HSO := hide hO
    have HKA := hide hkA
    have HJ := hide hj
    have HN := hide hN
    have HW0 := hide hw0
    clear ih hx hwk hwh hA hO hj hkA hw0
    refine calls_marks Try.func90 rfl ?_
    simp only [Try.ntmps90, List.size_toArray, List.length_cons, List.length_nil, Nat.reduceAdd, Nat.reduceSub, Array.replicate_succ, Array.replicate_zero, List.push_toArray, List.append_toArray, List.nil_append, List.cons_append]
    go_wp2_with (fail)
    obtain ⟨n, hn⟩ : ∃ n, A.heap.size = n := ⟨_, rfl⟩
    obtain ⟨W1, hW1⟩ : ∃ W1, ((A.alloc (.cells #[.pointer (some ⟨b, 0, none⟩)] 22)).alloc (.cells #[.func (.yield l) #[] #[]] 99)).alloc (.cells #[.bool false] 4) = W1 := ⟨_, rfl⟩
    have z1 : W1.heap.size = n + 3 := by rw [← hW1]; simp [hn]
    have t1 : Kept A W1 := by
      rw [← hW1]
      exact (((Kept.refl A).alloc _).alloc _).alloc _
    have bx : ∀ (X : World) (T : TypeId) (v : Value) (m : Nat), X.heap.size = m → Boxed (X.alloc (.cells #[v] T)) m T v := fun X T v m e => by rw [← e]; exact Boxed.new X T v
    have bM : Boxed W1 n 22 (.pointer (some ⟨b, 0, none⟩)) := by
      rw [← hW1]; exact ((bx A 22 _ n hn).alloc _).alloc _
    have bY : Boxed W1 (n + 1) 99 (.func (.yield l) #[] #[]) := by
      rw [← hW1]; exact (bx _ 99 _ (n + 1) (by simp [hn])).alloc _
    have bR : Boxed W1 (n + 2) 4 (.bool false) := by
      rw [← hW1]; exact bx _ 4 _ (n + 2) (by simp [hn])
    rw [hW1, hn]
    clear hW1 bx
    refine (slots_k W1 b x).mono ?_
    rintro e W2 ⟨B1, B2, rfl, t2, b3, b4, l3, l4⟩
    have HN0 : Hid (A.heap.size = n) := hide hn
    have KA2 := hide (t1.trans t2)
    have KW2 := hide (HKA.out.trans KA2.out)
    have BM := hide (t2.boxed bM id)
    have BY := hide (t2.boxed bY id)
    have BR := hide (t2.boxed bR id)
    have B3 := hide b3
    have B4 := hide b4
    have Z2 : Hid (n + 3 ≤ W2.heap.size) := hide (by have := t2.size; omega)
    have L3 : Hid (n + 3 ≤ B1 ∧ n + 3 ≤ B2) := hide (by omega)
    have HJ2 : Hid (J O pre W2) := hide (gJ.abides _ _ _ _ HJ.out (KA2.out.mono fun _ _ h => h.elim))
    have hOn : ∀ k, O k → k < n := fun k hk => by have := HW0.out k hk; have := HN0.out; omega
    have HON := hide hOn
    clear hn z1 t1 bM bY bR t2 b3 b4 l3 l4 hOn
    go_wp2_with (fail)
    refine wp_range2 (gf := 107) rfl (enters_of Try.func107 (by kernel_rfl) rfl) (encs := enc2) (xs := slotsL s x) (R := SlotR w B1 B2)
      (fun X hX => slots_i w X (KW2.out.trans hX) b s HM.out HO.out x HWH.out B1 B2 (hX.boxed B3.out id) (hX.boxed B4.out id)) (fun _ => rfl)
      (fun k => O k ∨ k = n + 2) (Mid J pre (oneF s f) (n + 2)) (fun c OO pre' A' => c = .ret ∧ MidX Jx xs (n + 2) OO pre' A') ?hR (Mid.good gJ _ _ _) (fun c => good_if (MidX.good gJx _ _) c .ret)
      ⟨O, fun _ => Iff.rfl, fun h => by have := HON.out _ h; omega, by simpa using HJ2.out, BR.out⟩ ?ab ?done ?stop
    case hR =>
      rintro k (hk | rfl | rfl)
      · have h1 := KW2.out.size
        have h2 := HKA.out.size
        have h3 := HN0.out
        refine ⟨by omega, ?_⟩
        rintro (h | rfl)
        · rcases HSO.out k h with h | h
          · exact HN.out k hk h
          · have := hk_size; omega
        · omega
      · have h1 := B3.out.lt
        have h2 := L3.out
        refine ⟨h1, ?_⟩
        rintro (h | h)
        · have := HON.out _ h; omega
        · omega
      · have h1 := B4.out.lt
        have h2 := L3.out
        refine ⟨h1, ?_⟩
        rintro (h | h)
        · have := HON.out _ h; omega
        · omega
    case ab =>
      apply Exists.intro
      refine ⟨?_, ?_⟩
      · intro l' p X K hK
        gi_wp2
        exact hK
      · rintro l' OO pre' ⟨pi, sl⟩ rest' B hx' tB sB ⟨Oi, eO, nO, jB, rB⟩
        obtain ⟨y, hy⟩ : ∃ y, s.logicZ sl = y := ⟨_, rfl⟩
        have HYY := hide hy
        have hwf : Wf s f y := by
          have := HWK.out (pi, sl) (by rw [hx']; simp)
          rwa [hy] at this
        have HWF := hide hwf
        have hone : oneF s f (pi, sl) = (sl, y) :: spotsF s f y := by rw [oneF, hy]
        have HX1 : Hid (xs = (pre ++ pre'.flatMap (oneF s f)) ++ (sl, y) :: (spotsF s f y ++ (rest'.flatMap (oneF s f) ++ rest))) := hide (by
          rw [HX.out, hx', List.flatMap_append, List.flatMap_cons, hone]; simp)
        have HONE := hide hone
        have zA := HN0.out
        have zW := HA.out.size
        have nOn : ∀ k, n ≤ k → k ≠ n + 2 → ¬ (O k ∨ k = n + 2) := fun k h1 h2 h => by
          rcases h with h | h
          · have := HON.out _ h; omega
          · exact h2 h
        have cM := tB.cell BM.out.cell (nOn n (by omega) (by omega))
        have cY := tB.cell BY.out.cell (nOn (n + 1) (by omega) (by omega))
        have low : ∀ i, i < W.heap.size → (O i ∨ i = n + 2) → O₀ i := fun i hi h => by
          rcases h with h | h
          · rcases HSO.out i h with h | h
            · exact h
            · omega
          · omega
        have TAB : Hid (Turned O₀ W B) := hide (Turned.trans (Kept.behind HA.out KA2.out) tB (fun _ e => e) low)
        have KB : Hid (Kept w B) := hide (Turned.trans KW2.out tB (fun _ e => e) (fun i hi h => HN.out i hi (low i (by omega) h)))
        have SAB : Hid (Sub Oi O₀ W.heap.size) := hide (fun k hk => by
          rcases sB k ((eO k).2 (.inl hk)) with (h | h) | h
          · exact HSO.out k h
          · exact .inr (by omega)
          · exact .inr (by have := KA2.out.size; omega))
        have NOI : Hid (∀ k, n ≤ k → k < n + 2 → ¬ Oi k) := hide (fun k h1 h2 hk => by
          rcases sB k ((eO k).2 (.inl hk)) with (h | h) | h
          · have := HON.out _ h; omega
          · omega
          · have := Z2.out; omega)
        have MB := hide (HM.out.kept KB.out)
        have inB := gJ.within _ _ _ jB
        have INB := hide inB
        have JB := hide jB
        have RB := hide rB
        have EO := hide eO
        have NO := hide nO
        have ltM := BM.out.lt
        have zB := tB.size
        have LTN : Hid (n + 3 ≤ B.heap.size) := hide (by have := Z2.out; omega)
        clear hy hwf hone hx' tB sB jB rB eO nO nOn low inB ltM zB zA zW
        gi_wp2_with (fail)
        refine ⟨trivial, ?_⟩
        refine (CallsIn.inRound l' (callsIn_wide.2 (spotAt_p _ b s sl y MB.out HO.out HYY.out))).mono ?_
        rintro e C ⟨rfl, kC⟩
        have KC := hide (Kept.alloc kC (.cells #[.int .i64 sl, .int .i64 y] 86))
        have cq0 : (C.alloc (.cells #[.int .i64 sl, .int .i64 y] 86)).heap[C.heap.size]? = some (.cells #[.int .i64 sl, .int .i64 y] 86) := heap_new _ _
        have CQ := hide cq0
        have ZC := hide kC.size
        have cM2 := KC.out.cell cM id
        have cY2 := KC.out.cell cY id
        have jC := gJ.abides _ _ _ _ JB.out (KC.out.mono fun _ _ h => h.elim)
        obtain ⟨fn, tmps, assign, body, hyy, hRd⟩ := HY.out Oi (pre ++ pre'.flatMap (oneF s f)) (sl, y) _ _ HX1.out (Kept.behind TAB.out KC.out) SAB.out jC
        have hRd' := fun m => round_any (m' := m) (l' := l') hRd
        dsimp only [encS] at hyy
        clear hRd kC jC cq0
        gi_wp2
        refine (hRd' _).mono ?_
        rintro e E ⟨O3, s3, t3, ⟨rfl, j3⟩ | ⟨rfl, j3⟩⟩
        · have nC : ¬ Oi C.heap.size := fun h => by have := INB.out _ h; have := ZC.out; omega
          have cM3 := t3.cell cM2 (NOI.out n (by omega) (by omega))
          have cY3 := t3.cell cY2 (NOI.out (n + 1) (by omega) (by omega))
          have cq := t3.heap CQ.out nC
          have cq1 : E.cell? ⟨C.heap.size, 1, none⟩ = some (.int .i64 y) := by simp [World.cell?, cq]
          have TAC : Hid (Turned O₀ W (C.alloc (.cells #[.int .i64 sl, .int .i64 y] 86))) := hide (Kept.behind TAB.out KC.out)
          have T3 := hide (TAC.out.sub t3 SAB.out)
          have S3 := hide (s3.trans SAB.out TAC.out.size)
          have TB3 := hide (Kept.then KC.out t3)
          have SB3 := hide (s3.more KC.out.size)
          have N3 : Hid (¬ O3 (n + 2)) := hide (fun h => by
            rcases s3 _ h with h | h
            · exact NO.out h
            · have h1 := LTN.out; have h2 := KC.out.size; omega)
          have R3 : Hid (Boxed E (n + 2) 4 (.bool false)) := hide (t3.boxed (KC.out.boxed RB.out id) NO.out)
          have HX2 : Hid (xs = (pre ++ pre'.flatMap (oneF s f)) ++ [(sl, y)] ++ (spotsF s f y ++ (rest'.flatMap (oneF s f) ++ rest))) := hide (by rw [HX1.out]; simp)
          have J3 := hide j3
          clear s3 t3 j3 cq hyy hRd' cM2 cY2 cM cY nC
          gi_wp2_with (fail)
          refine ⟨trivial, ?_⟩
          refine (CallsIn.inRound l' (callsIn_wide.2 (IH.out y _ _ O3 E HWF.out HX2.out T3.out S3.out J3.out))).mono ?_
          rintro e G ⟨O4, s4, t4, ⟨rfl, j4⟩ | ⟨rfl, p4, r4, hx4, j4⟩⟩
          · have F4 : Hid (∃ O', Sub O' OO B.heap.size ∧ Turned OO B G ∧ Mid J pre (oneF s f) (n + 2) O' (pre' ++ [(pi, sl)]) G) := hide (by
              refine ⟨fun k => O4 k ∨ k = n + 2, ?_, ?_, O4, fun _ => Iff.rfl, ?_, ?_, ?_⟩
              · rintro k (h | rfl)
                · rcases s4 k h with h | h
                  · rcases SB3.out k h with h | h
                    · exact .inl ((EO.out k).2 (.inl h))
                    · exact .inr h
                  · exact .inr (by have := TB3.out.size; omega)
                · exact .inl ((EO.out _).2 (.inr rfl))
              · exact (TB3.out.sub t4 SB3.out).mono (fun k _ h => (EO.out k).2 (.inl h))
              · intro h
                rcases s4 _ h with h | h
                · exact N3.out h
                · have h1 := LTN.out; have h2 := TB3.out.size; omega
              · have : pre ++ List.flatMap (oneF s f) (pre' ++ [(pi, sl)]) = pre ++ pre'.flatMap (oneF s f) ++ [(sl, y)] ++ spotsF s f y := by
                  rw [List.flatMap_append, List.flatMap_cons, HONE.out]; simp
                rw [this]
                exact j4
              · exact t4.boxed R3.out N3.out)
            clear s4 t4 j4
            gi_wp2
            exact F4.out
          · have F4 : Hid (∃ O', Sub O' OO B.heap.size ∧ Turned OO B (G.setCell ⟨n + 2, 0, none⟩ (.bool false)) ∧ MidX Jx xs (n + 2) O' (pre' ++ [(pi, sl)]) (G.setCell ⟨n + 2, 0, none⟩ (.bool false))) := hide (by
              have n4 : ¬ O4 (n + 2) := by
                intro h
                rcases s4 _ h with h | h
                · exact N3.out h
                · have h1 := LTN.out; have h2 := TB3.out.size; omega
              have tS : Turned (fun k => k = n + 2) G (G.setCell ⟨n + 2, 0, none⟩ (.bool false)) := Turned.setCell _ _ _ rfl
              refine ⟨fun k => O4 k ∨ k = n + 2, ?_, ?_, O4, p4, r4, fun _ => Iff.rfl, n4, hx4, ?_, ?_⟩
              · rintro k (h | rfl)
                · rcases s4 k h with h | h
                  · rcases SB3.out k h with h | h
                    · exact .inl ((EO.out k).2 (.inl h))
                    · exact .inr h
                  · exact .inr (by have := TB3.out.size; omega)
                · exact .inl ((EO.out _).2 (.inr rfl))
              · exact ((TB3.out.sub t4 SB3.out).mono (fun k _ h => (EO.out k).2 (.inl h))).trans tS (fun _ h => h) (fun k _ h => (EO.out k).2 (.inr h))
              · exact gJx.abides _ _ _ _ j4 (tS.mono fun k _ h hO => n4 (by rw [← h]; exact hO))
              · exact (t4.boxed R3.out N3.out).set _)
            have c6 := (t4.boxed R3.out N3.out).cell
            have f6 := (t4.boxed R3.out N3.out).frozen
            clear s4 t4 j4 hx4
            gi_wp2
            obtain ⟨O', q1, q2, q3⟩ := F4.out
            exact ⟨O', q1, q2, rfl, q3⟩
        · have N3 : Hid (¬ O3 (n + 2)) := hide (fun h => by
            rcases s3 _ h with h | h
            · exact NO.out h
            · have h1 := LTN.out; have h2 := KC.out.size; omega)
          have R3 : Hid (Boxed E (n + 2) 4 (.bool false)) := hide (t3.boxed (KC.out.boxed RB.out id) NO.out)
          have F4 : Hid (∃ O', Sub O' OO B.heap.size ∧ Turned OO B (E.setCell ⟨n + 2, 0, none⟩ (.bool false)) ∧ MidX Jx xs (n + 2) O' (pre' ++ [(pi, sl)]) (E.setCell ⟨n + 2, 0, none⟩ (.bool false))) := hide (by
            have tS : Turned (fun k => k = n + 2) E (E.setCell ⟨n + 2, 0, none⟩ (.bool false)) := Turned.setCell _ _ _ rfl
            refine ⟨fun k => O3 k ∨ k = n + 2, ?_, ?_, O3, _, _, fun _ => Iff.rfl, N3.out, (show xs = (pre ++ pre'.flatMap (oneF s f) ++ [(sl, y)]) ++ (spotsF s f y ++ (rest'.flatMap (oneF s f) ++ rest)) by rw [HX1.out]; simp), ?_, ?_⟩
            · rintro k (h | rfl)
              · rcases s3 k h with h | h
                · exact .inl ((EO.out k).2 (.inl h))
                · exact .inr (by have := KC.out.size; omega)
              · exact .inl ((EO.out _).2 (.inr rfl))
            · exact ((Kept.then KC.out t3).mono (fun k _ h => (EO.out k).2 (.inl h))).trans tS (fun _ h => h) (fun k _ h => (EO.out k).2 (.inr h))
            · exact gJx.abides _ _ _ _ j3 (tS.mono fun k _ h hO => N3.out (by rw [← h]; exact hO))
            · exact R3.out.set _)
          have c6 := R3.out.cell
          have f6 := R3.out.frozen
          clear s3 t3 j3 hyy hRd' cM2 cY2 cM cY
          gi_wp2
          refine ⟨trivial, ?_⟩
          gi_wp2
          obtain ⟨O', q1, q2, q3⟩ := F4.out
          exact ⟨O', q1, q2, rfl, q3⟩
    case done =>
      rintro D OO X hD nD tX sX ⟨Oi, eO, nO, jX, rX⟩ hK
      have nD2 : ¬ (O D ∨ D = n + 2) := by
        rintro (h | h)
        · have := HON.out _ h; have := Z2.out; omega
        · have := Z2.out; omega
      have zX := tX.size
      have zA := HN0.out
      have RX := hide rX
      have c6 := rX.cell
      have f6 := rX.frozen
      have tS : Turned (fun k => k = n + 2) X (X.setCell ⟨n + 2, 0, none⟩ (.bool true)) := Turned.setCell _ _ _ rfl
      have hK2 : Hid ((X.setCell ⟨n + 2, 0, none⟩ (.bool true)).heap[D]? = some (.deferred (some []))) := hide (tS.heap hK (fun e => nD2 (.inr e)))
      have nOD : ¬ Oi D := fun h => nD ((eO D).2 (.inl h))
      have FIN : Hid (∀ X', Turned (fun k => k ∈ [D]) (X.setCell ⟨n + 2, 0, none⟩ (.bool true)) X' → X'.cell? ⟨n + 2, 0, none⟩ = some (.bool true) ∧ Rose J Jx O A xs (pre ++ List.flatMap (oneF s f) (slotsL s x)) (.returned (.bool true)) X') := hide (fun X' hX' => by
        have hDn : n + 2 ∉ [D] := by simp; intro e; exact nD2 (.inr e.symm)
        refine ⟨hX'.cell (rX.set (.bool true)).cell hDn, Oi, ?_, ?_, ?_⟩
        · intro k hk
          rcases sX k ((eO k).2 (.inl hk)) with (h | rfl) | h
          · exact .inl h
          · exact absurd hk nO
          · exact .inr (by have := KA2.out.size; omega)
        · have t0 : Turned O A X := Turned.trans KA2.out tX (fun _ h => h.elim) (fun k hk h => by
            rcases h with h | h
            · exact h
            · omega)
          exact (t0.trans tS (fun _ h => h) (fun k hk h => by omega)).trans hX' (fun _ h => h) (fun k hk h => by simp at h; have := Z2.out; omega)
        · have tj : Turned (fun k => ¬ Oi k) X X' := (tS.mono (R' := fun k => ¬ Oi k) (fun k _ h hO => nO (by rw [← h]; exact hO))).trans hX' (fun _ h => h) (fun k _ h hO => nOD (by simp at h; rw [← h]; exact hO))
          exact .inl ⟨rfl, gJ.abides _ _ _ _ jX tj⟩)
      clear hK rX tS tX sX jX eO nO nD nOD
      go_wp2
      refine leave_marks [D] _ ?_ ?_ ?_
      · intro k hk
        simp at hk
        rw [hk]
        exact hK2.out
      · simp
      · intro X' hX'
        obtain ⟨q1, q2⟩ := FIN.out X' hX'
        exact ⟨.bool true, by simp [results, Try.results90, go_sem, q1], q2⟩
    case stop =>
      rintro D OO c pre' rest' X hD nD tX sX hx' ⟨rfl, Oi, p, r, eO, nO, hxx, jX, rX⟩ hK
      have nD2 : ¬ (O D ∨ D = n + 2) := by
        rintro (h | h)
        · have := HON.out _ h; have := Z2.out; omega
        · have := Z2.out; omega
      have zX := tX.size
      have zA := HN0.out
      have RX := hide rX
      have c6 := rX.cell
      have f6 := rX.frozen
      have tS : Turned (fun k => k = n + 2) X X := Turned.refl _ _
      have hK2 : Hid ((X).heap[D]? = some (.deferred (some []))) := hide (tS.heap hK (fun e => nD2 (.inr e)))
      have nOD : ¬ Oi D := fun h => nD ((eO D).2 (.inl h))
      have FIN : Hid (∀ X', Turned (fun k => k ∈ [D]) (X) X' → X'.cell? ⟨n + 2, 0, none⟩ = some (.bool false) ∧ Rose J Jx O A xs (pre ++ List.flatMap (oneF s f) (slotsL s x)) (.returned (.bool false)) X') := hide (fun X' hX' => by
        have hDn : n + 2 ∉ [D] := by simp; intro e; exact nD2 (.inr e.symm)
        refine ⟨hX'.cell rX.cell hDn, Oi, ?_, ?_, ?_⟩
        · intro k hk
          rcases sX k ((eO k).2 (.inl hk)) with (h | rfl) | h
          · exact .inl h
          · exact absurd hk nO
          · exact .inr (by have := KA2.out.size; omega)
        · have t0 : Turned O A X := Turned.trans KA2.out tX (fun _ h => h.elim) (fun k hk h => by
            rcases h with h | h
            · exact h
            · omega)
          exact (t0.trans tS (fun _ h => h) (fun k hk h => by omega)).trans hX' (fun _ h => h) (fun k hk h => by simp at h; have := Z2.out; omega)
        · have tj : Turned (fun k => ¬ Oi k) X X' := (tS.mono (R' := fun k => ¬ Oi k) (fun k _ h hO => nO (by rw [← h]; exact hO))).trans hX' (fun _ h => h) (fun k _ h hO => nOD (by simp at h; rw [← h]; exact hO))
          exact .inr ⟨rfl, p, r, hxx, gJx.abides _ _ _ _ jX tj⟩)
      clear hK rX tS tX sX jX eO nO nD nOD hxx hx'
      go_wp2
      refine leave_marks [D] _ ?_ ?_ ?_
      · intro k hk
        simp at hk
        rw [hk]
        exact hK2.out
      · simp
      · intro X' hX'
        obtain ⟨q1, q2⟩ := FIN.out X' hX'
        exact ⟨.bool false, by simp [results, Try.results90, go_sem, q1], q2⟩
end Go.Proofs.Ytgialpjdfeldeaa

/-! The program's iterators spots and below, as 'Iter'; what spots and below answer. -/
namespace Go.Proofs.Ytgialpjdfeldeaa
open Go.RowKit Go.Shelf

attribute [local go_sem] Oper.semAt_some

theorem spots_k (w : World) (b : Nat) :
    Calls Try.prog 59 #[.pointer (some ⟨b, 0, none⟩)] w fun e w' => ∃ B1, e = .returned (.func (.func 88) #[] #[.pointer (some ⟨B1, 0, none⟩)]) ∧ Kept w w' ∧ Boxed w' B1 22 (.pointer (some ⟨b, 0, none⟩)) ∧ w.heap.size ≤ B1 := by
  go_enter Try.func59, Try.ntmps59
  go_wp2
  go_ret
  exact ⟨_, rfl, (Kept.refl w).alloc _, Boxed.new w 22 _, Nat.le_refl _⟩
theorem below_k (w : World) (b : Nat) (x : Int) :
    Calls Try.prog 96 #[.pointer (some ⟨b, 0, none⟩), .int .i64 x] w fun e w' => ∃ B1 B2, e = .returned (.func (.func 106) #[] #[.pointer (some ⟨B1, 0, none⟩), .pointer (some ⟨B2, 0, none⟩)]) ∧ Kept w w' ∧ Boxed w' B1 22 (.pointer (some ⟨b, 0, none⟩)) ∧ Boxed w' B2 2 (.int .i64 x) ∧ w.heap.size ≤ B1 ∧ w.heap.size ≤ B2 := by
  go_enter Try.func96, Try.ntmps96
  go_wp2
  go_ret
  refine ⟨_, _, rfl, ((Kept.refl w).alloc _).alloc _, (Boxed.new w 22 _).alloc _, ?_, Nat.le_refl _, by omega⟩
  have := Boxed.new (w.alloc (.cells #[.pointer (some ⟨b, 0, none⟩)] 22)) 2 (.int .i64 x)
  rwa [World.size_alloc] at this

/-- What a loop over spots reads: all that lay at w, and the box. -/
def SpotR (w : World) (B1 : Nat) : Nat → Prop := fun k => k < w.heap.size ∨ k = B1

/-- Where goBelow has come to its end. -/
theorem Rose.ends {J Jx : Inv (Int × Int)} {O₀ O : Nat → Prop} {W A A' : World} {xs : List (Int × Int)} {e : Ending} (hA : Turned O₀ W A) (hO : Sub O O₀ W.heap.size) (h : Rose J Jx O A xs xs e A') :
    (∃ v, e = .returned (.bool v)) ∧ ∃ O', Sub O' O₀ W.heap.size ∧ Turned O₀ W A' ∧ (J O' xs A' ∨ ∃ pre rest, xs = pre ++ rest ∧ Jx O' pre A') := by
  obtain ⟨O', s', t', ⟨rfl, j⟩ | ⟨rfl, p, r, hx, j⟩⟩ := h
  · exact ⟨⟨_, rfl⟩, O', s'.trans hO hA.size, hA.sub t' hO, .inl j⟩
  · exact ⟨⟨_, rfl⟩, O', s'.trans hO hA.size, hA.sub t' hO, .inr ⟨p, r, hx, j⟩⟩

theorem below_i (w W : World) (hk : Kept w W) (b : Nat) (s : Mst) (hM : PM w b s) (ho : s.ok) (f : Nat) (x : Int) (hw : Wf s f x) (B1 B2 : Nat) (h1 : Boxed W B1 22 (.pointer (some ⟨b, 0, none⟩))) (h2 : Boxed W B2 2 (.int .i64 x)) :
    Iter Try.prog 106 #[.pointer (some ⟨B1, 0, none⟩), .pointer (some ⟨B2, 0, none⟩)] encS (spotsF s f x) (SlotR w B1 B2) W := by
  intro l O₀ J Jx hR gJ gJx hY h0
  have c1 := h1.cell
  have c2 := h2.cell
  have HR := hide (goBelow_p hk hM ho gJ gJx (fun k hk => hR k (.inl hk)) hY f x [] [] O₀ W hw (by simp) (Turned.refl _ _) (Sub.refl _ _) h0)
  clear hk hM ho hw h1 h2 hR hY h0 gJ gJx
  refine (callsIn_wide (n := 10)).1 ?_
  refine callsIn_of_wp Try.func106 rfl trivial ?_ rfl
  simp only [Try.ntmps106, List.size_toArray, List.length_cons, List.length_nil, Nat.reduceAdd, Nat.reduceSub, Array.replicate_succ, Array.replicate_zero, List.push_toArray, List.append_toArray, List.nil_append, List.cons_append]
  gi_wp2_with (fail)
  refine ⟨trivial, ?_⟩
  refine (callsIn_wide.2 HR.out).mono ?_
  intro e A' hr
  obtain ⟨⟨v, rfl⟩, he⟩ := Rose.ends (Turned.refl O₀ W) (Sub.refl _ _) hr
  have HE := hide he
  clear he hr HR
  gi_wp2
  go_end0
  exact ⟨⟨_, rfl⟩, HE.out⟩

/-- All slots of the tree. -/
def spotsL (s : Mst) (f : Nat) : List (Int × Int) := (6, s.logicZ 6) :: spotsF s f (s.logicZ 6)

set_option maxHeartbeats 1000000 in
theorem spots_i (w W : World) (hk : Kept w W) (b : Nat) (s : Mst) (hM : PM w b s) (ho : s.ok) (f : Nat) (hw : Wf s f (s.logicZ 6)) (B1 : Nat) (h1 : Boxed W B1 22 (.pointer (some ⟨b, 0, none⟩))) :
    Iter Try.prog 88 #[.pointer (some ⟨B1, 0, none⟩)] encS (spotsL s f) (SpotR w B1) W := by
  intro l O₀ J Jx hR gJ gJx hY h0
  obtain ⟨y, hy⟩ : ∃ y, s.logicZ 6 = y := ⟨_, rfl⟩
  have hxs : spotsL s f = (6, y) :: spotsF s f y := by unfold spotsL; rw [hy]
  rw [hy] at hw
  have c1 := h1.cell
  have HM := hide (hM.kept hk)
  have HO := hide ho
  have HYY := hide hy
  have HXS := hide hxs
  have HG := hide (goBelow_p hk hM ho gJ gJx (fun k hk => hR k (.inl hk)) hY f y)
  have HW := hide hw
  have HY := hide hY
  have H0 := hide h0
  have NB : Hid (¬ O₀ B1) := hide (hR B1 (.inr rfl))
  have IN0 := hide (gJ.within _ _ _ h0)
  have GJ := hide gJ
  have GJX := hide gJx
  clear hk hM ho hw h1 hR hY h0 hy hxs gJ gJx
  refine (callsIn_wide (n := 10)).1 ?_
  refine callsIn_of_wp Try.func88 rfl trivial ?_ rfl
  simp only [Try.ntmps88, List.size_toArray, List.length_cons, List.length_nil, Nat.reduceAdd, Nat.reduceSub, Array.replicate_succ, Array.replicate_zero, List.push_toArray, List.append_toArray, List.nil_append, List.cons_append]
  gi_wp2_with (fail)
  refine ⟨trivial, ?_⟩
  refine (callsIn_wide.2 (spotAt_p _ b s 6 y HM.out HO.out HYY.out)).mono ?_
  rintro e C ⟨rfl, kC⟩
  have KC := hide (Kept.alloc kC (.cells #[.int .i64 6, .int .i64 y] 86))
  have CQ : Hid ((C.alloc (.cells #[.int .i64 6, .int .i64 y] 86)).heap[C.heap.size]? = some (.cells #[.int .i64 6, .int .i64 y] 86)) := hide (heap_new _ _)
  have ZC := hide kC.size
  have cM2 := KC.out.cell c1 id
  have jC := GJ.out.abides _ _ _ _ H0.out (KC.out.mono fun _ _ h => h.elim)
  have TC : Hid (Turned O₀ W (C.alloc (.cells #[.int .i64 6, .int .i64 y] 86))) := hide (KC.out.mono fun _ _ h => h.elim)
  obtain ⟨fn, tmps, assign, body, hyy, hRd⟩ := HY.out O₀ [] (6, y) (spotsF s f y) _ HXS.out TC.out (Sub.refl _ _) jC
  dsimp only [encS] at hyy
  have HRd := hide hRd
  clear hRd kC jC
  gi_wp2_with (fail)
  refine HRd.out.mono ?_
  rintro e E ⟨O3, s3, t3, ⟨rfl, j3⟩ | ⟨rfl, j3⟩⟩
  · have nC : ¬ O₀ C.heap.size := fun h => by have := IN0.out _ h; have := ZC.out; omega
    have cM3 := t3.cell cM2 NB.out
    have cq := t3.heap CQ.out nC
    have cq1 : E.cell? ⟨C.heap.size, 1, none⟩ = some (.int .i64 y) := by simp [World.cell?, cq]
    have T3 := hide (TC.out.sub t3 (Sub.refl _ _))
    have S3 := hide (s3.more TC.out.size)
    have J3 := hide j3
    clear s3 t3 j3 cq hyy HRd cM2 c1 nC
    gi_wp2_with (fail)
    refine ⟨trivial, ?_⟩
    refine (callsIn_wide.2 (HG.out ([] ++ [(6, y)]) [] O3 E HW.out (by rw [HXS.out]; simp) T3.out S3.out J3.out)).mono ?_
    intro e A' hr
    rw [show [] ++ [((6 : Int), y)] ++ spotsF s f y = spotsL s f by rw [HXS.out]; rfl] at hr
    obtain ⟨⟨v, rfl⟩, he⟩ := Rose.ends T3.out S3.out hr
    have HE := hide he
    clear he hr HG
    gi_wp2
    go_end0
    exact ⟨⟨_, rfl⟩, HE.out⟩
  · have T3 := hide (TC.out.sub t3 (Sub.refl _ _))
    have S3 := hide (s3.more TC.out.size)
    have J3 := hide j3
    clear s3 t3 j3 hyy HRd cM2 c1
    gi_wp2
    go_end0
    exact ⟨⟨_, rfl⟩, O3, S3.out, T3.out, .inr ⟨_, spotsF s f y, by rw [HXS.out]; rfl, J3.out⟩⟩

/-- The invariant of a loop that writes a cell at n alone, once it leaves: v there. -/
def Cell1 (n : Nat) (T : TypeId) (v : Value) : Inv (Int × Int) := fun O _ A => (∀ k, O k ↔ k = n) ∧ Boxed A n T v
theorem Cell1.good (n : Nat) (T : TypeId) (v : Value) : Good (Cell1 n T v) := by
  constructor
  · rintro O pre A B ⟨hO, hb⟩ ht
    exact ⟨hO, ht.boxed hb (fun hn => hn ((hO n).2 rfl))⟩
  · rintro O pre A ⟨hO, hb⟩ k hk
    rw [(hO k).1 hk]
    exact hb.lt
theorem good_and {α : Type} {J : Inv α} (h : Good J) (p : List α → Prop) : Good (fun O pre A => p pre ∧ J O pre A) :=
  ⟨fun _ _ _ _ hj ht => ⟨hj.1, h.abides _ _ _ _ hj.2 ht⟩, fun _ _ _ hj => h.within _ _ _ hj.2⟩
theorem good_only {α : Type} {J : Inv α} (h : Good J) (c d : Code) : Good (fun O pre A => c = d ∧ J O pre A) :=
  ⟨fun _ _ _ _ hj ht => ⟨hj.1, h.abides _ _ _ _ hj.2 ht⟩, fun _ _ _ hj => h.within _ _ _ hj.2⟩
end Go.Proofs.Ytgialpjdfeldeaa

/-! A region that draws its order, within a round of a loop over an iterator: walked as outside of it ('region_round'). Conditions: each theorem's own. -/
namespace Go.Proofs.Ytgialpjdfeldeaa

/-- No operation defers. -/
def noDefer (ops : Array Oper) : Bool := ops.all (fun o => match o.op with | .defer _ => false | _ => true)
theorem noDefer_at {ops : Array Oper} (h : noDefer ops = true) {i : Nat} {o : Oper} (ho : ops[i]? = some o) (c : Call) : o.op ≠ .defer c := by
  intro e
  obtain ⟨hi, e2⟩ := Array.getElem?_eq_some_iff.1 ho
  have := (Array.all_eq_true.1 h) i hi
  rw [e2, e] at this
  cases this
section
variable {P : Program} {ops : Array Oper} {Q : Exit → Act → World → Prop} {md : Region.Mode} {n : Nat}
theorem wpOpIn_inRound {l i : Nat} {K : Act → World → Prop} {a : Act} {w : World} (hd : noDefer ops = true) (h : wpOpIn Fence.wide n P ops Q i K a w) : wpOpIn (Fence.wide.inRound l) n P ops Q i K a w := by
  unfold wpOpIn at *
  cases ho : ops[i]? with
  | none => simpa [ho] using h
  | some o =>
    simp only [ho] at h ⊢
    split
    · rename_i hw
      rw [if_pos hw] at h
      unfold Oper.wpIn at *
      refine ⟨h.1, ?_⟩
      have h2 := h.2
      rw [show Fence.wide.round = none from rfl, Oper.semAt_none] at h2
      rw [Fence.inRound_round, Oper.semAt_some l _ o (noDefer_at hd ho)]
      generalize (execOp a.eval o).run P w = r at *
      cases r with
      | ok x w' => cases x <;> exact h2
      | halt x w' => cases x <;> exact h2
    · rename_i hw
      rw [if_neg hw] at h
      exact h
theorem wpAnyIn_inRound {l : Nat} (hd : noDefer ops = true) : ∀ (fuel : Nat) (listed : Array Bool) (a : Act) (w : World), wpAnyIn Fence.wide n P md ops Q fuel listed a w → wpAnyIn (Fence.wide.inRound l) n P md ops Q fuel listed a w
  | 0, _, _, _, h => h
  | fuel + 1, _, _, _, h => ⟨h.1, fun i hi => wpOpIn_mono (fun a' w' h' => wpAnyIn_inRound hd fuel _ a' w' h') (wpOpIn_inRound hd (h.2 i hi))⟩
theorem region_perm_round {l id : Nat} {a : Act} {w : World} (is : List Nat) (C : World → Prop) (hm : P.follows .mixedOrders = true) (hd : noDefer ops = true)
    (hB : (Region.noSelect ops && is.length == ops.size && permB .any ops is (Array.replicate ops.size false)) = true) (hQ : ∀ c a d v w, Q (.panic c) (Act.put a d v) w → Q (.panic c) a w)
    (hC : C w.drew) (h : wpPerm P ops Q C n is a w.drew) : (Code.region id ops true).wpIn (Fence.wide.inRound l) n P Q a w := by
  simp only [Bool.and_eq_true, beq_iff_eq] at hB
  have := perm_any (md := .any) hB.1.1 hQ is _ a _ hC hB.2 h
  rw [hB.1.2] at this
  exact wpIn_region_any hm (wpAnyIn_inRound hd _ _ _ _ (wpAnyIn_of_anyC _ _ _ _ this))
end
/-- **A REGION THAT DRAWS ITS ORDER**, in a round, walked in the order 'is'. -/
theorem region_round {P : Program} {ops : Array Oper} {Q : Exit → Act → World → Prop} {n l id : Nat} {a : Act} {w : World} (is : List Nat) (S : World → Prop) (hm : P.follows .mixedOrders = true) (hd : noDefer ops = true)
    (hB : (Region.noSelect ops && is.length == ops.size && permB .any ops is (Array.replicate ops.size false)) = true)
    (hS : S w.drew) (h : Nonempty (Wd S) → wpPerm P ops (calm Q) (fun w' => ∃ x : Wd S, w' = x.w) n is a w.drew) : (Code.region id ops true).wpIn (Fence.wide.inRound l) n P Q a w :=
  Go.wpIn_mono (region_perm_round is _ hm hd hB (fun _ _ _ _ _ h => h) (Wd.mem hS) (h ⟨⟨_, hS⟩⟩)) (fun _ _ _ h => calm_imp h)
end Go.Proofs.Ytgialpjdfeldeaa

/-! Loops over iterators whose round first lays what came into a new block ('wp_rangeA', 'wp_range3'). Conditions: each theorem's own. -/
namespace Go.Proofs.Ytgialpjdfeldeaa
open Go.RowKit

theorem wp_rangeA {P : Program} {α : Type} {n : Nat} {g : Operand} {ps : Array Tmp} {assign body : Code} {Q : Exit → Act → World → Prop} {a : Act} {w : World}
    {gf : Nat} {lb : Array Value} (hg : a.eval g = .func (.func gf) #[] lb) (eg : ∀ args w, (callFunc gf args).run P w = .ok (.enter gf args) w)
    {encs : α → Array Value} {xs : List α} {R : Nat → Prop} (hit : ∀ W, Turned (fun _ => False) w W → Iter P gf lb encs xs R W) (hps : ∀ x, (encs x).size = ps.size)
    (O₀ : Nat → Prop) (I : Inv α) (Ix : Code → Inv α) (hR : ∀ k, R k → k < w.heap.size ∧ ¬ O₀ k) (hI : Good I) (hIx : ∀ c, Good (Ix c)) (h0 : I O₀ [] w) (cs : α → Array Value) (T : TypeId) (a₁ : α → Nat → Act)
    (hassign : ∀ (l : Nat) (x : α) (W : World) (m : Nat) (K : Act → World → Prop), W.heap.size = m → K (a₁ x m) (W.alloc (.cells (cs x) T)) →
      assign.wpIn (Fence.wide.inRound l) 9 P (Exit.then K (fun _ _ _ => False)) { tmps := (ps.zip (encs x)).foldl (fun t (p, v) => t.setIfInBounds p v) a.tmps, defers := [] } W)
    (hbody : ∀ (l : Nat) (O : Nat → Prop) (pre : List α) (x : α) (rest : List α) (W : World) (m : Nat), xs = pre ++ x :: rest → Turned O₀ w W → Sub O O₀ w.heap.size → I O pre W → W.heap[m]? = some (.cells (cs x) T) → ¬ O m → w.heap.size ≤ m →
      body.wpIn (Fence.wide.inRound l) 9 P (BodyEnds I Ix O (pre ++ [x]) W) (a₁ x m) W)
    (hdone : ∀ (D : Nat) (O : Nat → Prop) (W : World), w.heap.size ≤ D → ¬ O D → Turned O₀ w W → Sub O O₀ w.heap.size → I O xs W → W.heap[D]? = some (.deferred (some [])) →
      Q .normal { a with defers := { target := .collected D, args := #[] } :: a.defers } W)
    (hstop : ∀ (D : Nat) (O : Nat → Prop) (c : Code) (pre rest : List α) (W : World), w.heap.size ≤ D → ¬ O D → Turned O₀ w W → Sub O O₀ w.heap.size → xs = pre ++ rest → Ix c O pre W → W.heap[D]? = some (.deferred (some [])) →
      c.wpIn Fence.wide n P Q { a with defers := { target := .collected D, args := #[] } :: a.defers } W) :
    (Code.rangeFunc g ps assign body).wpIn Fence.wide n P Q a w := by
  refine wpIn_rangeFunc ?_
  intro fn hfn
  obtain ⟨rec, hrec⟩ : ∃ rec : LoopState → Option Code → Loop, rec = fun st pe => { state := st, pending := pe, fn, tmps := a.tmps, params := ps, assign, body, defers := w.heap.size } := ⟨_, rfl⟩
  obtain ⟨D, hD⟩ : ∃ D, w.heap.size = D := ⟨_, rfl⟩
  obtain ⟨W1, hW1⟩ : ∃ W1, (w.alloc (.deferred (some []))).alloc (.loop (rec .ready none)) = W1 := ⟨_, rfl⟩
  have t1 : Turned (fun _ => False) w W1 := by
    rw [← hW1]
    exact (Turned.alloc _ w _).trans (Turned.alloc _ _ _) (fun _ h => h) (fun _ _ h => h)
  have z1 : W1.heap.size = D + 2 := by rw [← hW1, World.size_alloc, World.size_alloc, hD]
  have hl1 : W1.heap[D + 1]? = some (.loop (rec .ready none)) := by
    rw [← hW1, ← hD]
    have := World.alloc_heap_new (w.alloc (.deferred (some []))) (.loop (rec .ready none))
    rwa [World.size_alloc] at this
  have hd1 : W1.heap[D]? = some (.deferred (some [])) := by
    rw [← hW1, ← hD]
    exact (Below.heap_alloc _ _ _ (by simp)).trans (World.alloc_heap_new w _)
  have w0 : ∀ k, O₀ k → k < D := fun k hk => by rw [← hD]; exact hI.within O₀ [] w h0 k hk
  have hi1 : I O₀ [] W1 := hI.abides O₀ [] w W1 h0 (t1.mono fun _ _ h => h.elim)
  -- what is said of the body's blocks is said from the loop's beginning on
  have back : ∀ {OO : Nat → Prop} {A : World}, Turned OO W1 A → (∀ k, OO k ↔ With O₀ D k) → Turned O₀ w A := fun {OO A} h e =>
    t1.trans h (fun _ h => h.elim) (fun i hi hk => by
      rcases (e i).1 hk with hk | rfl | rfl
      · exact hk
      · omega
      · omega)
  have e0 : ∀ k, With O₀ D k ↔ With O₀ D k := fun _ => Iff.rfl
  refine ⟨D + 1, [{ target := .collected D, args := #[] }], W1, { target := .fn (.func gf) lb, args := #[.func (.yield (D + 1)) #[] #[]] }, W1, gf,
    #[.func (.yield (D + 1)) #[] #[]] ++ lb, W1, ?_, ?_, fun _ _ => trivial, ?_, fun h => by simp [Fence.wide] at h, ?_⟩
  · rw [← hW1, ← hD, hrec]
    exact run_enterLoop_outer _ _ _ _ _
  · simp only [resolve, hg]
    simp [go_sem]
  · simp [invoke, go_sem, eg]
  · have hc := hit W1 t1 (D + 1) (With O₀ D) (Inner I D (.loop (rec .ready none))) (fun OO pre W => ∃ c, Inner (Ix c) D (.loop (rec .done (some c))) OO pre W)
      (fun k hk hO => by
        obtain ⟨hk1, hk2⟩ := hR k hk
        rcases hO with hO | rfl | rfl
        · exact hk2 hO
        · omega
        · omega)
      (Inner.good hI D _) (Good.ex fun c => Inner.good (hIx c) D _) ?_ ⟨O₀, e0, fun h => by have := w0 _ h; omega, fun h => by have := w0 _ h; omega, hi1, hl1, hd1⟩
    · refine callsIn_wide.2 (hc.mono ?_)
      rintro e W2 ⟨⟨v, rfl⟩, OO, hsub, ht, hJ⟩
      have tb := back ht e0
      rcases hJ with ⟨O, e, n1, n2, hi, hl, hd⟩ | ⟨pre, rest, hx, c, O, e, n1, n2, hi, hl, hd⟩
      · obtain ⟨o, hr⟩ : ∃ o, (Instr.endLoop (D + 1)).run P W2 = .ok none (W2.putObj (D + 1) o) := ⟨_, by have := run_endLoop (P := P) hl (by rw [hrec]; simp); rw [hrec] at this; exact this⟩
        have hput : Turned (fun k => k = D + 1) W2 (W2.putObj (D + 1) o) := Turned.putObj _ _ _ rfl
        refine ⟨none, _, hr, ?_⟩
        refine hdone D O _ (by omega) n1 (tb.trans hput (fun _ h => h) (fun i hi h => by omega)) ?_ (hI.abides O xs W2 _ hi (hput.mono fun k _ hk hO => n2 (by rw [← hk]; exact hO))) ((World.putObj_heap_other (by omega)).trans hd)
        intro k hk
        rcases hsub k ((e k).2 (.inl hk)) with (h | rfl | rfl) | h
        · exact .inl h
        · exact (n1 hk).elim
        · exact (n2 hk).elim
        · exact .inr (by omega)
      · obtain ⟨o, hr⟩ : ∃ o, (Instr.endLoop (D + 1)).run P W2 = .ok (some c) (W2.putObj (D + 1) o) := ⟨_, by have := run_endLoop (P := P) hl (by rw [hrec]; simp); rw [hrec] at this; exact this⟩
        have hput : Turned (fun k => k = D + 1) W2 (W2.putObj (D + 1) o) := Turned.putObj _ _ _ rfl
        refine ⟨some c, _, hr, ?_⟩
        refine hstop D O c pre rest _ (by omega) n1 (tb.trans hput (fun _ h => h) (fun i hi h => by omega)) ?_ hx ((hIx c).abides O pre W2 _ hi (hput.mono fun k _ hk hO => n2 (by rw [← hk]; exact hO))) ((World.putObj_heap_other (by omega)).trans hd)
        intro k hk
        rcases hsub k ((e k).2 (.inl hk)) with (h | rfl | rfl) | h
        · exact .inl h
        · exact (n1 hk).elim
        · exact (n2 hk).elim
        · exact .inr (by omega)
    · -- one round
      rintro OO pre x rest A hx tA hsA ⟨O, e, n1, n2, hi, hl, hd⟩
      have hlt : D + 1 < A.heap.size := (Array.getElem?_eq_some_iff.1 hl).1
      have tb := back tA e0
      have sO : Sub O O₀ w.heap.size := fun k hk => by
        rcases hsA k ((e k).2 (.inl hk)) with (h | rfl | rfl) | h
        · exact .inl h
        · exact (n1 hk).elim
        · exact (n2 hk).elim
        · exact .inr (by omega)
      have hy := run_yield (P := P) (args := encs x) hl (by rw [hrec]; exact hps x)
      rw [hrec] at hy
      have hlA : (A.alloc (.cells (cs x) T)).heap[D + 1]? = some (.loop (rec .ready none)) := (Below.heap_alloc A _ _ hlt).trans hl
      refine ⟨fn, _, assign, body, hy, roundIn_of_wpIn hfn (hassign _ x A _ _ rfl ⟨_, run_beginRound hlA (by rw [hrec]), ?_⟩)⟩
      clear hy
      obtain ⟨A1, hA1⟩ : ∃ A1, (A.alloc (.cells (cs x) T)).putObj (D + 1) (.loop { rec .ready none with state := .busy }) = A1 := ⟨_, rfl⟩
      rw [hA1]
      have hput : Turned (fun k => k = D + 1) A A1 := by rw [← hA1]; exact (Turned.alloc (fun _ => False) A _).trans (Turned.putObj (R := fun k => k = D + 1) _ _ _ rfl) (fun _ h => h.elim) (fun _ _ h => h)
      have hl2 : A1.heap[D + 1]? = some (.loop { rec .ready none with state := .busy }) := by rw [← hA1]; exact World.putObj_heap_same (by rw [World.size_alloc]; omega)
      have hd2 : A1.heap[D]? = some (.deferred (some [])) := by rw [← hA1]; exact (World.putObj_heap_other (by omega)).trans ((Below.heap_alloc A _ _ (by omega)).trans hd)
      have zA : A1.heap.size = A.heap.size + 1 := by rw [← hA1]; simp
      have hm1 : A1.heap[A.heap.size]? = some (.cells (cs x) T) := by rw [← hA1]; exact (World.putObj_heap_other (by omega)).trans (World.alloc_heap_new A _)
      have nOA : ¬ O A.heap.size := fun h => by have := hI.within _ _ _ hi _ h; omega
      have zwA := tb.size
      have hi2 : I O pre A1 := hI.abides O pre A A1 hi (hput.mono fun k _ hk hO => n2 (by rw [← hk]; exact hO))
      have fin : ∀ (jump : Option Code) (B : World), Turned O A1 B →
          (Instr.endRound (D + 1) jump).run P B = .ok (.bool jump.isNone) (B.putObj (D + 1) (.loop (rec (if jump.isNone then .ready else .done) jump))) ∧
          (B.putObj (D + 1) (.loop (rec (if jump.isNone then .ready else .done) jump))).heap[D + 1]? = some (.loop (rec (if jump.isNone then .ready else .done) jump)) ∧
          (B.putObj (D + 1) (.loop (rec (if jump.isNone then .ready else .done) jump))).heap[D]? = some (.deferred (some [])) ∧
          Turned OO A (B.putObj (D + 1) (.loop (rec (if jump.isNone then .ready else .done) jump))) := fun jump B tB => by
        have hl3 := tB.heap hl2 n2
        have hd3 := tB.heap hd2 n1
        have hr := run_endRound (P := P) jump hl3
        rw [hrec] at hr ⊢
        refine ⟨hr, World.putObj_heap_same (Array.getElem?_eq_some_iff.1 hl3).1, (World.putObj_heap_other (by omega)).trans hd3, ?_⟩
        refine (hput.trans (tB.trans (Turned.putObj (R := fun k => k = D + 1) B (D + 1) _ rfl) (R'' := OO) (fun k hk => (e k).2 (.inl hk)) (fun k _ hk => (e k).2 (.inr (.inr hk)))) (fun k hk => (e k).2 (.inr (.inr hk))) (fun _ _ h => h))
      have fol : ∀ {O' : Nat → Prop} {J' : Inv α} {o : Obj} {B : World} {ys : List α}, Good J' → Sub O' O A1.heap.size → Turned O A1 B → J' O' ys B → (∀ k, O' k → k < B.heap.size) →
          (B.putObj (D + 1) o).heap[D + 1]? = some o → (B.putObj (D + 1) o).heap[D]? = some (.deferred (some [])) → Sub (With O' D) OO A.heap.size ∧ Inner J' D o (With O' D) ys (B.putObj (D + 1) o) := fun {O' J' o B ys} gJ s' tB hj wi q1 q2 => by
        have m1 : ¬ O' D := fun h => (s' D h).elim n1 (fun h' => by omega)
        have m2 : ¬ O' (D + 1) := fun h => (s' (D + 1) h).elim n2 (fun h' => by omega)
        refine ⟨fun k hk => ?_, O', fun _ => Iff.rfl, m1, m2, gJ.abides O' ys B _ hj ((Turned.putObj (R := fun k => k = D + 1) B (D + 1) o rfl).mono fun k _ hk hO => m2 (by rw [← hk]; exact hO)), q1, q2⟩
        rcases hk with hk | rfl | rfl
        · exact (s' k hk).imp (fun h => (e k).2 (.inl h)) (fun h => by omega)
        · exact .inl ((e _).2 (.inr (.inl rfl)))
        · exact .inl ((e _).2 (.inr (.inr rfl)))
      refine wpIn_mono (hbody _ O pre x rest A1 A.heap.size hx (tb.trans hput (fun _ h => h) (fun i hi h => by omega)) sO hi2 hm1 nOA zwA) ?_
      rintro ex a3 B hp
      cases ex with
      | normal =>
        obtain ⟨O', s', tB, hj⟩ := hp
        obtain ⟨hr, q1, q2, q3⟩ := fin none B tB
        obtain ⟨f1, f2⟩ := fol hI s' tB hj (hI.within _ _ _ hj) q1 q2
        exact ⟨_, _, hr, With O' D, f1, q3, .inl ⟨rfl, f2⟩⟩
      | ret =>
        obtain ⟨O', s', tB, hj⟩ := hp
        obtain ⟨hr, q1, q2, q3⟩ := fin (some .ret) B tB
        obtain ⟨f1, f2⟩ := fol (hIx _) s' tB hj ((hIx _).within _ _ _ hj) q1 q2
        exact ⟨_, _, hr, With O' D, f1, q3, .inr ⟨rfl, _, f2⟩⟩
      | exit id =>
        obtain ⟨O', s', tB, hj⟩ := hp
        obtain ⟨hr, q1, q2, q3⟩ := fin (some (.exit id)) B tB
        obtain ⟨f1, f2⟩ := fol (hIx _) s' tB hj ((hIx _).within _ _ _ hj) q1 q2
        exact ⟨_, _, hr, With O' D, f1, q3, .inr ⟨rfl, _, f2⟩⟩
      | goto t =>
        obtain ⟨O', s', tB, hj⟩ := hp
        obtain ⟨hr, q1, q2, q3⟩ := fin (some (.goto t)) B tB
        obtain ⟨f1, f2⟩ := fol (hIx _) s' tB hj ((hIx _).within _ _ _ hj) q1 q2
        exact ⟨_, _, hr, With O' D, f1, q3, .inr ⟨rfl, _, f2⟩⟩
      | panic ch => exact hp.elim
      | outgrown => exact hp.elim

theorem wp_range3 {P : Program} {α : Type} {g : Operand} {ps : Array Tmp} {assign body : Code} {Q : Exit → Act → World → Prop} {a : Act} {w : World}
    {gf : Nat} {lb : Array Value} (hg : a.eval g = .func (.func gf) #[] lb) (eg : ∀ args w, (callFunc gf args).run P w = .ok (.enter gf args) w)
    {encs : α → Array Value} {xs : List α} {R : Nat → Prop} (hit : ∀ W, Turned (fun _ => False) w W → Iter P gf lb encs xs R W) (hps : ∀ x, (encs x).size = ps.size)
    (O₀ : Nat → Prop) (I : Inv α) (Ix : Code → Inv α) (hR : ∀ k, R k → k < w.heap.size ∧ ¬ O₀ k) (hI : Good I) (hIx : ∀ c, Good (Ix c)) (h0 : I O₀ [] w) (cs : α → Array Value) (T : TypeId)
    (hab : ∃ a₁ : α → Nat → Act, (∀ (l : Nat) (x : α) (W : World) (m : Nat) (K : Act → World → Prop), W.heap.size = m → K (a₁ x m) (W.alloc (.cells (cs x) T)) →
        assign.wpIn (Fence.wide.inRound l) 9 P (Exit.then K (fun _ _ _ => False)) { tmps := (ps.zip (encs x)).foldl (fun t (p, v) => t.setIfInBounds p v) a.tmps, defers := [] } W) ∧
      (∀ (l : Nat) (O : Nat → Prop) (pre : List α) (x : α) (rest : List α) (W : World) (m : Nat), xs = pre ++ x :: rest → Turned O₀ w W → Sub O O₀ w.heap.size → I O pre W → W.heap[m]? = some (.cells (cs x) T) → ¬ O m → w.heap.size ≤ m →
        body.wpIn (Fence.wide.inRound l) 9 P (BodyEnds I Ix O (pre ++ [x]) W) (a₁ x m) W))
    (hdone : ∀ (D : Nat) (O : Nat → Prop) (W : World), w.heap.size ≤ D → ¬ O D → Turned O₀ w W → Sub O O₀ w.heap.size → I O xs W → W.heap[D]? = some (.deferred (some [])) →
      Q .normal { a with defers := { target := .collected D, args := #[] } :: a.defers } W)
    (hstop : ∀ (D : Nat) (O : Nat → Prop) (c : Code) (pre rest : List α) (W : World), w.heap.size ≤ D → ¬ O D → Turned O₀ w W → Sub O O₀ w.heap.size → xs = pre ++ rest → Ix c O pre W → W.heap[D]? = some (.deferred (some [])) →
      c.wp P Q { a with defers := { target := .collected D, args := #[] } :: a.defers } W) :
    (Code.rangeFunc g ps assign body).wp P Q a w := by
  obtain ⟨a₁, h1, h2⟩ := hab
  exact (wpIn_wide (n := 9)).1 (wp_rangeA hg eg hit hps O₀ I Ix hR hI hIx h0 cs T a₁ h1 h2 hdone (fun D O c pre rest W q1 q2 q3 q4 q5 q6 q7 => wpIn_wide.2 (hstop D O c pre rest W q1 q2 q3 q4 q5 q6 q7)))
end Go.Proofs.Ytgialpjdfeldeaa
