/-
  What the proof of YtbojjpmcopnjpaaViewKnownProof goes by, part 3 of 5: contracts and plain facts; each part begins with its own sentence. No conditions beyond each theorem's own.
-/
import Derived.Test.YtbojjpmcopnjpaaKno2
import Derived.RangeFuncNested
import Derived.RangeFuncBound
import Derived.RangeFuncLeaves
import Derived.Shelf.Abstract
import Derived.Shelf.RegionOpen
import Derived.OwnWalkIn
import Derived.TacticsInMore
import Derived.LoopNIn
import Derived.LoopIn
import Derived.Shelf.Strconv.Itoa0
import Derived.Test.YtbojjpmcopnjpaaProg
import Derived.Lib.BitFns
import Derived.Lib.ItoaNum
import Derived.Test.YtbojjpmcopnjpaaRows
import Derived.WalkKit
import Derived.WalkLawsBesides
import Derived.ProofKit
import Derived.OpenShut
import Derived.LoopTactic
/-! The document's check of soundness: words (by fuel), Sound. -/
namespace Go.Proofs.Ytbojjpmcopnjpaa
open Go.RowKit

set_option maxHeartbeats 4000000 in
set_option maxRecDepth 20000 in
theorem word_d : ∀ f, WordD f
  | 0 => fun w0 W b s g t C x lo hi hx hlo hhi hf r e1 => absurd hf (by omega)
  | f + 1 => by
    have ih := word_d f
    have hS := slot_of_word_d f ih
    intro w0 W b s g t C x lo hi hx hlo hhi hf r e1
    have H := hide C
    have HX := hide hx
    have HLO := hide hlo
    have HHI := hide hhi
    have HF := hide hf
    have IH := hide ih
    have HS := hide hS
    obtain ⟨k, hk⟩ : ∃ k, kd x = k := ⟨_, rfl⟩
    obtain ⟨p, hp⟩ : ∃ p, ad x = p := ⟨_, rfl⟩
    have kr := ad_range x
    rw [hp] at kr
    have HK := hide hk
    obtain ⟨a, rfl⟩ : ∃ a : Nat, p = (a : Int) := ⟨p.toNat, by omega⟩
    have HP := hide hp
    have hap : k ≠ 0 → 1 ≤ a := fun h => by
      have := ad_pos (w := x) (by rw [hk]; exact h)
      rw [hp] at this; omega
    have HA := hide hap
    have a1 : (a : Int) ≤ 65536 := kr.2
    have haN : (ad x).toNat = a := by rw [hp]; omega
    obtain ⟨z, hz⟩ : ∃ z, s.look (a : Int) = z := ⟨_, rfl⟩
    have HZ := hide hz
    have HZB : Hid (I64 z) := hide (by rw [← hz]; exact C.ok.look _)
    have e2 : r = if k = 1 then takeO (s.xs.length + 1) t a 1
      else if k = 2 then (if lo ≤ z ∧ z ≤ hi then takeO (s.xs.length + 1) t a 2 else none)
      else if k = 3 then sndInner s (sndW s f) a lo hi t
      else if k = 4 then (if kd z = 3 then (takeO (s.xs.length + 1) t a 5).bind fun t1 => sndW s f z lo hi t1 else none)
      else none := by
      rw [← e1, sndW_succ, hk, hp, hz, Int.toNat_natCast]
    have hkr := kd_range x
    rw [hk] at hkr
    have E2 := hide e2
    obtain ⟨N, hN⟩ : ∃ N, s.xs.length = N := ⟨_, rfl⟩
    have ew : metS s g = .slice (some ⟨g, 0, none⟩) (N + 1) (N + 1) := by unfold metS; rw [hN]
    have EW := hide ew
    rw [ew]
    clear hN
    by_cases k1 : k = 1
    · have HR : Hid (takeO (s.xs.length + 1) t a 1 = r) := hide (by rw [E2.out, if_pos k1])
      have ha := hap (by omega)
      subst k1
      clear C hx hlo hhi hf ih hS hk hp kr hap haN hz e1 e2 E2 hkr ew
      go_enter Try.func70, Try.ntmps70
      go_wp2_with (fail)
      refine (ak_d _ x a HX.out HP.out).mono ?_
      rintro e w' ⟨rfl, rfl⟩
      go_wp2_with (fail)
      refine (kk_d _ x 1 HX.out HK.out).mono ?_
      rintro e w' ⟨rfl, rfl⟩
      go_wp2_with (fail)
      rw [← EW.out]
      refine (take_d w0 _ b s g t H.out a 1 ha (by omega) (by omega) (by omega) r HR.out).mono ?_
      rintro e w' ⟨rfl, hT, hC⟩
      have HC := hide hC
      have HT := hide hT
      clear hC hT H
      go_wp2
      go_ret
      exact ⟨rfl, HT.out, HC.out⟩
    by_cases k2 : k = 2
    · have ha := hap (by omega)
      have e3 : r = if lo ≤ z ∧ z ≤ hi then takeO (s.xs.length + 1) t a 2 else none := by rw [E2.out, if_neg k1, if_pos k2]
      obtain ⟨u, hu⟩ : ∃ u, takeO (s.xs.length + 1) t a 2 = u := ⟨_, rfl⟩
      have HU := hide hu
      rw [hu] at e3
      have E3 := hide e3
      subst k2
      clear C hx hlo hhi hf ih hS hk hp kr hap haN hz e1 e2 E2 hkr ew k1 hu e3
      cases u with
      | none =>
        have HR : Hid (r = none) := hide (by rw [E3.out]; split <;> rfl)
        go_enter Try.func70, Try.ntmps70
        go_wp2_with (fail)
        refine (ak_d _ x a HX.out HP.out).mono ?_
        rintro e w' ⟨rfl, rfl⟩
        go_wp2_with (fail)
        refine (kk_d _ x 2 HX.out HK.out).mono ?_
        rintro e w' ⟨rfl, rfl⟩
        go_wp2_with (fail)
        rw [← EW.out]
        refine (take_d w0 _ b s g t H.out a 2 ha (by omega) (by omega) (by omega) none HU.out).mono ?_
        rintro e w' ⟨rfl, hT, t', hC, _⟩
        have HC := hide hC
        have HT := hide hT
        clear hC hT H
        go_wp2
        go_ret
        exact ⟨by rw [HR.out]; rfl, HT.out, t', HC.out, fun u h => by rw [HR.out] at h; cases h⟩
      | some u =>
        by_cases hl1 : lo ≤ z
        · by_cases hl2 : z ≤ hi
          · have HR : Hid (r = some u) := hide (by rw [E3.out, if_pos ⟨hl1, hl2⟩])
            go_enter Try.func70, Try.ntmps70
            go_wp2_with (fail)
            refine (ak_d _ x a HX.out HP.out).mono ?_
            rintro e w' ⟨rfl, rfl⟩
            go_wp2_with (fail)
            refine (kk_d _ x 2 HX.out HK.out).mono ?_
            rintro e w' ⟨rfl, rfl⟩
            go_wp2_with (fail)
            rw [← EW.out]
            refine (take_d w0 _ b s g t H.out a 2 ha (by omega) (by omega) (by omega) (some u) HU.out).mono ?_
            rintro e w' ⟨rfl, hT, t', hC, ht'⟩
            have := ht' u rfl
            subst this
            have HC := hide hC
            have HT := hide hT
            clear hC hT H ht'
            rw [EW.out]
            go_wp2_with (fail)
            refine (lk_d _ b s a z HC.out.mem HZ.out).mono ?_
            rintro e w' ⟨rfl, rfl⟩
            go_wp2_with (fail)
            refine (lk_d _ b s a z HC.out.mem HZ.out).mono ?_
            rintro e w' ⟨rfl, rfl⟩
            go_wp2
            go_ret
            exact ⟨by rw [HR.out]; rfl, HT.out, t', HC.out, fun u h => by rw [HR.out] at h; cases h; rfl⟩
          · have HR : Hid (r = none) := hide (by rw [E3.out, if_neg (fun h => hl2 h.2)])
            have g1 : decide (z ≤ hi) = false := by simp; omega
            have hl2' : hi < z := by omega
            clear hl2
            go_enter Try.func70, Try.ntmps70
            go_wp2_with (fail)
            refine (ak_d _ x a HX.out HP.out).mono ?_
            rintro e w' ⟨rfl, rfl⟩
            go_wp2_with (fail)
            refine (kk_d _ x 2 HX.out HK.out).mono ?_
            rintro e w' ⟨rfl, rfl⟩
            go_wp2_with (fail)
            rw [← EW.out]
            refine (take_d w0 _ b s g t H.out a 2 ha (by omega) (by omega) (by omega) (some u) HU.out).mono ?_
            rintro e w' ⟨rfl, hT, t', hC, ht'⟩
            have := ht' u rfl
            subst this
            have HC := hide hC
            have HT := hide hT
            clear hC hT H ht'
            rw [EW.out]
            go_wp2_with (fail)
            refine (lk_d _ b s a z HC.out.mem HZ.out).mono ?_
            rintro e w' ⟨rfl, rfl⟩
            go_wp2_with (fail)
            refine (lk_d _ b s a z HC.out.mem HZ.out).mono ?_
            rintro e w' ⟨rfl, rfl⟩
            go_wp2
            go_ret
            exact ⟨by rw [HR.out]; rfl, HT.out, t', HC.out, fun u h => by rw [HR.out] at h; cases h⟩
        · have HR : Hid (r = none) := hide (by rw [E3.out, if_neg (fun h => hl1 h.1)])
          have g1 : decide (lo ≤ z) = false := by simp; omega
          have hl1' : z < lo := by omega
          clear hl1
          go_enter Try.func70, Try.ntmps70
          go_wp2_with (fail)
          refine (ak_d _ x a HX.out HP.out).mono ?_
          rintro e w' ⟨rfl, rfl⟩
          go_wp2_with (fail)
          refine (kk_d _ x 2 HX.out HK.out).mono ?_
          rintro e w' ⟨rfl, rfl⟩
          go_wp2_with (fail)
          rw [← EW.out]
          refine (take_d w0 _ b s g t H.out a 2 ha (by omega) (by omega) (by omega) (some u) HU.out).mono ?_
          rintro e w' ⟨rfl, hT, t', hC, ht'⟩
          have := ht' u rfl
          subst this
          have HC := hide hC
          have HT := hide hT
          clear hC hT H ht'
          rw [EW.out]
          go_wp2_with (fail)
          refine (lk_d _ b s a z HC.out.mem HZ.out).mono ?_
          rintro e w' ⟨rfl, rfl⟩
          go_wp2
          go_ret
          exact ⟨by rw [HR.out]; rfl, HT.out, t', HC.out, fun u h => by rw [HR.out] at h; cases h⟩
    by_cases k3 : k = 3
    · have HR : Hid (sndInner s (sndW s f) a lo hi t = r) := hide (by rw [E2.out, if_neg k1, if_neg k2, if_pos k3])
      have ha := hap (by omega)
      subst k3
      clear C hx hlo hhi hf ih hS hk hp kr hap haN hz e1 e2 E2 hkr ew k1 k2
      go_enter Try.func70, Try.ntmps70
      go_wp2_with (fail)
      refine (ak_d _ x a HX.out HP.out).mono ?_
      rintro e w' ⟨rfl, rfl⟩
      go_wp2_with (fail)
      refine (kk_d _ x 3 HX.out HK.out).mono ?_
      rintro e w' ⟨rfl, rfl⟩
      go_wp2_with (fail)
      rw [← EW.out]
      refine (inner_of_slot_d f HS.out w0 _ b s g t H.out a lo hi ha (by omega) HLO.out HHI.out HF.out r HR.out).mono ?_
      rintro e w' ⟨rfl, hT, hC⟩
      have HC := hide hC
      have HT := hide hT
      clear hC hT H
      go_wp2
      go_ret
      exact ⟨rfl, HT.out, HC.out⟩
    by_cases k4 : k = 4
    · have ha := hap (by omega)
      have e3 : r = if kd z = 3 then (takeO (s.xs.length + 1) t a 5).bind (fun t1 => sndW s f z lo hi t1) else none := by rw [E2.out, if_neg k1, if_neg k2, if_neg k3, if_pos k4]
      obtain ⟨u, hu⟩ : ∃ u, takeO (s.xs.length + 1) t a 5 = u := ⟨_, rfl⟩
      have HU := hide hu
      obtain ⟨j, hj⟩ : ∃ j, kd z = j := ⟨_, rfl⟩
      have HJ := hide hj
      rw [hu, hj] at e3
      have E3 := hide e3
      subst k4
      clear C hx hlo hhi hf ih hS hk hp kr hap haN hz e1 e2 E2 hkr ew k1 k2 k3 e3 hj
      cases u with
      | none =>
        have HR : Hid (r = none) := hide (by rw [E3.out]; split <;> rfl)
        clear hu
        go_enter Try.func70, Try.ntmps70
        go_wp2_with (fail)
        refine (ak_d _ x a HX.out HP.out).mono ?_
        rintro e w' ⟨rfl, rfl⟩
        go_wp2_with (fail)
        refine (kk_d _ x 4 HX.out HK.out).mono ?_
        rintro e w' ⟨rfl, rfl⟩
        go_wp2_with (fail)
        refine (lk_d _ b s a z H.out.mem HZ.out).mono ?_
        rintro e w' ⟨rfl, rfl⟩
        go_wp2_with (fail)
        rw [← EW.out]
        refine (take_d w0 _ b s g t H.out a 5 ha (by omega) (by omega) (by omega) none HU.out).mono ?_
        rintro e w' ⟨rfl, hT, t', hC, _⟩
        have HC := hide hC
        have HT := hide hT
        clear hC hT H
        go_wp2
        go_ret
        exact ⟨by rw [HR.out]; rfl, HT.out, t', HC.out, fun u h => by rw [HR.out] at h; cases h⟩
      | some u =>
        have HFU : Hid (freeN (s.xs.length + 1) u < f) := hide (by have := takeO_free hu; have := HF.out; omega)
        clear hu
        by_cases j3 : j = 3
        · have HR : Hid (sndW s f z lo hi u = r) := hide (by rw [E3.out, if_pos j3]; rfl)
          subst j3
          go_enter Try.func70, Try.ntmps70
          go_wp2_with (fail)
          refine (ak_d _ x a HX.out HP.out).mono ?_
          rintro e w' ⟨rfl, rfl⟩
          go_wp2_with (fail)
          refine (kk_d _ x 4 HX.out HK.out).mono ?_
          rintro e w' ⟨rfl, rfl⟩
          go_wp2_with (fail)
          refine (lk_d _ b s a z H.out.mem HZ.out).mono ?_
          rintro e w' ⟨rfl, rfl⟩
          go_wp2_with (fail)
          rw [← EW.out]
          refine (take_d w0 _ b s g t H.out a 5 ha (by omega) (by omega) (by omega) (some u) HU.out).mono ?_
          rintro e w' ⟨rfl, hT, t', hC, ht'⟩
          have := ht' u rfl
          subst this
          have HC := hide hC
          have HT := hide hT
          clear hC hT H ht'
          rw [EW.out]
          go_wp2_with (fail)
          refine (kk_d _ z 3 HZB.out HJ.out).mono ?_
          rintro e w'' ⟨rfl, rfl⟩
          go_wp2_with (fail)
          rw [← EW.out]
          refine (IH.out w0 _ b s g _ HC.out z lo hi HZB.out HLO.out HHI.out HFU.out r HR.out).mono ?_
          rintro e w'' ⟨rfl, hT, hC⟩
          have HC2 := hide hC
          have HT2 := hide (HT.out.trans hT (fun _ e => e) (fun _ _ e => e))
          clear hC hT HC HT
          go_wp2
          go_ret
          exact ⟨rfl, HT2.out, HC2.out⟩
        · have HR : Hid (r = none) := hide (by rw [E3.out, if_neg j3])
          have g1 : (j == 3) = false := by simp [j3]
          have g2 : (j != 3) = true := by simp [j3]
          clear j3
          go_enter Try.func70, Try.ntmps70
          go_wp2_with (fail)
          refine (ak_d _ x a HX.out HP.out).mono ?_
          rintro e w' ⟨rfl, rfl⟩
          go_wp2_with (fail)
          refine (kk_d _ x 4 HX.out HK.out).mono ?_
          rintro e w' ⟨rfl, rfl⟩
          go_wp2_with (fail)
          refine (lk_d _ b s a z H.out.mem HZ.out).mono ?_
          rintro e w' ⟨rfl, rfl⟩
          go_wp2_with (fail)
          rw [← EW.out]
          refine (take_d w0 _ b s g t H.out a 5 ha (by omega) (by omega) (by omega) (some u) HU.out).mono ?_
          rintro e w' ⟨rfl, hT, t', hC, ht'⟩
          have := ht' u rfl
          subst this
          have HC := hide hC
          have HT := hide hT
          clear hC hT H ht'
          rw [EW.out]
          go_wp2_with (fail)
          refine (kk_d _ z j HZB.out HJ.out).mono ?_
          rintro e w'' ⟨rfl, rfl⟩
          go_wp2
          go_ret
          exact ⟨by rw [HR.out]; rfl, HT.out, t', HC.out, fun u h => by rw [HR.out] at h; cases h⟩
    · have HR : Hid (r = none) := hide (by rw [E2.out, if_neg k1, if_neg k2, if_neg k3, if_neg k4])
      have g1 : (k == 1) = false := by simp [k1]
      have g2 : (k == 2) = false := by simp [k2]
      have g3 : (k == 3) = false := by simp [k3]
      have g4 : (k == 4) = false := by simp [k4]
      clear C hx hlo hhi hf ih hS hk hp kr hap haN hz e1 e2 E2 hkr ew k1 k2 k3 k4
      go_enter Try.func70, Try.ntmps70
      go_wp2_with (fail)
      refine (ak_d _ x a HX.out HP.out).mono ?_
      rintro e w' ⟨rfl, rfl⟩
      go_wp2_with (fail)
      refine (kk_d _ x k HX.out HK.out).mono ?_
      rintro e w' ⟨rfl, rfl⟩
      go_wp2
      go_ret
      exact ⟨by rw [HR.out]; rfl, Turned.refl _ _, t, H.out, fun u h => by rw [HR.out] at h; cases h⟩

theorem base0_put : ∀ k, k ≤ 6 → takeT (fun _ => false) 1 k = fun j => decide (1 ≤ j ∧ j < 1 + k) := by
  intro k _; funext j; simp [takeT]

set_option maxRecDepth 20000 in
theorem sound_d (w : World) (b : Nat) (s : Mst) (h : DM w b s) (ho : s.ok) (r : Bool) (e1 : soundB s = r) :
    Calls Try.prog 21 #[.pointer (some ⟨b, 0, none⟩)] w fun e w' => e = .returned (.bool r) ∧ Kept w w' := by
  have H := hide h
  have HO := hide ho
  obtain ⟨la, lc, c1, hrd⟩ := DCk.cells h
  obtain ⟨z1, hz1⟩ : ∃ z, s.look 1 = z := ⟨_, rfl⟩
  obtain ⟨z3, hz3⟩ : ∃ z, s.look 3 = z := ⟨_, rfl⟩
  obtain ⟨N, hN⟩ : ∃ N, s.xs.length = N := ⟨_, rfl⟩
  have e2 : r = (decide (6 ≤ N) && (z1 == 1) && (z3 == 0) && (sndSlot s (sndW s (fuel s)) 6 (-9223372036854775808) 9223372036854775807 base0).isSome) := by
    rw [← e1, soundB, hz1, hz3, hN]
  have E2 := hide e2
  have HN := hide hN
  have n1 : N ≤ 65536 := by rw [← hN]; exact HO.out.2
  rw [hN] at c1
  by_cases h6 : 6 ≤ N
  · have x1 : s.xs[0]? = some z1 := by
      have h0 : 0 < s.xs.length := by omega
      rw [List.getElem?_eq_getElem h0, ← hz1, ← Mst.look_succ (s := s) (j := 0) (List.getElem?_eq_getElem h0)]; rfl
    have x3 : s.xs[2]? = some z3 := by
      have h0 : 2 < s.xs.length := by omega
      rw [List.getElem?_eq_getElem h0, ← hz3, ← Mst.look_succ (s := s) (j := 2) (List.getElem?_eq_getElem h0)]; rfl
    obtain ⟨bl, off, rfl, _, q1⟩ := hrd.at x1
    obtain ⟨bl', off', he, _, q3⟩ := hrd.at x3
    cases he
    rw [Nat.add_zero] at q1
    have n6 : ¬ ((N : Int) < 6) := by omega
    have n7 : (0 : Int) < (N : Int) := by omega
    have n8 : (2 : Int) < (N : Int) := by omega
    clear h ho hrd hz1 hz3 e1 e2 hN x1 x3
    by_cases y1 : z1 = 1
    · by_cases y3 : z3 = 0
      · subst y1 y3
        have hmk := run_make58 (N + 1) (by omega)
        rw [show ((N + 1 : Nat) : Int) = (N : Int) + 1 from rfl] at hmk
        have C0 : Hid (DCk w (w.alloc (.cells (madeCells #[.bool false] (N + 1)) 4)) b s w.heap.size (takeT (fun _ => false) 1 0)) := hide (by
          refine ⟨H.out, HO.out, (Kept.refl w).alloc _, Nat.le_refl _, ?_⟩
          rw [HN.out, takeT_zero]
          exact World.rowIs_made w (.bool false) (N + 1) 4)
        obtain ⟨g, hg⟩ : ∃ g, w.heap.size = g := ⟨_, rfl⟩
        have HG := hide hg
        go_enter Try.func21, Try.ntmps21
        go_wp2
        rw [hg] at C0
        clear hg hmk q1 q3 c1
        go_loopw [4] (fun v wr => ∃ k : Nat, k ≤ 6 ∧ v = .int .i64 (1 + (k : Int)) ∧ Hid (DCk w wr b s g (takeT (fun _ => false) 1 k))) (fun v _ => 7 - (intOf v).toNat)
        case atStart => exact ⟨0, by omega, by simp, C0⟩
        case round =>
          obtain ⟨k, hk, rfl, HC⟩ := hrel
          by_cases hk6 : k < 6
          · have i1 : 1 + (k : Int) ≤ 6 := by omega
            have i2 : 1 + (k : Int) < (N : Int) + 1 := by omega
            have i4 : (1 + (k : Int)).toNat = 1 + k := by omega
            have b2 := HC.out.row.cell (show 1 + k < s.xs.length + 1 by rw [HN.out]; omega)
            have b3 := HC.out.row.frozen (1 + k)
            have G2 := hide (HC.out.put (1 + k) (takeT_succ (fun _ => false) 1 k))
            go_wp2
            exact ⟨⟨k + 1, by omega, by simp; omega, G2⟩, by simp [intOf]; omega⟩
          · have hk6' : k = 6 := by omega
            subst hk6'
            have HFU : Hid (freeN (s.xs.length + 1) (takeT (fun _ => false) 1 6) < fuel s) := hide (by
              have := freeN_le (s.xs.length + 1) (takeT (fun _ => false) 1 6)
              unfold fuel; omega)
            obtain ⟨u, hu⟩ : ∃ u, sndSlot s (sndW s (fuel s)) 6 (-9223372036854775808) 9223372036854775807 base0 = u := ⟨_, rfl⟩
            have HU := hide hu
            have HR : Hid (r = u.isSome) := hide (by rw [E2.out, hu]; simp [h6])
            have ew : metS s g = .slice (some ⟨g, 0, none⟩) (N + 1) (N + 1) := by unfold metS; rw [HN.out]
            have EW := hide ew
            clear hu ew
            go_wp2_with (fail)
            rw [← EW.out]
            refine (slot_of_word_d _ (word_d (fuel s)) w _ b s _ _ HC.out 6 (-9223372036854775808) 9223372036854775807 ⟨by decide, by decide⟩ ⟨by decide, by decide⟩ HFU.out u HU.out).mono ?_
            rintro e W3 ⟨rfl, hT, t', hC, ht'⟩
            have HC3 := hide hC
            clear hT hC ht' HC
            go_wp2
            go_ret
            exact ⟨by rw [HR.out]; rfl, HC3.out.kept⟩
      · have HR : Hid (r = false) := hide (by rw [E2.out]; simp [y3])
        have g1 : (z3 == 0) = false := by simp [y3]
        have g2 : (z3 != 0) = true := by simp [y3]
        subst y1
        clear y3
        go_enter Try.func21, Try.ntmps21
        go_wp2
        go_ret
        exact ⟨by rw [HR.out]; rfl, Kept.refl _⟩
    · have HR : Hid (r = false) := hide (by rw [E2.out]; simp [y1])
      have g1 : (z1 == 1) = false := by simp [y1]
      have g2 : (z1 != 1) = true := by simp [y1]
      clear y1
      go_enter Try.func21, Try.ntmps21
      go_wp2
      go_ret
      exact ⟨by rw [HR.out]; rfl, Kept.refl _⟩
  · have HR : Hid (r = false) := hide (by rw [e2]; simp [h6])
    have n6 : (N : Int) < 6 := by omega
    clear h ho hrd hz1 hz3 e1 e2 hN
    go_enter Try.func21, Try.ntmps21
    go_wp2
    go_ret
    exact ⟨by rw [HR.out]; rfl, Kept.refl _⟩
end Go.Proofs.Ytbojjpmcopnjpaa

/-! The program's Sound. -/
namespace Go.Proofs.Ytbojjpmcopnjpaa
open Go.RowKit

set_option maxRecDepth 20000 in
theorem sound_p (w : World) (b : Nat) (s : Mst) (h : PM w b s) (ho : s.ok) (r : Bool) (e1 : soundB s = r) :
    Calls Try.prog 7 #[.pointer (some ⟨b, 0, none⟩)] w fun e w' => e = .returned (.bool r) ∧ Kept w w' := by
  have H := hide h
  have HO := hide ho
  obtain ⟨z1, hz1⟩ : ∃ z, s.look 1 = z := ⟨_, rfl⟩
  obtain ⟨z3, hz3⟩ : ∃ z, s.look 3 = z := ⟨_, rfl⟩
  have H1 := hide hz1
  have H3 := hide hz3
  have e2 : r = (decide (6 ≤ s.xs.length) && (z1 == 1) && (z3 == 0) && (sndSlot s (sndW s (fuel s)) 6 (-9223372036854775808) 9223372036854775807 base0).isSome) := by
    rw [← e1, soundB, hz1, hz3]
  have E2 := hide e2
  clear h ho hz1 hz3 e1 e2
  by_cases c1 : z1 = 1
  · by_cases c3 : z3 = 0
    · subst c1 c3
      obtain ⟨N, hN⟩ : ∃ N, s.xs.length = N := ⟨_, rfl⟩
      have HN := hide hN
      have HNi : Hid ((s.xs.length : Int) = (N : Int)) := hide (by omega)
      have n1 : N ≤ 65536 := by rw [← hN]; exact HO.out.2
      have hmk := run_make58 (N + 1) (by omega)
      rw [show ((N + 1 : Nat) : Int) = (N : Int) + 1 from rfl] at hmk
      clear hN
      go_enter Try.func7, Try.ntmps7
      go_wp2_with (fail)
      refine (lk_p _ b s 1 1 H.out H1.out).mono ?_
      rintro e w' ⟨rfl, rfl⟩
      go_wp2_with (fail)
      refine (lk_p _ b s 3 0 H.out H3.out).mono ?_
      rintro e w' ⟨rfl, rfl⟩
      go_wp2_with (fail)
      refine (used_k _ b s N H.out HNi.out).mono ?_
      rintro e w' ⟨rfl, rfl⟩
      go_wp2_with (fail)
      have C0 : Chk w ((w.alloc (.cells (madeCells #[.bool false] (N + 1)) 4)).alloc (.cells #[.pointer (some ⟨b, 0, none⟩), .slice (some ⟨w.heap.size, 0, none⟩) (N + 1) (N + 1)] 61)) b s (w.heap.size + 1) w.heap.size (fun _ => false) := by
        refine ⟨H.out, HO.out, ((Kept.refl w).alloc _).alloc _, by omega, Nat.le_refl _, by omega, ?_, ?_⟩
        · rw [HN.out]
          have := heap_new (w.alloc (.cells (madeCells #[.bool false] (N + 1)) 4)) (.cells #[.pointer (some ⟨b, 0, none⟩), .slice (some ⟨w.heap.size, 0, none⟩) (N + 1) (N + 1)] 61)
          rwa [show (w.alloc (.cells (madeCells #[.bool false] (N + 1)) 4)).heap.size = w.heap.size + 1 by simp] at this
        · rw [HN.out]
          exact (World.rowIs_made w (.bool false) (N + 1) 4).alloc _
      have HC := hide C0
      obtain ⟨W1, hW1⟩ : ∃ W1, ((w.alloc (.cells (madeCells #[.bool false] (N + 1)) 4)).alloc (.cells #[.pointer (some ⟨b, 0, none⟩), .slice (some ⟨w.heap.size, 0, none⟩) (N + 1) (N + 1)] 61)) = W1 := ⟨_, rfl⟩
      rw [hW1] at HC ⊢
      clear hW1 C0 hmk
      by_cases h6 : 6 ≤ N
      · have HT : Hid (takeO (s.xs.length + 1) (fun _ => false) 1 6 = some base0) := hide (by
          rw [HN.out, takeO, if_pos]
          · rfl
          · simp [freeB]; omega)
        have HFU : Hid (freeN (s.xs.length + 1) base0 < fuel s) := hide (by
          have := freeN_le (s.xs.length + 1) base0
          unfold fuel; omega)
        refine (take_p w _ b s _ _ _ HC.out 1 6 (by omega) (by omega) (by omega) _ HT.out).mono ?_
        rintro e W2 ⟨rfl, hT, t', hC, ht'⟩
        have := ht' _ rfl
        subst this
        have HC2 := hide hC
        clear hT hC ht' HC
        obtain ⟨u, hu⟩ : ∃ u, sndSlot s (sndW s (fuel s)) 6 (-9223372036854775808) 9223372036854775807 base0 = u := ⟨_, rfl⟩
        have HU := hide hu
        have HR : Hid (r = u.isSome) := hide (by rw [E2.out, hu, HN.out]; simp [h6])
        clear hu
        go_wp2_with (fail)
        refine (slot_of_word _ (word_p (fuel s)) w _ b s _ _ _ HC2.out 6 (-9223372036854775808) 9223372036854775807 ⟨by decide, by decide⟩ ⟨by decide, by decide⟩ HFU.out u HU.out).mono ?_
        rintro e W3 ⟨rfl, hT, t', hC, ht'⟩
        have HC3 := hide hC
        clear hT hC ht' HC2
        go_wp2
        go_ret
        exact ⟨by rw [HR.out]; rfl, HC3.out.kept⟩
      · have HT : Hid (takeO (s.xs.length + 1) (fun _ => false) 1 6 = none) := hide (by
          rw [HN.out, takeO, if_neg]
          simp; omega)
        have HR : Hid (r = false) := hide (by rw [E2.out, HN.out]; simp [h6])
        refine (take_p w _ b s _ _ _ HC.out 1 6 (by omega) (by omega) (by omega) _ HT.out).mono ?_
        rintro e W2 ⟨rfl, hT, t', hC, ht'⟩
        have HC2 := hide hC
        clear hT hC ht' HC
        go_wp2
        go_ret
        exact ⟨by rw [HR.out]; rfl, HC2.out.kept⟩
    · have HR : Hid (r = false) := hide (by rw [E2.out]; simp [c3])
      have g1 : (z3 == 0) = false := by simp [c3]
      have g2 : (z3 != 0) = true := by simp [c3]
      subst c1
      clear c3
      go_enter Try.func7, Try.ntmps7
      go_wp2_with (fail)
      refine (lk_p _ b s 1 1 H.out H1.out).mono ?_
      rintro e w' ⟨rfl, rfl⟩
      go_wp2_with (fail)
      refine (lk_p _ b s 3 z3 H.out H3.out).mono ?_
      rintro e w' ⟨rfl, rfl⟩
      go_wp2
      go_ret
      exact ⟨by rw [HR.out]; rfl, Kept.refl _⟩
  · have HR : Hid (r = false) := hide (by rw [E2.out]; simp [c1])
    have g1 : (z1 == 1) = false := by simp [c1]
    have g2 : (z1 != 1) = true := by simp [c1]
    clear c1
    go_enter Try.func7, Try.ntmps7
    go_wp2_with (fail)
    refine (lk_p _ b s 1 z1 H.out H1.out).mono ?_
    rintro e w' ⟨rfl, rfl⟩
    go_wp2
    go_ret
    exact ⟨by rw [HR.out]; rfl, Kept.refl _⟩
end Go.Proofs.Ytbojjpmcopnjpaa

/-! Chapter 9 in plain: what lies below a word, by fuel; that a sound tree's words are well-founded. -/
namespace Go.Proofs.Ytbojjpmcopnjpaa
open Go.RowKit

section
variable (s : Mst)
def tgt (w : Int) : Int := if kd w = 4 then s.look (ad w) else w
def atN (w : Int) : Nat := (ad (tgt s w)).toNat
def degN (w : Int) : Nat := (s.look (ad (tgt s w))).toNat
def slotsL (w : Int) : List (Int × Int) := if kd (tgt s w) = 3 then (List.range (degN s w)).map (fun i : Nat => ((i : Int), childS (atN s w) (degN s w) i)) else []
/-- A word whose record may be. -/
structure WfH (w : Int) : Prop where
  i64 : I64 w
  deg : kd (tgt s w) = 3 → 2 ≤ s.look (ad (tgt s w)) ∧ s.look (ad (tgt s w)) ≤ 40000
  tg : kd w = 4 → kd (tgt s w) = 3
def Wf : Nat → Int → Prop
  | 0, _ => False
  | f + 1, w => WfH s w ∧ ∀ p ∈ slotsL s w, Wf f (s.logicZ p.2)
def spotsF : Nat → Int → List (Int × Int)
  | 0, _ => []
  | f + 1, w => (slotsL s w).flatMap (fun p => (p.2, s.logicZ p.2) :: spotsF f (s.logicZ p.2))
end
theorem tgt_i64 {s : Mst} (ho : s.ok) {w : Int} (h : I64 w) : I64 (tgt s w) := by
  unfold tgt; split
  · exact ho.look _
  · exact h
theorem tgt_tgt {s : Mst} {w : Int} (h : kd (tgt s w) = 3) : tgt s (tgt s w) = tgt s w := by
  rw [tgt, if_neg (by rw [h]; decide)]
theorem Wf.mono {s : Mst} : ∀ {f g : Nat} {w : Int}, Wf s f w → f ≤ g → Wf s g w
  | 0, _, _, h, _ => h.elim
  | f + 1, 0, _, _, h => absurd h (by omega)
  | f + 1, g + 1, _, h, hg => ⟨h.1, fun p hp => (h.2 p hp).mono (by omega)⟩
theorem Wf.pos {s : Mst} {f : Nat} {w : Int} (h : Wf s f w) : ∃ g, f = g + 1 ∧ WfH s w ∧ ∀ p ∈ slotsL s w, Wf s g (s.logicZ p.2) := by
  cases f with
  | zero => exact h.elim
  | succ f => exact ⟨f, rfl, h.1, h.2⟩
/-- What is said of a Rebuild's Target is said of the Rebuild. -/
theorem Wf.up {s : Mst} {f : Nat} {w : Int} (hi : I64 w) (hk : kd (s.look (ad w)) = 3) (h4 : kd w = 4) (h : Wf s f (s.look (ad w))) : Wf s f w := by
  obtain ⟨g, rfl, h1, h2⟩ := h.pos
  have e1 : tgt s w = s.look (ad w) := by rw [tgt, if_pos h4]
  have e2 : tgt s (s.look (ad w)) = s.look (ad w) := by rw [tgt, if_neg (by rw [hk]; decide)]
  have e3 : slotsL s w = slotsL s (s.look (ad w)) := by unfold slotsL degN atN; rw [e1, e2]
  refine ⟨⟨hi, ?_, ?_⟩, ?_⟩
  · rw [e1, ← e2]; exact h1.deg
  · intro _; rw [e1]; exact hk
  · rw [e3]; exact h2
theorem chain_all {s : Mst} {W : Int → Int → Int → Tk → Option Tk} {a d : Nat} {lo hi : Int} {n : Nat} {t u : Tk} (h : chain (kidG s W a d lo hi) n t = some u) : ∀ i, i < n → ∃ l h t' u', W (s.logicZ (childS a d i)) l h t' = some u' := by
  induction n generalizing u with
  | zero => intro i hi; omega
  | succ n ih =>
    rw [chain, Option.bind_eq_some_iff] at h
    obtain ⟨v, h1, h2⟩ := h
    intro i hi
    by_cases e : i = n
    · subst e
      unfold kidG sndSlot at h2
      split at h2
      · exact ⟨_, _, _, _, h2⟩
      · cases h2
    · exact ih h1 i (by omega)
theorem wf_of_snd {s : Mst} (ho : s.ok) : ∀ (f : Nat) (w lo hi : Int) (t u : Tk), I64 w → sndW s f w lo hi t = some u → Wf s f w
  | 0, _, _, _, _, _, _, h => by cases h
  | f + 1, w, lo, hi, t, u, hw, h => by
    have ih := wf_of_snd ho f
    rw [sndW_succ] at h
    have plain : kd w ≠ 3 → kd w ≠ 4 → Wf s (f + 1) w := fun h3 h4 => by
      have e : tgt s w = w := by rw [tgt, if_neg h4]
      refine ⟨⟨hw, fun h' => absurd (e ▸ h') h3, fun h' => absurd h' h4⟩, ?_⟩
      unfold slotsL
      rw [e, if_neg h3]
      intro p hp; cases hp
    split at h
    · rename_i k; exact plain (by omega) (by omega)
    · split at h
      · rename_i k; exact plain (by omega) (by omega)
      · split at h
        · rename_i k3
          have e : tgt s w = w := by rw [tgt, if_neg (by omega)]
          have ha := ad_range w
          unfold sndInner at h
          have ea : (((ad w).toNat : Nat) : Int) = ad w := by omega
          rw [ea] at h
          split at h
          · cases h
          · rename_i hd
            rw [Option.bind_eq_some_iff] at h
            obtain ⟨t1, h1, h2⟩ := h
            split at h2
            · have hfit : (s.look (ad w)).toNat ≤ 40000 := by
                unfold takeO at h1
                split at h1
                · rename_i c
                  simp only [Bool.and_eq_true, decide_eq_true_eq] at c
                  have := ho.2
                  omega
                · cases h1
              refine ⟨⟨hw, fun _ => by rw [e]; omega, fun h' => by omega⟩, ?_⟩
              unfold slotsL
              rw [e, if_pos k3]
              intro p hp
              rw [List.mem_map] at hp
              obtain ⟨i, hi, rfl⟩ := hp
              simp only [List.mem_range, degN, e] at hi
              obtain ⟨l, h', t', u', h3⟩ := chain_all h2 i hi
              have h4 := ih _ _ _ _ _ (ho.logic _) h3
              simpa [degN, atN, e] using h4
            · cases h2
        · split at h
          · rename_i k4
            split at h
            · rename_i k3
              rw [Option.bind_eq_some_iff] at h
              obtain ⟨t1, h1, h2⟩ := h
              exact ((ih _ _ _ _ _ (ho.look _) h2).up hw k3 k4).mono (by omega)
            · cases h
          · cases h
theorem wf_root {s : Mst} (ho : s.ok) (h : soundB s = true) : Wf s (fuel s) (s.logicZ 6) := by
  unfold soundB at h
  simp only [Bool.and_eq_true] at h
  have h4 := h.2
  cases e : sndSlot s (sndW s (fuel s)) 6 (-9223372036854775808) 9223372036854775807 base0 with
  | none => rw [e] at h4; cases h4
  | some u =>
    unfold sndSlot at e
    split at e
    · exact wf_of_snd ho _ _ _ _ _ _ (ho.logic _) e
    · cases e
end Go.Proofs.Ytbojjpmcopnjpaa

/-! Boxes: blocks of one cell, and objects that are put in a block's place ('Turned.putObj', 'Turned.boxed'). No conditions beyond each theorem's own. -/
namespace Go.Proofs.Ytbojjpmcopnjpaa
open Go.RowKit
theorem Turned.putObj (w : World) (l : Nat) (o : Obj) {R : Nat → Prop} (h : R l) : Turned R w (w.putObj l o) :=
  ⟨rfl, rfl, rfl, by simp, fun k _ hn => World.putObj_heap_other (fun e => hn (by rw [e]; exact h))⟩
theorem Turned.boxed {R : Nat → Prop} {a b : World} (h : Turned R a b) {B : Nat} {t : TypeId} {v : Value} (hb : Boxed a B t v) (hn : ¬ R B) : Boxed b B t v := h.heap hb hn
end Go.Proofs.Ytbojjpmcopnjpaa

/-! Iterators and the loops over them. 'Iter': what an iterator promises of its rounds, by the blocks that the loop's body holds as its own (O: the body turns those and new ones alone; the iterator turns none of them); 'wp_range': a loop 'for .. := range g' by its iterator's promise, its own invariant and one walk of its body. Conditions: each theorem's own. -/
namespace Go.Proofs.Ytbojjpmcopnjpaa
open Go.RowKit

/-- Blocks of O', but for new ones (from n on), are of O. -/
def Sub (O' O : Nat → Prop) (n : Nat) : Prop := ∀ k, O' k → O k ∨ n ≤ k

theorem Sub.refl (O : Nat → Prop) (n : Nat) : Sub O O n := fun _ h => .inl h
theorem Sub.trans {O'' O' O : Nat → Prop} {n m : Nat} (h : Sub O'' O' m) (h' : Sub O' O n) (hnm : n ≤ m) : Sub O'' O n := fun k hk => (h k hk).elim (h' k) (fun e => .inr (Nat.le_trans hnm e))
theorem Turned.sub {O O' : Nat → Prop} {a b c : World} (h : Turned O a b) (h' : Turned O' b c) (hs : Sub O' O a.heap.size) : Turned O a c :=
  h.trans h' (fun _ e => e) (fun i hi e => (hs i e).elim id (fun e' => by omega))

/-- An invariant of a loop: by the blocks that are the body's own, what has come, the world. -/
abbrev Inv (α : Type) := (Nat → Prop) → List α → World → Prop

/-- It speaks of its own blocks alone, and they lie. -/
structure Good {α : Type} (J : Inv α) : Prop where
  abides : ∀ O pre A B, J O pre A → Turned (fun k => ¬ O k) A B → J O pre B
  within : ∀ O pre A, J O pre A → ∀ k, O k → k < A.heap.size

/-- How a round ends: it goes on, or says 'no more'. -/
def RoundEnds {α : Type} (J Jx : Inv α) (O : Nat → Prop) (pre : List α) (A : World) (e : Ending) (B : World) : Prop :=
  ∃ O', Sub O' O A.heap.size ∧ Turned O A B ∧ ((e = .returned (.bool true) ∧ J O' pre B) ∨ (e = .returned (.bool false) ∧ Jx O' pre B))

/-- What an iterator (function g with lb captured) promises at world W, where it goes through xs and reads blocks of R: for whatever loop body keeps off R. -/
def Iter {α : Type} (P : Program) (g : Nat) (lb : Array Value) (encs : α → Array Value) (xs : List α) (R : Nat → Prop) (W : World) : Prop :=
  ∀ (l : Nat) (O₀ : Nat → Prop) (J Jx : Inv α), (∀ k, R k → ¬ O₀ k) → Good J → Good Jx →
    (∀ O pre x rest A, xs = pre ++ x :: rest → Turned O₀ W A → Sub O O₀ W.heap.size → J O pre A → YieldAt Fence.wide 9 P l (encs x) A (RoundEnds J Jx O (pre ++ [x]) A)) →
    J O₀ [] W →
    Calls P g (#[.func (.yield l) #[] #[]] ++ lb) W fun e W' => (∃ v, e = .returned v) ∧ ∃ O', Sub O' O₀ W.heap.size ∧ Turned O₀ W W' ∧ (J O' xs W' ∨ ∃ pre rest, xs = pre ++ rest ∧ Jx O' pre W')

/-- How a loop's body may be left. -/
def BodyEnds {α : Type} (I : Inv α) (Ix : Code → Inv α) (O : Nat → Prop) (pre : List α) (A : World) : Exit → Act → World → Prop
  | .normal, _, B => ∃ O', Sub O' O A.heap.size ∧ Turned O A B ∧ I O' pre B
  | .ret, _, B => ∃ O', Sub O' O A.heap.size ∧ Turned O A B ∧ Ix .ret O' pre B
  | .exit id, _, B => ∃ O', Sub O' O A.heap.size ∧ Turned O A B ∧ Ix (.exit id) O' pre B
  | .goto t, _, B => ∃ O', Sub O' O A.heap.size ∧ Turned O A B ∧ Ix (.goto t) O' pre B
  | .panic _, _, _ => False
  | .outgrown, _, _ => False

/-- The blocks of a loop's body, with the loop's own two (D: deferred calls; D + 1: its record). -/
def With (O : Nat → Prop) (D : Nat) : Nat → Prop := fun k => O k ∨ k = D ∨ k = D + 1

/-- The loop's invariant, as its iterator meets it: the body's, and the loop's own two blocks. -/
def Inner {α : Type} (I : Inv α) (D : Nat) (o : Obj) : Inv α := fun OO pre W =>
  ∃ O, (∀ k, OO k ↔ With O D k) ∧ ¬ O D ∧ ¬ O (D + 1) ∧ I O pre W ∧ W.heap[D + 1]? = some o ∧ W.heap[D]? = some (.deferred (some []))

theorem Inner.good {α : Type} {I : Inv α} (h : Good I) (D : Nat) (o : Obj) : Good (Inner I D o) := by
  constructor
  · rintro OO pre A B ⟨O, e, h1, h2, hi, hl, hd⟩ ht
    have ho : ∀ k, With O D k → k < A.heap.size → B.heap[k]? = A.heap[k]? := fun k hk hlt => ht.block k hlt (fun hn => hn ((e k).2 hk))
    refine ⟨O, e, h1, h2, h.abides O pre A B hi (ht.mono fun k _ hk hn => hk ((e k).2 (.inl hn))), ?_, ?_⟩
    · exact (ho _ (.inr (.inr rfl)) (Array.getElem?_eq_some_iff.1 hl).1).trans hl
    · exact (ho _ (.inr (.inl rfl)) (Array.getElem?_eq_some_iff.1 hd).1).trans hd
  · rintro OO pre A ⟨O, e, _, _, hi, hl, hd⟩ k hk
    rcases (e k).1 hk with hk | rfl | rfl
    · exact h.within O pre A hi k hk
    · exact (Array.getElem?_eq_some_iff.1 hd).1
    · exact (Array.getElem?_eq_some_iff.1 hl).1

theorem Good.ex {α : Type} {β : Type} {I : β → Inv α} (h : ∀ c, Good (I c)) : Good (fun O pre W => ∃ c, I c O pre W) :=
  ⟨fun O pre A B ⟨c, hi⟩ ht => ⟨c, (h c).abides O pre A B hi ht⟩, fun O pre A ⟨c, hi⟩ => (h c).within O pre A hi⟩


/-- **A LOOP OVER AN ITERATOR** (not within another such loop's body): by the iterator's promise, the loop's invariant I (Ix c: where a round has left by the jump c) and one walk of its body. -/
theorem wp_range {P : Program} {α : Type} {n : Nat} {g : Operand} {ps : Array Tmp} {assign body : Code} {Q : Exit → Act → World → Prop} {a : Act} {w : World}
    {gf : Nat} {lb : Array Value} (hg : a.eval g = .func (.func gf) #[] lb) (eg : ∀ args w, (callFunc gf args).run P w = .ok (.enter gf args) w)
    {encs : α → Array Value} {xs : List α} {R : Nat → Prop} (hit : ∀ W, Turned (fun _ => False) w W → Iter P gf lb encs xs R W) (hps : ∀ x, (encs x).size = ps.size)
    (O₀ : Nat → Prop) (I : Inv α) (Ix : Code → Inv α) (hR : ∀ k, R k → k < w.heap.size ∧ ¬ O₀ k) (hI : Good I) (hIx : ∀ c, Good (Ix c)) (h0 : I O₀ [] w) (a₁ : α → Act)
    (hassign : ∀ (l : Nat) (x : α) (W : World) (K : Act → World → Prop), K (a₁ x) W →
      assign.wpIn (Fence.wide.inRound l) 9 P (Exit.then K (fun _ _ _ => False)) { tmps := (ps.zip (encs x)).foldl (fun t (p, v) => t.setIfInBounds p v) a.tmps, defers := [] } W)
    (hbody : ∀ (l : Nat) (O : Nat → Prop) (pre : List α) (x : α) (rest : List α) (W : World), xs = pre ++ x :: rest → Turned O₀ w W → Sub O O₀ w.heap.size → I O pre W →
      body.wpIn (Fence.wide.inRound l) 9 P (BodyEnds I Ix O (pre ++ [x]) W) (a₁ x) W)
    (hdone : ∀ (D : Nat) (O : Nat → Prop) (W : World), w.heap.size ≤ D → ¬ O D → Turned O₀ w W → Sub O O₀ w.heap.size → I O xs W → W.heap[D]? = some (.deferred (some [])) →
      Q .normal { a with defers := { target := .collected D, args := #[] } :: a.defers } W)
    (hstop : ∀ (D : Nat) (O : Nat → Prop) (c : Code) (pre rest : List α) (W : World), w.heap.size ≤ D → ¬ O D → Turned O₀ w W → Sub O O₀ w.heap.size → xs = pre ++ rest → Ix c O pre W → W.heap[D]? = some (.deferred (some [])) →
      c.wpIn Fence.wide n P Q { a with defers := { target := .collected D, args := #[] } :: a.defers } W) :
    (Code.rangeFunc g ps assign body).wpIn Fence.wide n P Q a w := by
  refine wpIn_rangeFunc ?_
  intro fn hfn
  obtain ⟨rec, hrec⟩ : ∃ rec : LoopState → Option Code → Loop, rec = fun st pe => { state := st, pending := pe, fn, tmps := a.tmps, params := ps, assign, body, defers := w.heap.size } := ⟨_, rfl⟩
  obtain ⟨D, hD⟩ : ∃ D, w.heap.size = D := ⟨_, rfl⟩
  obtain ⟨W1, hW1⟩ : ∃ W1, (w.alloc (.deferred (some []))).alloc (.loop (rec .ready none)) = W1 := ⟨_, rfl⟩
  have t1 : Turned (fun _ => False) w W1 := by
    rw [← hW1]
    exact (Turned.alloc _ w _).trans (Turned.alloc _ _ _) (fun _ h => h) (fun _ _ h => h)
  have z1 : W1.heap.size = D + 2 := by rw [← hW1, World.size_alloc, World.size_alloc, hD]
  have hl1 : W1.heap[D + 1]? = some (.loop (rec .ready none)) := by
    rw [← hW1, ← hD]
    have := World.alloc_heap_new (w.alloc (.deferred (some []))) (.loop (rec .ready none))
    rwa [World.size_alloc] at this
  have hd1 : W1.heap[D]? = some (.deferred (some [])) := by
    rw [← hW1, ← hD]
    exact (Below.heap_alloc _ _ _ (by simp)).trans (World.alloc_heap_new w _)
  have w0 : ∀ k, O₀ k → k < D := fun k hk => by rw [← hD]; exact hI.within O₀ [] w h0 k hk
  have hi1 : I O₀ [] W1 := hI.abides O₀ [] w W1 h0 (t1.mono fun _ _ h => h.elim)
  -- what is said of the body's blocks is said from the loop's beginning on
  have back : ∀ {OO : Nat → Prop} {A : World}, Turned OO W1 A → (∀ k, OO k ↔ With O₀ D k) → Turned O₀ w A := fun {OO A} h e =>
    t1.trans h (fun _ h => h.elim) (fun i hi hk => by
      rcases (e i).1 hk with hk | rfl | rfl
      · exact hk
      · omega
      · omega)
  have e0 : ∀ k, With O₀ D k ↔ With O₀ D k := fun _ => Iff.rfl
  refine ⟨D + 1, [{ target := .collected D, args := #[] }], W1, { target := .fn (.func gf) lb, args := #[.func (.yield (D + 1)) #[] #[]] }, W1, gf,
    #[.func (.yield (D + 1)) #[] #[]] ++ lb, W1, ?_, ?_, fun _ _ => trivial, ?_, fun h => by simp [Fence.wide] at h, ?_⟩
  · rw [← hW1, ← hD, hrec]
    exact run_enterLoop_outer _ _ _ _ _
  · simp only [resolve, hg]
    simp [go_sem]
  · simp [invoke, go_sem, eg]
  · have hc := hit W1 t1 (D + 1) (With O₀ D) (Inner I D (.loop (rec .ready none))) (fun OO pre W => ∃ c, Inner (Ix c) D (.loop (rec .done (some c))) OO pre W)
      (fun k hk hO => by
        obtain ⟨hk1, hk2⟩ := hR k hk
        rcases hO with hO | rfl | rfl
        · exact hk2 hO
        · omega
        · omega)
      (Inner.good hI D _) (Good.ex fun c => Inner.good (hIx c) D _) ?_ ⟨O₀, e0, fun h => by have := w0 _ h; omega, fun h => by have := w0 _ h; omega, hi1, hl1, hd1⟩
    · refine callsIn_wide.2 (hc.mono ?_)
      rintro e W2 ⟨⟨v, rfl⟩, OO, hsub, ht, hJ⟩
      have tb := back ht e0
      rcases hJ with ⟨O, e, n1, n2, hi, hl, hd⟩ | ⟨pre, rest, hx, c, O, e, n1, n2, hi, hl, hd⟩
      · obtain ⟨o, hr⟩ : ∃ o, (Instr.endLoop (D + 1)).run P W2 = .ok none (W2.putObj (D + 1) o) := ⟨_, by have := run_endLoop (P := P) hl (by rw [hrec]; simp); rw [hrec] at this; exact this⟩
        have hput : Turned (fun k => k = D + 1) W2 (W2.putObj (D + 1) o) := Turned.putObj _ _ _ rfl
        refine ⟨none, _, hr, ?_⟩
        refine hdone D O _ (by omega) n1 (tb.trans hput (fun _ h => h) (fun i hi h => by omega)) ?_ (hI.abides O xs W2 _ hi (hput.mono fun k _ hk hO => n2 (by rw [← hk]; exact hO))) ((World.putObj_heap_other (by omega)).trans hd)
        intro k hk
        rcases hsub k ((e k).2 (.inl hk)) with (h | rfl | rfl) | h
        · exact .inl h
        · exact (n1 hk).elim
        · exact (n2 hk).elim
        · exact .inr (by omega)
      · obtain ⟨o, hr⟩ : ∃ o, (Instr.endLoop (D + 1)).run P W2 = .ok (some c) (W2.putObj (D + 1) o) := ⟨_, by have := run_endLoop (P := P) hl (by rw [hrec]; simp); rw [hrec] at this; exact this⟩
        have hput : Turned (fun k => k = D + 1) W2 (W2.putObj (D + 1) o) := Turned.putObj _ _ _ rfl
        refine ⟨some c, _, hr, ?_⟩
        refine hstop D O c pre rest _ (by omega) n1 (tb.trans hput (fun _ h => h) (fun i hi h => by omega)) ?_ hx ((hIx c).abides O pre W2 _ hi (hput.mono fun k _ hk hO => n2 (by rw [← hk]; exact hO))) ((World.putObj_heap_other (by omega)).trans hd)
        intro k hk
        rcases hsub k ((e k).2 (.inl hk)) with (h | rfl | rfl) | h
        · exact .inl h
        · exact (n1 hk).elim
        · exact (n2 hk).elim
        · exact .inr (by omega)
    · -- one round
      rintro OO pre x rest A hx tA hsA ⟨O, e, n1, n2, hi, hl, hd⟩
      have hlt : D + 1 < A.heap.size := (Array.getElem?_eq_some_iff.1 hl).1
      have tb := back tA e0
      have sO : Sub O O₀ w.heap.size := fun k hk => by
        rcases hsA k ((e k).2 (.inl hk)) with (h | rfl | rfl) | h
        · exact .inl h
        · exact (n1 hk).elim
        · exact (n2 hk).elim
        · exact .inr (by omega)
      have hy := run_yield (P := P) (args := encs x) hl (by rw [hrec]; exact hps x)
      rw [hrec] at hy
      refine ⟨fn, _, assign, body, hy, roundIn_of_wpIn hfn (hassign _ x A _ ⟨_, run_beginRound hl (by rw [hrec]), ?_⟩)⟩
      clear hy
      obtain ⟨A1, hA1⟩ : ∃ A1, A.putObj (D + 1) (.loop { rec .ready none with state := .busy }) = A1 := ⟨_, rfl⟩
      rw [hA1]
      have hput : Turned (fun k => k = D + 1) A A1 := by rw [← hA1]; exact Turned.putObj _ _ _ rfl
      have hl2 : A1.heap[D + 1]? = some (.loop { rec .ready none with state := .busy }) := by rw [← hA1]; exact World.putObj_heap_same hlt
      have hd2 : A1.heap[D]? = some (.deferred (some [])) := by rw [← hA1]; exact (World.putObj_heap_other (by omega)).trans hd
      have zA : A1.heap.size = A.heap.size := by rw [← hA1]; simp
      have hi2 : I O pre A1 := hI.abides O pre A A1 hi (hput.mono fun k _ hk hO => n2 (by rw [← hk]; exact hO))
      have fin : ∀ (jump : Option Code) (B : World), Turned O A1 B →
          (Instr.endRound (D + 1) jump).run P B = .ok (.bool jump.isNone) (B.putObj (D + 1) (.loop (rec (if jump.isNone then .ready else .done) jump))) ∧
          (B.putObj (D + 1) (.loop (rec (if jump.isNone then .ready else .done) jump))).heap[D + 1]? = some (.loop (rec (if jump.isNone then .ready else .done) jump)) ∧
          (B.putObj (D + 1) (.loop (rec (if jump.isNone then .ready else .done) jump))).heap[D]? = some (.deferred (some [])) ∧
          Turned OO A (B.putObj (D + 1) (.loop (rec (if jump.isNone then .ready else .done) jump))) := fun jump B tB => by
        have hl3 := tB.heap hl2 n2
        have hd3 := tB.heap hd2 n1
        have hr := run_endRound (P := P) jump hl3
        rw [hrec] at hr ⊢
        refine ⟨hr, World.putObj_heap_same (Array.getElem?_eq_some_iff.1 hl3).1, (World.putObj_heap_other (by omega)).trans hd3, ?_⟩
        refine (hput.trans (tB.trans (Turned.putObj (R := fun k => k = D + 1) B (D + 1) _ rfl) (R'' := OO) (fun k hk => (e k).2 (.inl hk)) (fun k _ hk => (e k).2 (.inr (.inr hk)))) (fun k hk => (e k).2 (.inr (.inr hk))) (fun _ _ h => h))
      have fol : ∀ {O' : Nat → Prop} {J' : Inv α} {o : Obj} {B : World} {ys : List α}, Good J' → Sub O' O A1.heap.size → Turned O A1 B → J' O' ys B → (∀ k, O' k → k < B.heap.size) →
          (B.putObj (D + 1) o).heap[D + 1]? = some o → (B.putObj (D + 1) o).heap[D]? = some (.deferred (some [])) → Sub (With O' D) OO A.heap.size ∧ Inner J' D o (With O' D) ys (B.putObj (D + 1) o) := fun {O' J' o B ys} gJ s' tB hj wi q1 q2 => by
        have m1 : ¬ O' D := fun h => (s' D h).elim n1 (fun h' => by omega)
        have m2 : ¬ O' (D + 1) := fun h => (s' (D + 1) h).elim n2 (fun h' => by omega)
        refine ⟨fun k hk => ?_, O', fun _ => Iff.rfl, m1, m2, gJ.abides O' ys B _ hj ((Turned.putObj (R := fun k => k = D + 1) B (D + 1) o rfl).mono fun k _ hk hO => m2 (by rw [← hk]; exact hO)), q1, q2⟩
        rcases hk with hk | rfl | rfl
        · exact (s' k hk).imp (fun h => (e k).2 (.inl h)) (fun h => by omega)
        · exact .inl ((e _).2 (.inr (.inl rfl)))
        · exact .inl ((e _).2 (.inr (.inr rfl)))
      refine wpIn_mono (hbody _ O pre x rest A1 hx (tb.trans hput (fun _ h => h) (fun i hi h => by omega)) sO hi2) ?_
      rintro ex a3 B hp
      cases ex with
      | normal =>
        obtain ⟨O', s', tB, hj⟩ := hp
        obtain ⟨hr, q1, q2, q3⟩ := fin none B tB
        obtain ⟨f1, f2⟩ := fol hI s' tB hj (hI.within _ _ _ hj) q1 q2
        exact ⟨_, _, hr, With O' D, f1, q3, .inl ⟨rfl, f2⟩⟩
      | ret =>
        obtain ⟨O', s', tB, hj⟩ := hp
        obtain ⟨hr, q1, q2, q3⟩ := fin (some .ret) B tB
        obtain ⟨f1, f2⟩ := fol (hIx _) s' tB hj ((hIx _).within _ _ _ hj) q1 q2
        exact ⟨_, _, hr, With O' D, f1, q3, .inr ⟨rfl, _, f2⟩⟩
      | exit id =>
        obtain ⟨O', s', tB, hj⟩ := hp
        obtain ⟨hr, q1, q2, q3⟩ := fin (some (.exit id)) B tB
        obtain ⟨f1, f2⟩ := fol (hIx _) s' tB hj ((hIx _).within _ _ _ hj) q1 q2
        exact ⟨_, _, hr, With O' D, f1, q3, .inr ⟨rfl, _, f2⟩⟩
      | goto t =>
        obtain ⟨O', s', tB, hj⟩ := hp
        obtain ⟨hr, q1, q2, q3⟩ := fin (some (.goto t)) B tB
        obtain ⟨f1, f2⟩ := fol (hIx _) s' tB hj ((hIx _).within _ _ _ hj) q1 q2
        exact ⟨_, _, hr, With O' D, f1, q3, .inr ⟨rfl, _, f2⟩⟩
      | panic ch => exact hp.elim
      | outgrown => exact hp.elim

/-- The same, outside the fence. -/
theorem wp_range' {P : Program} {α : Type} {g : Operand} {ps : Array Tmp} {assign body : Code} {Q : Exit → Act → World → Prop} {a : Act} {w : World}
    {gf : Nat} {lb : Array Value} (hg : a.eval g = .func (.func gf) #[] lb) (eg : ∀ args w, (callFunc gf args).run P w = .ok (.enter gf args) w)
    {encs : α → Array Value} {xs : List α} {R : Nat → Prop} (hit : ∀ W, Turned (fun _ => False) w W → Iter P gf lb encs xs R W) (hps : ∀ x, (encs x).size = ps.size)
    (O₀ : Nat → Prop) (I : Inv α) (Ix : Code → Inv α) (hR : ∀ k, R k → k < w.heap.size ∧ ¬ O₀ k) (hI : Good I) (hIx : ∀ c, Good (Ix c)) (h0 : I O₀ [] w) (a₁ : α → Act)
    (hassign : ∀ (l : Nat) (x : α) (W : World) (K : Act → World → Prop), K (a₁ x) W →
      assign.wpIn (Fence.wide.inRound l) 9 P (Exit.then K (fun _ _ _ => False)) { tmps := (ps.zip (encs x)).foldl (fun t (p, v) => t.setIfInBounds p v) a.tmps, defers := [] } W)
    (hbody : ∀ (l : Nat) (O : Nat → Prop) (pre : List α) (x : α) (rest : List α) (W : World), xs = pre ++ x :: rest → Turned O₀ w W → Sub O O₀ w.heap.size → I O pre W →
      body.wpIn (Fence.wide.inRound l) 9 P (BodyEnds I Ix O (pre ++ [x]) W) (a₁ x) W)
    (hdone : ∀ (D : Nat) (O : Nat → Prop) (W : World), w.heap.size ≤ D → ¬ O D → Turned O₀ w W → Sub O O₀ w.heap.size → I O xs W → W.heap[D]? = some (.deferred (some [])) →
      Q .normal { a with defers := { target := .collected D, args := #[] } :: a.defers } W)
    (hstop : ∀ (D : Nat) (O : Nat → Prop) (c : Code) (pre rest : List α) (W : World), w.heap.size ≤ D → ¬ O D → Turned O₀ w W → Sub O O₀ w.heap.size → xs = pre ++ rest → Ix c O pre W → W.heap[D]? = some (.deferred (some [])) →
      c.wp P Q { a with defers := { target := .collected D, args := #[] } :: a.defers } W) :
    (Code.rangeFunc g ps assign body).wp P Q a w :=
  (wpIn_wide (n := 9)).1 (wp_range hg eg hit hps O₀ I Ix hR hI hIx h0 a₁ hassign hbody hdone (fun D O c pre rest W h1 h2 h3 h4 h5 h6 h7 => wpIn_wide.2 (hstop D O c pre rest W h1 h2 h3 h4 h5 h6 h7)))

/-- A function whose body holds a loop over an iterator, from its body. -/
theorem calls_marks {P : Program} {f : FuncId} {fn : Func} {c : Code} {args : Array Value} {w : World} {Q : Ending → World → Prop}
    (hf : P.funcs[f]? = some fn) (hb : fn.body = some c)
    (h : c.wp P (bodyPostM Fence.wide 9 P fn Q) { tmps := args ++ Array.replicate (fn.ntmps - args.size) undef, defers := [] } w) : Calls P f args w Q :=
  (callsIn_wide (n := 9)).1 (callsIn_of_wp_marks hf hb trivial (wpIn_wide.2 h) rfl)

/-- What lies in a block that is the body's own abides. -/
theorem Boxed.own {O : Nat → Prop} {A A' : World} {B : Nat} {t : TypeId} {u : Value} (h : Boxed A B t u) (hO : O B) (ht : Turned (fun k => ¬ O k) A A') : Boxed A' B t u := ht.boxed h (fun hn => hn hO)

end Go.Proofs.Ytbojjpmcopnjpaa

/-! Loops over iterators, once more: the frame that a round begins with is found by the walk ('wp_range2'); a function that leaves with marks of such loops ('leave_marks'). Conditions: each theorem's own. -/
namespace Go.Proofs.Ytbojjpmcopnjpaa
open Go.RowKit

theorem wp_range2 {P : Program} {α : Type} {g : Operand} {ps : Array Tmp} {assign body : Code} {Q : Exit → Act → World → Prop} {a : Act} {w : World}
    {gf : Nat} {lb : Array Value} (hg : a.eval g = .func (.func gf) #[] lb) (eg : ∀ args w, (callFunc gf args).run P w = .ok (.enter gf args) w)
    {encs : α → Array Value} {xs : List α} {R : Nat → Prop} (hit : ∀ W, Turned (fun _ => False) w W → Iter P gf lb encs xs R W) (hps : ∀ x, (encs x).size = ps.size)
    (O₀ : Nat → Prop) (I : Inv α) (Ix : Code → Inv α) (hR : ∀ k, R k → k < w.heap.size ∧ ¬ O₀ k) (hI : Good I) (hIx : ∀ c, Good (Ix c)) (h0 : I O₀ [] w)
    (hab : ∃ a₁ : α → Act, (∀ (l : Nat) (x : α) (W : World) (K : Act → World → Prop), K (a₁ x) W →
        assign.wpIn (Fence.wide.inRound l) 9 P (Exit.then K (fun _ _ _ => False)) { tmps := (ps.zip (encs x)).foldl (fun t (p, v) => t.setIfInBounds p v) a.tmps, defers := [] } W) ∧
      (∀ (l : Nat) (O : Nat → Prop) (pre : List α) (x : α) (rest : List α) (W : World), xs = pre ++ x :: rest → Turned O₀ w W → Sub O O₀ w.heap.size → I O pre W →
        body.wpIn (Fence.wide.inRound l) 9 P (BodyEnds I Ix O (pre ++ [x]) W) (a₁ x) W))
    (hdone : ∀ (D : Nat) (O : Nat → Prop) (W : World), w.heap.size ≤ D → ¬ O D → Turned O₀ w W → Sub O O₀ w.heap.size → I O xs W → W.heap[D]? = some (.deferred (some [])) →
      Q .normal { a with defers := { target := .collected D, args := #[] } :: a.defers } W)
    (hstop : ∀ (D : Nat) (O : Nat → Prop) (c : Code) (pre rest : List α) (W : World), w.heap.size ≤ D → ¬ O D → Turned O₀ w W → Sub O O₀ w.heap.size → xs = pre ++ rest → Ix c O pre W → W.heap[D]? = some (.deferred (some [])) →
      c.wp P Q { a with defers := { target := .collected D, args := #[] } :: a.defers } W) :
    (Code.rangeFunc g ps assign body).wp P Q a w := by
  obtain ⟨a₁, h1, h2⟩ := hab
  exact wp_range' hg eg hit hps O₀ I Ix hR hI hIx h0 a₁ h1 h2 hdone hstop

/-- A mark of a loop over an iterator. -/
abbrev markOf (D : Nat) : Deferred := { target := .collected D, args := #[] }

theorem leave_marks {F : Fence} {n : Nat} {P : Program} {fn : Func} {tmps : Array Value} {R : Ending → World → Prop} : ∀ (Ds : List Nat) (X : World), (∀ D ∈ Ds, X.heap[D]? = some (.deferred (some []))) → Ds.Nodup →
    (∀ X', Turned (fun k => k ∈ Ds) X X' → ∃ v, (results fn tmps).run P X' = .ok v X' ∧ R (.returned v) X') → LeavesInM F n P fn tmps R (Ds.map markOf) .returning X
  | [], X, _, _, h => h X (Turned.refl _ _)
  | D :: Ds, X, hD, hn, h => by
    have h1 := hD D (List.mem_cons_self ..)
    obtain ⟨hn1, hn2⟩ := List.nodup_cons.1 hn
    refine ⟨by simp, .inl ⟨D, _, rfl, run_takeDeferred h1, leave_marks Ds _ (fun E hE => ?_) hn2 (fun X' hX' => h X' ?_)⟩⟩
    · exact (World.putObj_heap_other (fun e => hn1 (by rw [← e]; exact hE))).trans (hD E (List.mem_cons_of_mem _ hE))
    · exact (Turned.putObj (R := fun k => k = D) X D _ rfl).trans hX' (fun _ e => List.mem_cons.2 (.inl e)) (fun _ _ e => List.mem_cons_of_mem _ e)

end Go.Proofs.Ytbojjpmcopnjpaa

/-! The program's target, spotAt and slots; what slots promises of its rounds ('Iter'). -/
namespace Go.Proofs.Ytbojjpmcopnjpaa
open Go.RowKit Go.Shelf

attribute [local go_sem] Oper.semAt_some

theorem target_p (w : World) (b : Nat) (s : Mst) (x r : Int) (h : PM w b s) (hx : I64 x) (e1 : tgt s x = r) :
    Calls Try.prog 63 #[.pointer (some ⟨b, 0, none⟩), .int .i64 x] w fun e w' => e = .returned (.int .i64 r) ∧ w = w' := by
  have H := hide h
  have HX := hide hx
  obtain ⟨k, hk⟩ : ∃ k, kd x = k := ⟨_, rfl⟩
  obtain ⟨p, hp⟩ : ∃ p, ad x = p := ⟨_, rfl⟩
  have kr := ad_range x
  rw [hp] at kr
  obtain ⟨p0, p1⟩ := kr
  have HK := hide hk
  have HP := hide hp
  by_cases hk4 : k = 4
  · have e3 : Hid (s.look p = r) := hide (by rw [← e1, tgt, if_pos (by rw [hk]; exact hk4), hp])
    subst hk4
    clear h hx hk hp e1
    go_enter Try.func63, Try.ntmps63
    go_wp2_with (fail)
    refine (kk_p _ x 4 HX.out HK.out).mono ?_
    rintro e w' ⟨rfl, rfl⟩
    go_wp2_with (fail)
    refine (ak_p _ x p HX.out HP.out).mono ?_
    rintro e w' ⟨rfl, rfl⟩
    go_wp2_with (fail)
    refine (lk_p _ b s _ r H.out (by first | exact e3.out | simpa using e3.out)).mono ?_
    rintro e w' ⟨rfl, rfl⟩
    go_wp2
    go_ret
    exact ⟨rfl, rfl⟩
  · have e3 : r = x := by rw [← e1, tgt, if_neg (by rw [hk]; exact hk4)]
    have g1 : (k == 4) = false := by simp [hk4]
    have g2 : (k != 4) = true := by simp [hk4]
    subst e3
    clear h hx hk hp e1 hk4
    go_enter Try.func63, Try.ntmps63
    go_wp2_with (fail)
    refine (kk_p _ r k HX.out HK.out).mono ?_
    rintro e w' ⟨rfl, rfl⟩
    go_wp2
    go_ret
    exact ⟨rfl, rfl⟩

theorem spotAt_p (w : World) (b : Nat) (s : Mst) (a r : Int) (h : PM w b s) (ho : s.ok) (e1 : s.logicZ a = r) :
    Calls Try.prog 59 #[.pointer (some ⟨b, 0, none⟩), .int .i64 a] w fun e w' => e = .returned (.agg #[.int .i64 a, .int .i64 r]) ∧ Kept w w' := by
  have H := hide (h.kept (Kept.alloc (Kept.refl w) (.cells #[.int .i64 0, .int .i64 0] 37)))
  have HO := hide ho
  have HE := hide e1
  clear h ho e1
  go_enter Try.func59, Try.ntmps59
  go_wp2_with (fail)
  refine (logic_p _ b s a r H.out HO.out HE.out).mono ?_
  rintro e w' ⟨rfl, rfl⟩
  go_wp2
  refine bodyPost_ret (v := .agg #[.int .i64 a, .int .i64 r]) (by simp [results, Try.results59, go_sem]) rfl ⟨rfl, ?_⟩
  exact Turned.alloc _ _ _

theorem slots_c (w : World) (b : Nat) (x : Int) :
    Calls Try.prog 64 #[.pointer (some ⟨b, 0, none⟩), .int .i64 x] w fun e w' => e = .returned (.func (.func 78) #[] #[.pointer (some ⟨w.heap.size, 0, none⟩), .pointer (some ⟨w.heap.size + 1, 0, none⟩)]) ∧ w' = (w.alloc (.cells #[.pointer (some ⟨b, 0, none⟩)] 22)).alloc (.cells #[.int .i64 x] 2) := by
  go_enter Try.func64, Try.ntmps64
  go_wp2
  go_ret
  exact ⟨rfl, rfl⟩

/-- What slots answers, by letters. -/
theorem slots_k (w : World) (b : Nat) (x : Int) :
    Calls Try.prog 64 #[.pointer (some ⟨b, 0, none⟩), .int .i64 x] w fun e w' => ∃ B1 B2, e = .returned (.func (.func 78) #[] #[.pointer (some ⟨B1, 0, none⟩), .pointer (some ⟨B2, 0, none⟩)]) ∧ Kept w w' ∧ Boxed w' B1 22 (.pointer (some ⟨b, 0, none⟩)) ∧ Boxed w' B2 2 (.int .i64 x) ∧ w.heap.size ≤ B1 ∧ w.heap.size ≤ B2 := by
  refine (slots_c w b x).mono ?_
  rintro e w' ⟨rfl, rfl⟩
  refine ⟨_, _, rfl, ((Kept.refl w).alloc _).alloc _, (Boxed.new w 22 _).alloc _, ?_, Nat.le_refl _, by omega⟩
  have := Boxed.new (w.alloc (.cells #[.pointer (some ⟨b, 0, none⟩)] 22)) 2 (.int .i64 x)
  rwa [World.size_alloc] at this

/-- A round is one at whatever depth, and within another's round. -/
theorem round_any {P : Program} {m m' l l' : Nat} {f : FuncId} {tmps : Array Value} {assign body : Code} {w : World} {Q : Ending → World → Prop} (h : RoundIn Fence.wide m P l f tmps assign body w Q) : RoundIn (Fence.wide.inRound l') m' P l f tmps assign body w Q :=
  ⟨h.1, fun c cs _ => h.2 c cs (fun d hd => by simp [Fence.wide] at hd)⟩

/-- Two numbers as they are handed to a loop's body. -/
abbrev enc2 (x : Int × Int) : Array Value := #[.int .i64 x.1, .int .i64 x.2]
theorem at_split {α : Type} {L : List α} {k : Nat} {p : α} (h : L[k]? = some p) : L = L.take k ++ p :: L.drop (k + 1) ∧ L.take k ++ [p] = L.take (k + 1) := by
  obtain ⟨hk, rfl⟩ := List.getElem?_eq_some_iff.1 h
  refine ⟨?_, ?_⟩
  · rw [List.getElem_cons_drop, List.take_append_drop]
  · rw [List.take_succ_eq_append_getElem hk]
theorem slotsL_none {s : Mst} {x : Int} (h : kd (tgt s x) ≠ 3) : slotsL s x = [] := by unfold slotsL; rw [if_neg h]
theorem slotsL_len {s : Mst} {x : Int} (h : kd (tgt s x) = 3) : (slotsL s x).length = degN s x := by unfold slotsL; rw [if_pos h]; simp
theorem slotsL_at {s : Mst} {x : Int} (h : kd (tgt s x) = 3) {k : Nat} (hk : k < degN s x) : (slotsL s x)[k]? = some ((k : Int), childS (atN s x) (degN s x) k) := by
  unfold slotsL
  rw [if_pos h, List.getElem?_map, List.getElem?_range hk]
  rfl

/-- What a loop over slots reads: all that lay at w, and the two boxes. -/
def SlotR (w : World) (B1 B2 : Nat) : Nat → Prop := fun k => k < w.heap.size ∨ k = B1 ∨ k = B2

set_option maxHeartbeats 1000000 in
theorem slots_i (w W : World) (hk : Kept w W) (b : Nat) (s : Mst) (hM : PM w b s) (ho : s.ok) (x : Int) (hx : WfH s x) (B1 B2 : Nat) (h1 : Boxed W B1 22 (.pointer (some ⟨b, 0, none⟩))) (h2 : Boxed W B2 2 (.int .i64 x)) :
    Iter Try.prog 78 #[.pointer (some ⟨B1, 0, none⟩), .pointer (some ⟨B2, 0, none⟩)] enc2 (slotsL s x) (SlotR w B1 B2) W := by
  intro l O₀ J Jx hR gJ gJx hY h0
  have hkA : ∀ A, Turned O₀ W A → Kept w A := fun A t => Turned.trans hk t (fun _ e => e) (fun i hi e => hR i (.inl hi) e)
  have hcm : ∀ A, Turned O₀ W A → A.cell? ⟨B1, 0, none⟩ = some (.pointer (some ⟨b, 0, none⟩)) := fun A t => t.cell h1.cell (hR B1 (.inr (.inl rfl)))
  have c1 := h1.cell
  have c2 := h2.cell
  have HM := hide hM
  have HM0 := hide (hM.kept hk)
  have HO := hide ho
  have HX := hide hx
  have HY := hide hY
  have HK := hide hkA
  have HC := hide hcm
  have H0 := hide h0
  obtain ⟨t, ht⟩ : ∃ t, tgt s x = t := ⟨_, rfl⟩
  have HT := hide ht
  have HTI : Hid (I64 t) := hide (by rw [← ht]; exact tgt_i64 ho hx.i64)
  by_cases k3 : kd t = 3
  · obtain ⟨p, hp⟩ : ∃ p, ad t = p := ⟨_, rfl⟩
    have pr := ad_range t
    rw [hp] at pr
    obtain ⟨a, rfl⟩ : ∃ a : Nat, p = (a : Int) := ⟨p.toNat, by omega⟩
    have a2 : (a : Int) ≤ 65536 := pr.2
    have hd := hx.deg (by rw [ht]; exact k3)
    rw [ht, hp] at hd
    obtain ⟨d, hd'⟩ : ∃ d : Nat, s.look (a : Int) = (d : Int) := ⟨(s.look a).toNat, by omega⟩
    rw [hd'] at hd
    obtain ⟨d2, d3⟩ := hd
    have HP := hide hp
    have HD := hide hd'
    have eA : atN s x = a := by unfold atN; rw [ht, hp]; omega
    have eD : degN s x = d := by unfold degN; rw [ht, hp, hd']; omega
    have K3 := hide k3
    have HLA : Hid (∀ k, k < d → (slotsL s x)[k]? = some ((k : Int), childS a d k)) := hide (fun k hk => by
      have := slotsL_at (s := s) (x := x) (by rw [ht]; exact k3) (k := k) (by rw [eD]; exact hk)
      rwa [eA, eD] at this)
    have HLL : Hid ((slotsL s x).length = d) := hide (by rw [slotsL_len (by rw [ht]; exact k3), eD])
    clear hM ho hx hY hkA hcm h0 ht k3 hp pr hd' h1 h2 hk hR eA eD
    refine (callsIn_wide (n := 10)).1 ?_
    refine callsIn_of_wp Try.func78 rfl trivial ?_ rfl
    simp only [Try.ntmps78, List.size_toArray, List.length_cons, List.length_nil, Nat.reduceAdd, Nat.reduceSub, Array.replicate_succ, Array.replicate_zero, List.push_toArray, List.append_toArray, List.nil_append, List.cons_append]
    gi_wp2_with (fail)
    refine ⟨trivial, ?_⟩
    refine (callsIn_wide.2 (target_p _ b s x t HM0.out HX.out.i64 HT.out)).mono ?_
    rintro e w' ⟨rfl, rfl⟩
    gi_wp2_with (fail)
    refine ⟨trivial, ?_⟩
    refine (callsIn_wide.2 (kk_p _ t 3 HTI.out K3.out)).mono ?_
    rintro e w' ⟨rfl, rfl⟩
    gi_wp2_with (fail)
    refine ⟨trivial, ?_⟩
    refine (callsIn_wide.2 (ak_p _ t a HTI.out HP.out)).mono ?_
    rintro e w' ⟨rfl, rfl⟩
    gi_wp2_with (fail)
    refine ⟨trivial, ?_⟩
    refine (callsIn_wide.2 (lk_p _ b s _ d HM0.out (by first | exact HD.out | simpa using HD.out))).mono ?_
    rintro e w' ⟨rfl, rfl⟩
    gi_wp2
    gi_loopw [21] (fun i wr => ∃ (k : Nat) (O : Nat → Prop), k ≤ d ∧ i = .int .i64 (k : Int) ∧ Hid (Sub O O₀ W.heap.size) ∧ Hid (Turned O₀ W wr) ∧ Hid (J O ((slotsL s x).take k) wr)) (fun i _ => d - (intOf i).toNat)
    case atStart => exact ⟨0, O₀, by omega, by simp, hide (Sub.refl _ _), hide (Turned.refl _ _), hide (by simpa using H0.out)⟩
    case round =>
      obtain ⟨k, O, hk, rfl, HS, HTT, HJ⟩ := hrel
      by_cases hkn : k < d
      · have j1 : (k : Int) < (d : Int) := by omega
        have hcz := hide (childZ_in (n := a) (d := (d : Int)) (i := k) (by omega) (by omega) (by omega) (by omega) (by omega) (by omega))
        obtain ⟨q1, q2⟩ := at_split (HLA.out k hkn)
        obtain ⟨fn, tmps, assign, body, hy, hRd⟩ := HY.out O ((slotsL s x).take k) ((k : Int), childS a d k) _ wr q1 HTT.out HS.out HJ.out
        rw [q2] at hRd
        have Q1 := hide q1
        have HRd := hide hRd
        dsimp only [enc2, childS] at hy
        clear q1 q2 hRd
        gi_wp2_with (fail)
        refine ⟨trivial, ?_⟩
        refine (callsIn_wide.2 (child_c _ a d k _ hcz.out)).mono ?_
        rintro e w' ⟨rfl, rfl⟩
        gi_wp2_with (fail)
        refine HRd.out.mono ?_
        rintro e W3 ⟨O', hs3, ht3, ⟨rfl, hj3⟩ | ⟨rfl, hj3⟩⟩
        · have S3 := hide (hs3.trans HS.out HTT.out.size)
          have T3 := hide (HTT.out.sub ht3 HS.out)
          have J3 := hide hj3
          clear hs3 ht3 hj3 hy HRd HY
          gi_wp2
          exact ⟨⟨k + 1, O', by omega, by simp, S3, T3, J3⟩, by simp [intOf]; omega⟩
        · have S3 := hide (hs3.trans HS.out HTT.out.size)
          have T3 := hide (HTT.out.sub ht3 HS.out)
          have J3 := hide hj3
          clear hs3 ht3 hj3 hy HRd HY
          gi_wp2
          refine bodyPost_ret (results_none rfl _ _ _) rfl ?_
          exact ⟨⟨_, rfl⟩, O', S3.out, T3.out, .inr ⟨_, (slotsL s x).drop (k + 1), (List.take_append_drop _ _).symm, J3.out⟩⟩
      · have hkn' : k = d := by omega
        subst hkn'
        have j1 : ¬ ((k : Int) < (k : Int)) := by omega
        gi_wp2
        go_end0
        exact ⟨⟨_, rfl⟩, O, HS.out, HTT.out, .inl (by have := HJ.out; rwa [List.take_of_length_le (by rw [HLL.out]; omega)] at this)⟩
  · obtain ⟨j, hj⟩ : ∃ j, kd t = j := ⟨_, rfl⟩
    have j3 : j ≠ 3 := by rw [← hj]; exact k3
    have HJJ := hide hj
    have g1 : (j == 3) = false := by simp [j3]
    have g2 : (j != 3) = true := by simp [j3]
    have HE := hide (slotsL_none (s := s) (x := x) (by rw [ht]; exact k3))
    clear hM ho hx hY hkA hcm h0 ht k3 h1 h2 hk hR hj j3
    refine (callsIn_wide (n := 10)).1 ?_
    refine callsIn_of_wp Try.func78 rfl trivial ?_ rfl
    simp only [Try.ntmps78, List.size_toArray, List.length_cons, List.length_nil, Nat.reduceAdd, Nat.reduceSub, Array.replicate_succ, Array.replicate_zero, List.push_toArray, List.append_toArray, List.nil_append, List.cons_append]
    gi_wp2_with (fail)
    refine ⟨trivial, ?_⟩
    refine (callsIn_wide.2 (target_p _ b s x t HM0.out HX.out.i64 HT.out)).mono ?_
    rintro e w' ⟨rfl, rfl⟩
    gi_wp2_with (fail)
    refine ⟨trivial, ?_⟩
    refine (callsIn_wide.2 (kk_p _ t j HTI.out HJJ.out)).mono ?_
    rintro e w' ⟨rfl, rfl⟩
    gi_wp2
    refine bodyPost_ret (results_none rfl _ _ _) rfl ?_
    exact ⟨⟨_, rfl⟩, O₀, Sub.refl _ _, Turned.refl _ _, .inl (by rw [HE.out]; exact H0.out)⟩
end Go.Proofs.Ytbojjpmcopnjpaa

/-! The program's goBelow, spots and below: what they promise of their rounds. -/
namespace Go.Proofs.Ytbojjpmcopnjpaa
open Go.RowKit Go.Shelf

attribute [local go_sem] Oper.semAt_some

/-- A spot as it is handed to a loop's body. -/
abbrev encS (x : Int × Int) : Array Value := #[.agg #[.int .i64 x.1, .int .i64 x.2]]
/-- How a walk over a part of a tree ends. -/
def Rose (J Jx : Inv (Int × Int)) (O : Nat → Prop) (A : World) (xs pre' : List (Int × Int)) (e : Ending) (A' : World) : Prop :=
  ∃ O', Sub O' O A.heap.size ∧ Turned O A A' ∧ ((e = .returned (.bool true) ∧ J O' pre' A') ∨ (e = .returned (.bool false) ∧ ∃ p r, xs = p ++ r ∧ Jx O' p A'))
/-- What a body's rounds promise. -/
def Rounds (l : Nat) (O₀ : Nat → Prop) (J Jx : Inv (Int × Int)) (W : World) (xs : List (Int × Int)) : Prop :=
  ∀ O pre x rest A, xs = pre ++ x :: rest → Turned O₀ W A → Sub O O₀ W.heap.size → J O pre A → YieldAt Fence.wide 9 Try.prog l (encS x) A (RoundEnds J Jx O (pre ++ [x]) A)

/-- What goes through one slot. -/
def oneF (s : Mst) (f : Nat) (p : Int × Int) : List (Int × Int) := (p.2, s.logicZ p.2) :: spotsF s f (s.logicZ p.2)
theorem spotsF_succ (s : Mst) (f : Nat) (x : Int) : spotsF s (f + 1) x = (slotsL s x).flatMap (oneF s f) := rfl

/-- The inner loop's invariant: the outer one's, and the cell of the result. -/
def Mid (J : Inv (Int × Int)) (pre : List (Int × Int)) (F : Int × Int → List (Int × Int)) (n : Nat) : Inv (Int × Int) := fun OO pre' A =>
  ∃ O, (∀ k, OO k ↔ O k ∨ k = n) ∧ ¬ O n ∧ J O (pre ++ pre'.flatMap F) A ∧ Boxed A n 4 (.bool false)
def MidX (Jx : Inv (Int × Int)) (xs : List (Int × Int)) (n : Nat) : Inv (Int × Int) := fun OO _ A =>
  ∃ O p r, (∀ k, OO k ↔ O k ∨ k = n) ∧ ¬ O n ∧ xs = p ++ r ∧ Jx O p A ∧ Boxed A n 4 (.bool false)
theorem Mid.good {J : Inv (Int × Int)} (h : Good J) (pre : List (Int × Int)) (F : Int × Int → List (Int × Int)) (n : Nat) : Good (Mid J pre F n) := by
  constructor
  · rintro OO pre' A B ⟨O, e, h1, hj, hb⟩ ht
    exact ⟨O, e, h1, h.abides _ _ _ _ hj (ht.mono fun k _ hk hn => hk ((e k).2 (.inl hn))), ht.boxed hb (fun hn => hn ((e n).2 (.inr rfl)))⟩
  · rintro OO pre' A ⟨O, e, _, hj, hb⟩ k hk
    rcases (e k).1 hk with hk | rfl
    · exact h.within _ _ _ hj k hk
    · exact hb.lt
theorem MidX.good {Jx : Inv (Int × Int)} (h : Good Jx) (xs : List (Int × Int)) (n : Nat) : Good (MidX Jx xs n) := by
  constructor
  · rintro OO pre' A B ⟨O, p, r, e, h1, hx, hj, hb⟩ ht
    exact ⟨O, p, r, e, h1, hx, h.abides _ _ _ _ hj (ht.mono fun k _ hk hn => hk ((e k).2 (.inl hn))), ht.boxed hb (fun hn => hn ((e n).2 (.inr rfl)))⟩
  · rintro OO pre' A ⟨O, p, r, e, _, _, hj, hb⟩ k hk
    rcases (e k).1 hk with hk | rfl
    · exact h.within _ _ _ hj k hk
    · exact hb.lt
theorem Sub.more {O' O : Nat → Prop} {n m : Nat} (h : Sub O' O m) (k : n ≤ m) : Sub O' O n := fun i hi => (h i hi).imp id (fun e => Nat.le_trans k e)
theorem good_if {J : Inv (Int × Int)} (h : Good J) (c d : Code) : Good (fun O pre A => c = d ∧ J O pre A) :=
  ⟨fun _ _ _ _ hj ht => ⟨hj.1, h.abides _ _ _ _ hj.2 ht⟩, fun _ _ _ hj => h.within _ _ _ hj.2⟩

set_option maxHeartbeats 2000000 in
theorem goBelow_p {w W : World} (hk : Kept w W) {b : Nat} {s : Mst} (hM : PM w b s) (ho : s.ok) {l : Nat} {O₀ : Nat → Prop} {J Jx : Inv (Int × Int)} (gJ : Good J) (gJx : Good Jx) {xs : List (Int × Int)} (hN : ∀ k, k < w.heap.size → ¬ O₀ k) (hY : Rounds l O₀ J Jx W xs) :
    ∀ (f : Nat) (x : Int) (pre rest : List (Int × Int)) (O : Nat → Prop) (A : World), Wf s f x → xs = pre ++ (spotsF s f x ++ rest) → Turned O₀ W A → Sub O O₀ W.heap.size → J O pre A →
    Calls Try.prog 60 #[.pointer (some ⟨b, 0, none⟩), .int .i64 x, .func (.yield l) #[] #[]] A (Rose J Jx O A xs (pre ++ spotsF s f x))
  | 0, _, _, _, _, _, h, _, _, _, _ => h.elim
  | f + 1, x, pre, rest, O, A, hw, hx, hA, hO, hj => by
    have ih := goBelow_p hk hM ho gJ gJx hN hY f
    obtain ⟨hwh, hwk⟩ := hw
    rw [spotsF_succ] at hx ⊢
    have hkA : Kept w A := Turned.trans hk hA (fun _ e => e) (fun i hi e => hN i hi e)
    have hw0 := gJ.within _ _ _ hj
    have hk_size := hk.size
    have HM := hide hM
    have HO := hide ho
    have HY := hide hY
    have IH := hide ih
    have HX := hide hx
    have HWK := hide hwk
    have HWH := hide hwh
    have HA := hide hA
    have HSO := hide hO
    have HKA := hide hkA
    have HJ := hide hj
    have HN := hide hN
    have HW0 := hide hw0
    clear ih hx hwk hwh hA hO hj hkA hw0
    refine calls_marks Try.func60 rfl ?_
    simp only [Try.ntmps60, List.size_toArray, List.length_cons, List.length_nil, Nat.reduceAdd, Nat.reduceSub, Array.replicate_succ, Array.replicate_zero, List.push_toArray, List.append_toArray, List.nil_append, List.cons_append]
    go_wp2_with (fail)
    obtain ⟨n, hn⟩ : ∃ n, A.heap.size = n := ⟨_, rfl⟩
    obtain ⟨W1, hW1⟩ : ∃ W1, ((A.alloc (.cells #[.pointer (some ⟨b, 0, none⟩)] 22)).alloc (.cells #[.func (.yield l) #[] #[]] 85)).alloc (.cells #[.bool false] 4) = W1 := ⟨_, rfl⟩
    have z1 : W1.heap.size = n + 3 := by rw [← hW1]; simp [hn]
    have t1 : Kept A W1 := by
      rw [← hW1]
      exact (((Kept.refl A).alloc _).alloc _).alloc _
    have bx : ∀ (X : World) (T : TypeId) (v : Value) (m : Nat), X.heap.size = m → Boxed (X.alloc (.cells #[v] T)) m T v := fun X T v m e => by rw [← e]; exact Boxed.new X T v
    have bM : Boxed W1 n 22 (.pointer (some ⟨b, 0, none⟩)) := by
      rw [← hW1]; exact ((bx A 22 _ n hn).alloc _).alloc _
    have bY : Boxed W1 (n + 1) 85 (.func (.yield l) #[] #[]) := by
      rw [← hW1]; exact (bx _ 85 _ (n + 1) (by simp [hn])).alloc _
    have bR : Boxed W1 (n + 2) 4 (.bool false) := by
      rw [← hW1]; exact bx _ 4 _ (n + 2) (by simp [hn])
    rw [hW1, hn]
    clear hW1 bx
    refine (slots_k W1 b x).mono ?_
    rintro e W2 ⟨B1, B2, rfl, t2, b3, b4, l3, l4⟩
    have HN0 : Hid (A.heap.size = n) := hide hn
    have KA2 := hide (t1.trans t2)
    have KW2 := hide (HKA.out.trans KA2.out)
    have BM := hide (t2.boxed bM id)
    have BY := hide (t2.boxed bY id)
    have BR := hide (t2.boxed bR id)
    have B3 := hide b3
    have B4 := hide b4
    have Z2 : Hid (n + 3 ≤ W2.heap.size) := hide (by have := t2.size; omega)
    have L3 : Hid (n + 3 ≤ B1 ∧ n + 3 ≤ B2) := hide (by omega)
    have HJ2 : Hid (J O pre W2) := hide (gJ.abides _ _ _ _ HJ.out (KA2.out.mono fun _ _ h => h.elim))
    have hOn : ∀ k, O k → k < n := fun k hk => by have := HW0.out k hk; have := HN0.out; omega
    have HON := hide hOn
    clear hn z1 t1 bM bY bR t2 b3 b4 l3 l4 hOn
    go_wp2_with (fail)
    refine wp_range2 (gf := 78) rfl (enters_of Try.func78 (by kernel_rfl) rfl) (encs := enc2) (xs := slotsL s x) (R := SlotR w B1 B2)
      (fun X hX => slots_i w X (KW2.out.trans hX) b s HM.out HO.out x HWH.out B1 B2 (hX.boxed B3.out id) (hX.boxed B4.out id)) (fun _ => rfl)
      (fun k => O k ∨ k = n + 2) (Mid J pre (oneF s f) (n + 2)) (fun c OO pre' A' => c = .ret ∧ MidX Jx xs (n + 2) OO pre' A') ?hR (Mid.good gJ _ _ _) (fun c => good_if (MidX.good gJx _ _) c .ret)
      ⟨O, fun _ => Iff.rfl, fun h => by have := HON.out _ h; omega, by simpa using HJ2.out, BR.out⟩ ?ab ?done ?stop
    case hR =>
      rintro k (hk | rfl | rfl)
      · have h1 := KW2.out.size
        have h2 := HKA.out.size
        have h3 := HN0.out
        refine ⟨by omega, ?_⟩
        rintro (h | rfl)
        · rcases HSO.out k h with h | h
          · exact HN.out k hk h
          · have := hk_size; omega
        · omega
      · have h1 := B3.out.lt
        have h2 := L3.out
        refine ⟨h1, ?_⟩
        rintro (h | h)
        · have := HON.out _ h; omega
        · omega
      · have h1 := B4.out.lt
        have h2 := L3.out
        refine ⟨h1, ?_⟩
        rintro (h | h)
        · have := HON.out _ h; omega
        · omega
    case ab =>
      apply Exists.intro
      refine ⟨?_, ?_⟩
      · intro l' p X K hK
        gi_wp2
        exact hK
      · rintro l' OO pre' ⟨pi, sl⟩ rest' B hx' tB sB ⟨Oi, eO, nO, jB, rB⟩
        obtain ⟨y, hy⟩ : ∃ y, s.logicZ sl = y := ⟨_, rfl⟩
        have HYY := hide hy
        have hwf : Wf s f y := by
          have := HWK.out (pi, sl) (by rw [hx']; simp)
          rwa [hy] at this
        have HWF := hide hwf
        have hone : oneF s f (pi, sl) = (sl, y) :: spotsF s f y := by rw [oneF, hy]
        have HX1 : Hid (xs = (pre ++ pre'.flatMap (oneF s f)) ++ (sl, y) :: (spotsF s f y ++ (rest'.flatMap (oneF s f) ++ rest))) := hide (by
          rw [HX.out, hx', List.flatMap_append, List.flatMap_cons, hone]; simp)
        have HONE := hide hone
        have zA := HN0.out
        have zW := HA.out.size
        have nOn : ∀ k, n ≤ k → k ≠ n + 2 → ¬ (O k ∨ k = n + 2) := fun k h1 h2 h => by
          rcases h with h | h
          · have := HON.out _ h; omega
          · exact h2 h
        have cM := tB.cell BM.out.cell (nOn n (by omega) (by omega))
        have cY := tB.cell BY.out.cell (nOn (n + 1) (by omega) (by omega))
        have low : ∀ i, i < W.heap.size → (O i ∨ i = n + 2) → O₀ i := fun i hi h => by
          rcases h with h | h
          · rcases HSO.out i h with h | h
            · exact h
            · omega
          · omega
        have TAB : Hid (Turned O₀ W B) := hide (Turned.trans (Kept.behind HA.out KA2.out) tB (fun _ e => e) low)
        have KB : Hid (Kept w B) := hide (Turned.trans KW2.out tB (fun _ e => e) (fun i hi h => HN.out i hi (low i (by omega) h)))
        have SAB : Hid (Sub Oi O₀ W.heap.size) := hide (fun k hk => by
          rcases sB k ((eO k).2 (.inl hk)) with (h | h) | h
          · exact HSO.out k h
          · exact .inr (by omega)
          · exact .inr (by have := KA2.out.size; omega))
        have NOI : Hid (∀ k, n ≤ k → k < n + 2 → ¬ Oi k) := hide (fun k h1 h2 hk => by
          rcases sB k ((eO k).2 (.inl hk)) with (h | h) | h
          · have := HON.out _ h; omega
          · omega
          · have := Z2.out; omega)
        have MB := hide (HM.out.kept KB.out)
        have inB := gJ.within _ _ _ jB
        have INB := hide inB
        have JB := hide jB
        have RB := hide rB
        have EO := hide eO
        have NO := hide nO
        have ltM := BM.out.lt
        have zB := tB.size
        have LTN : Hid (n + 3 ≤ B.heap.size) := hide (by have := Z2.out; omega)
        clear hy hwf hone hx' tB sB jB rB eO nO nOn low inB ltM zB zA zW
        gi_wp2_with (fail)
        refine ⟨trivial, ?_⟩
        refine (CallsIn.inRound l' (callsIn_wide.2 (spotAt_p _ b s sl y MB.out HO.out HYY.out))).mono ?_
        rintro e C ⟨rfl, kC⟩
        have KC := hide (Kept.alloc kC (.cells #[.int .i64 sl, .int .i64 y] 37))
        have cq0 : (C.alloc (.cells #[.int .i64 sl, .int .i64 y] 37)).heap[C.heap.size]? = some (.cells #[.int .i64 sl, .int .i64 y] 37) := heap_new _ _
        have CQ := hide cq0
        have ZC := hide kC.size
        have cM2 := KC.out.cell cM id
        have cY2 := KC.out.cell cY id
        have jC := gJ.abides _ _ _ _ JB.out (KC.out.mono fun _ _ h => h.elim)
        obtain ⟨fn, tmps, assign, body, hyy, hRd⟩ := HY.out Oi (pre ++ pre'.flatMap (oneF s f)) (sl, y) _ _ HX1.out (Kept.behind TAB.out KC.out) SAB.out jC
        have hRd' := fun m => round_any (m' := m) (l' := l') hRd
        dsimp only [encS] at hyy
        clear hRd kC jC cq0
        gi_wp2
        refine (hRd' _).mono ?_
        rintro e E ⟨O3, s3, t3, ⟨rfl, j3⟩ | ⟨rfl, j3⟩⟩
        · have nC : ¬ Oi C.heap.size := fun h => by have := INB.out _ h; have := ZC.out; omega
          have cM3 := t3.cell cM2 (NOI.out n (by omega) (by omega))
          have cY3 := t3.cell cY2 (NOI.out (n + 1) (by omega) (by omega))
          have cq := t3.heap CQ.out nC
          have cq1 : E.cell? ⟨C.heap.size, 1, none⟩ = some (.int .i64 y) := by simp [World.cell?, cq]
          have TAC : Hid (Turned O₀ W (C.alloc (.cells #[.int .i64 sl, .int .i64 y] 37))) := hide (Kept.behind TAB.out KC.out)
          have T3 := hide (TAC.out.sub t3 SAB.out)
          have S3 := hide (s3.trans SAB.out TAC.out.size)
          have TB3 := hide (Kept.then KC.out t3)
          have SB3 := hide (s3.more KC.out.size)
          have N3 : Hid (¬ O3 (n + 2)) := hide (fun h => by
            rcases s3 _ h with h | h
            · exact NO.out h
            · have h1 := LTN.out; have h2 := KC.out.size; omega)
          have R3 : Hid (Boxed E (n + 2) 4 (.bool false)) := hide (t3.boxed (KC.out.boxed RB.out id) NO.out)
          have HX2 : Hid (xs = (pre ++ pre'.flatMap (oneF s f)) ++ [(sl, y)] ++ (spotsF s f y ++ (rest'.flatMap (oneF s f) ++ rest))) := hide (by rw [HX1.out]; simp)
          have J3 := hide j3
          clear s3 t3 j3 cq hyy hRd' cM2 cY2 cM cY nC
          gi_wp2_with (fail)
          refine ⟨trivial, ?_⟩
          refine (CallsIn.inRound l' (callsIn_wide.2 (IH.out y _ _ O3 E HWF.out HX2.out T3.out S3.out J3.out))).mono ?_
          rintro e G ⟨O4, s4, t4, ⟨rfl, j4⟩ | ⟨rfl, p4, r4, hx4, j4⟩⟩
          · have F4 : Hid (∃ O', Sub O' OO B.heap.size ∧ Turned OO B G ∧ Mid J pre (oneF s f) (n + 2) O' (pre' ++ [(pi, sl)]) G) := hide (by
              refine ⟨fun k => O4 k ∨ k = n + 2, ?_, ?_, O4, fun _ => Iff.rfl, ?_, ?_, ?_⟩
              · rintro k (h | rfl)
                · rcases s4 k h with h | h
                  · rcases SB3.out k h with h | h
                    · exact .inl ((EO.out k).2 (.inl h))
                    · exact .inr h
                  · exact .inr (by have := TB3.out.size; omega)
                · exact .inl ((EO.out _).2 (.inr rfl))
              · exact (TB3.out.sub t4 SB3.out).mono (fun k _ h => (EO.out k).2 (.inl h))
              · intro h
                rcases s4 _ h with h | h
                · exact N3.out h
                · have h1 := LTN.out; have h2 := TB3.out.size; omega
              · have : pre ++ List.flatMap (oneF s f) (pre' ++ [(pi, sl)]) = pre ++ pre'.flatMap (oneF s f) ++ [(sl, y)] ++ spotsF s f y := by
                  rw [List.flatMap_append, List.flatMap_cons, HONE.out]; simp
                rw [this]
                exact j4
              · exact t4.boxed R3.out N3.out)
            clear s4 t4 j4
            gi_wp2
            exact F4.out
          · have F4 : Hid (∃ O', Sub O' OO B.heap.size ∧ Turned OO B (G.setCell ⟨n + 2, 0, none⟩ (.bool false)) ∧ MidX Jx xs (n + 2) O' (pre' ++ [(pi, sl)]) (G.setCell ⟨n + 2, 0, none⟩ (.bool false))) := hide (by
              have n4 : ¬ O4 (n + 2) := by
                intro h
                rcases s4 _ h with h | h
                · exact N3.out h
                · have h1 := LTN.out; have h2 := TB3.out.size; omega
              have tS : Turned (fun k => k = n + 2) G (G.setCell ⟨n + 2, 0, none⟩ (.bool false)) := Turned.setCell _ _ _ rfl
              refine ⟨fun k => O4 k ∨ k = n + 2, ?_, ?_, O4, p4, r4, fun _ => Iff.rfl, n4, hx4, ?_, ?_⟩
              · rintro k (h | rfl)
                · rcases s4 k h with h | h
                  · rcases SB3.out k h with h | h
                    · exact .inl ((EO.out k).2 (.inl h))
                    · exact .inr h
                  · exact .inr (by have := TB3.out.size; omega)
                · exact .inl ((EO.out _).2 (.inr rfl))
              · exact ((TB3.out.sub t4 SB3.out).mono (fun k _ h => (EO.out k).2 (.inl h))).trans tS (fun _ h => h) (fun k _ h => (EO.out k).2 (.inr h))
              · exact gJx.abides _ _ _ _ j4 (tS.mono fun k _ h hO => n4 (by rw [← h]; exact hO))
              · exact (t4.boxed R3.out N3.out).set _)
            have c6 := (t4.boxed R3.out N3.out).cell
            have f6 := (t4.boxed R3.out N3.out).frozen
            clear s4 t4 j4 hx4
            gi_wp2
            obtain ⟨O', q1, q2, q3⟩ := F4.out
            exact ⟨O', q1, q2, rfl, q3⟩
        · have N3 : Hid (¬ O3 (n + 2)) := hide (fun h => by
            rcases s3 _ h with h | h
            · exact NO.out h
            · have h1 := LTN.out; have h2 := KC.out.size; omega)
          have R3 : Hid (Boxed E (n + 2) 4 (.bool false)) := hide (t3.boxed (KC.out.boxed RB.out id) NO.out)
          have F4 : Hid (∃ O', Sub O' OO B.heap.size ∧ Turned OO B (E.setCell ⟨n + 2, 0, none⟩ (.bool false)) ∧ MidX Jx xs (n + 2) O' (pre' ++ [(pi, sl)]) (E.setCell ⟨n + 2, 0, none⟩ (.bool false))) := hide (by
            have tS : Turned (fun k => k = n + 2) E (E.setCell ⟨n + 2, 0, none⟩ (.bool false)) := Turned.setCell _ _ _ rfl
            refine ⟨fun k => O3 k ∨ k = n + 2, ?_, ?_, O3, _, _, fun _ => Iff.rfl, N3.out, (show xs = (pre ++ pre'.flatMap (oneF s f) ++ [(sl, y)]) ++ (spotsF s f y ++ (rest'.flatMap (oneF s f) ++ rest)) by rw [HX1.out]; simp), ?_, ?_⟩
            · rintro k (h | rfl)
              · rcases s3 k h with h | h
                · exact .inl ((EO.out k).2 (.inl h))
                · exact .inr (by have := KC.out.size; omega)
              · exact .inl ((EO.out _).2 (.inr rfl))
            · exact ((Kept.then KC.out t3).mono (fun k _ h => (EO.out k).2 (.inl h))).trans tS (fun _ h => h) (fun k _ h => (EO.out k).2 (.inr h))
            · exact gJx.abides _ _ _ _ j3 (tS.mono fun k _ h hO => N3.out (by rw [← h]; exact hO))
            · exact R3.out.set _)
          have c6 := R3.out.cell
          have f6 := R3.out.frozen
          clear s3 t3 j3 hyy hRd' cM2 cY2 cM cY
          gi_wp2
          refine ⟨trivial, ?_⟩
          gi_wp2
          obtain ⟨O', q1, q2, q3⟩ := F4.out
          exact ⟨O', q1, q2, rfl, q3⟩
    case done =>
      rintro D OO X hD nD tX sX ⟨Oi, eO, nO, jX, rX⟩ hK
      have nD2 : ¬ (O D ∨ D = n + 2) := by
        rintro (h | h)
        · have := HON.out _ h; have := Z2.out; omega
        · have := Z2.out; omega
      have zX := tX.size
      have zA := HN0.out
      have RX := hide rX
      have c6 := rX.cell
      have f6 := rX.frozen
      have tS : Turned (fun k => k = n + 2) X (X.setCell ⟨n + 2, 0, none⟩ (.bool true)) := Turned.setCell _ _ _ rfl
      have hK2 : Hid ((X.setCell ⟨n + 2, 0, none⟩ (.bool true)).heap[D]? = some (.deferred (some []))) := hide (tS.heap hK (fun e => nD2 (.inr e)))
      have nOD : ¬ Oi D := fun h => nD ((eO D).2 (.inl h))
      have FIN : Hid (∀ X', Turned (fun k => k ∈ [D]) (X.setCell ⟨n + 2, 0, none⟩ (.bool true)) X' → X'.cell? ⟨n + 2, 0, none⟩ = some (.bool true) ∧ Rose J Jx O A xs (pre ++ List.flatMap (oneF s f) (slotsL s x)) (.returned (.bool true)) X') := hide (fun X' hX' => by
        have hDn : n + 2 ∉ [D] := by simp; intro e; exact nD2 (.inr e.symm)
        refine ⟨hX'.cell (rX.set (.bool true)).cell hDn, Oi, ?_, ?_, ?_⟩
        · intro k hk
          rcases sX k ((eO k).2 (.inl hk)) with (h | rfl) | h
          · exact .inl h
          · exact absurd hk nO
          · exact .inr (by have := KA2.out.size; omega)
        · have t0 : Turned O A X := Turned.trans KA2.out tX (fun _ h => h.elim) (fun k hk h => by
            rcases h with h | h
            · exact h
            · omega)
          exact (t0.trans tS (fun _ h => h) (fun k hk h => by omega)).trans hX' (fun _ h => h) (fun k hk h => by simp at h; have := Z2.out; omega)
        · have tj : Turned (fun k => ¬ Oi k) X X' := (tS.mono (R' := fun k => ¬ Oi k) (fun k _ h hO => nO (by rw [← h]; exact hO))).trans hX' (fun _ h => h) (fun k _ h hO => nOD (by simp at h; rw [← h]; exact hO))
          exact .inl ⟨rfl, gJ.abides _ _ _ _ jX tj⟩)
      clear hK rX tS tX sX jX eO nO nD nOD
      go_wp2
      refine leave_marks [D] _ ?_ ?_ ?_
      · intro k hk
        simp at hk
        rw [hk]
        exact hK2.out
      · simp
      · intro X' hX'
        obtain ⟨q1, q2⟩ := FIN.out X' hX'
        exact ⟨.bool true, by simp [results, Try.results60, go_sem, q1], q2⟩
    case stop =>
      rintro D OO c pre' rest' X hD nD tX sX hx' ⟨rfl, Oi, p, r, eO, nO, hxx, jX, rX⟩ hK
      have nD2 : ¬ (O D ∨ D = n + 2) := by
        rintro (h | h)
        · have := HON.out _ h; have := Z2.out; omega
        · have := Z2.out; omega
      have zX := tX.size
      have zA := HN0.out
      have RX := hide rX
      have c6 := rX.cell
      have f6 := rX.frozen
      have tS : Turned (fun k => k = n + 2) X X := Turned.refl _ _
      have hK2 : Hid ((X).heap[D]? = some (.deferred (some []))) := hide (tS.heap hK (fun e => nD2 (.inr e)))
      have nOD : ¬ Oi D := fun h => nD ((eO D).2 (.inl h))
      have FIN : Hid (∀ X', Turned (fun k => k ∈ [D]) (X) X' → X'.cell? ⟨n + 2, 0, none⟩ = some (.bool false) ∧ Rose J Jx O A xs (pre ++ List.flatMap (oneF s f) (slotsL s x)) (.returned (.bool false)) X') := hide (fun X' hX' => by
        have hDn : n + 2 ∉ [D] := by simp; intro e; exact nD2 (.inr e.symm)
        refine ⟨hX'.cell rX.cell hDn, Oi, ?_, ?_, ?_⟩
        · intro k hk
          rcases sX k ((eO k).2 (.inl hk)) with (h | rfl) | h
          · exact .inl h
          · exact absurd hk nO
          · exact .inr (by have := KA2.out.size; omega)
        · have t0 : Turned O A X := Turned.trans KA2.out tX (fun _ h => h.elim) (fun k hk h => by
            rcases h with h | h
            · exact h
            · omega)
          exact (t0.trans tS (fun _ h => h) (fun k hk h => by omega)).trans hX' (fun _ h => h) (fun k hk h => by simp at h; have := Z2.out; omega)
        · have tj : Turned (fun k => ¬ Oi k) X X' := (tS.mono (R' := fun k => ¬ Oi k) (fun k _ h hO => nO (by rw [← h]; exact hO))).trans hX' (fun _ h => h) (fun k _ h hO => nOD (by simp at h; rw [← h]; exact hO))
          exact .inr ⟨rfl, p, r, hxx, gJx.abides _ _ _ _ jX tj⟩)
      clear hK rX tS tX sX jX eO nO nD nOD hxx hx'
      go_wp2
      refine leave_marks [D] _ ?_ ?_ ?_
      · intro k hk
        simp at hk
        rw [hk]
        exact hK2.out
      · simp
      · intro X' hX'
        obtain ⟨q1, q2⟩ := FIN.out X' hX'
        exact ⟨.bool false, by simp [results, Try.results60, go_sem, q1], q2⟩
end Go.Proofs.Ytbojjpmcopnjpaa

/-! The program's iterators spots and below, as 'Iter'; what spots and below answer. -/
namespace Go.Proofs.Ytbojjpmcopnjpaa
open Go.RowKit Go.Shelf

attribute [local go_sem] Oper.semAt_some

theorem spots_k (w : World) (b : Nat) :
    Calls Try.prog 32 #[.pointer (some ⟨b, 0, none⟩)] w fun e w' => ∃ B1, e = .returned (.func (.func 58) #[] #[.pointer (some ⟨B1, 0, none⟩)]) ∧ Kept w w' ∧ Boxed w' B1 22 (.pointer (some ⟨b, 0, none⟩)) ∧ w.heap.size ≤ B1 := by
  go_enter Try.func32, Try.ntmps32
  go_wp2
  go_ret
  exact ⟨_, rfl, (Kept.refl w).alloc _, Boxed.new w 22 _, Nat.le_refl _⟩
theorem below_k (w : World) (b : Nat) (x : Int) :
    Calls Try.prog 67 #[.pointer (some ⟨b, 0, none⟩), .int .i64 x] w fun e w' => ∃ B1 B2, e = .returned (.func (.func 84) #[] #[.pointer (some ⟨B1, 0, none⟩), .pointer (some ⟨B2, 0, none⟩)]) ∧ Kept w w' ∧ Boxed w' B1 22 (.pointer (some ⟨b, 0, none⟩)) ∧ Boxed w' B2 2 (.int .i64 x) ∧ w.heap.size ≤ B1 ∧ w.heap.size ≤ B2 := by
  go_enter Try.func67, Try.ntmps67
  go_wp2
  go_ret
  refine ⟨_, _, rfl, ((Kept.refl w).alloc _).alloc _, (Boxed.new w 22 _).alloc _, ?_, Nat.le_refl _, by omega⟩
  have := Boxed.new (w.alloc (.cells #[.pointer (some ⟨b, 0, none⟩)] 22)) 2 (.int .i64 x)
  rwa [World.size_alloc] at this

/-- What a loop over spots reads: all that lay at w, and the box. -/
def SpotR (w : World) (B1 : Nat) : Nat → Prop := fun k => k < w.heap.size ∨ k = B1

/-- Where goBelow has come to its end. -/
theorem Rose.ends {J Jx : Inv (Int × Int)} {O₀ O : Nat → Prop} {W A A' : World} {xs : List (Int × Int)} {e : Ending} (hA : Turned O₀ W A) (hO : Sub O O₀ W.heap.size) (h : Rose J Jx O A xs xs e A') :
    (∃ v, e = .returned (.bool v)) ∧ ∃ O', Sub O' O₀ W.heap.size ∧ Turned O₀ W A' ∧ (J O' xs A' ∨ ∃ pre rest, xs = pre ++ rest ∧ Jx O' pre A') := by
  obtain ⟨O', s', t', ⟨rfl, j⟩ | ⟨rfl, p, r, hx, j⟩⟩ := h
  · exact ⟨⟨_, rfl⟩, O', s'.trans hO hA.size, hA.sub t' hO, .inl j⟩
  · exact ⟨⟨_, rfl⟩, O', s'.trans hO hA.size, hA.sub t' hO, .inr ⟨p, r, hx, j⟩⟩

theorem below_i (w W : World) (hk : Kept w W) (b : Nat) (s : Mst) (hM : PM w b s) (ho : s.ok) (f : Nat) (x : Int) (hw : Wf s f x) (B1 B2 : Nat) (h1 : Boxed W B1 22 (.pointer (some ⟨b, 0, none⟩))) (h2 : Boxed W B2 2 (.int .i64 x)) :
    Iter Try.prog 84 #[.pointer (some ⟨B1, 0, none⟩), .pointer (some ⟨B2, 0, none⟩)] encS (spotsF s f x) (SlotR w B1 B2) W := by
  intro l O₀ J Jx hR gJ gJx hY h0
  have c1 := h1.cell
  have c2 := h2.cell
  have HR := hide (goBelow_p hk hM ho gJ gJx (fun k hk => hR k (.inl hk)) hY f x [] [] O₀ W hw (by simp) (Turned.refl _ _) (Sub.refl _ _) h0)
  clear hk hM ho hw h1 h2 hR hY h0 gJ gJx
  refine (callsIn_wide (n := 10)).1 ?_
  refine callsIn_of_wp Try.func84 rfl trivial ?_ rfl
  simp only [Try.ntmps84, List.size_toArray, List.length_cons, List.length_nil, Nat.reduceAdd, Nat.reduceSub, Array.replicate_succ, Array.replicate_zero, List.push_toArray, List.append_toArray, List.nil_append, List.cons_append]
  gi_wp2_with (fail)
  refine ⟨trivial, ?_⟩
  refine (callsIn_wide.2 HR.out).mono ?_
  intro e A' hr
  obtain ⟨⟨v, rfl⟩, he⟩ := Rose.ends (Turned.refl O₀ W) (Sub.refl _ _) hr
  have HE := hide he
  clear he hr HR
  gi_wp2
  go_end0
  exact ⟨⟨_, rfl⟩, HE.out⟩

/-- All slots of the tree. -/
def spotsL (s : Mst) (f : Nat) : List (Int × Int) := (6, s.logicZ 6) :: spotsF s f (s.logicZ 6)

set_option maxHeartbeats 1000000 in
theorem spots_i (w W : World) (hk : Kept w W) (b : Nat) (s : Mst) (hM : PM w b s) (ho : s.ok) (f : Nat) (hw : Wf s f (s.logicZ 6)) (B1 : Nat) (h1 : Boxed W B1 22 (.pointer (some ⟨b, 0, none⟩))) :
    Iter Try.prog 58 #[.pointer (some ⟨B1, 0, none⟩)] encS (spotsL s f) (SpotR w B1) W := by
  intro l O₀ J Jx hR gJ gJx hY h0
  obtain ⟨y, hy⟩ : ∃ y, s.logicZ 6 = y := ⟨_, rfl⟩
  have hxs : spotsL s f = (6, y) :: spotsF s f y := by unfold spotsL; rw [hy]
  rw [hy] at hw
  have c1 := h1.cell
  have HM := hide (hM.kept hk)
  have HO := hide ho
  have HYY := hide hy
  have HXS := hide hxs
  have HG := hide (goBelow_p hk hM ho gJ gJx (fun k hk => hR k (.inl hk)) hY f y)
  have HW := hide hw
  have HY := hide hY
  have H0 := hide h0
  have NB : Hid (¬ O₀ B1) := hide (hR B1 (.inr rfl))
  have IN0 := hide (gJ.within _ _ _ h0)
  have GJ := hide gJ
  have GJX := hide gJx
  clear hk hM ho hw h1 hR hY h0 hy hxs gJ gJx
  refine (callsIn_wide (n := 10)).1 ?_
  refine callsIn_of_wp Try.func58 rfl trivial ?_ rfl
  simp only [Try.ntmps58, List.size_toArray, List.length_cons, List.length_nil, Nat.reduceAdd, Nat.reduceSub, Array.replicate_succ, Array.replicate_zero, List.push_toArray, List.append_toArray, List.nil_append, List.cons_append]
  gi_wp2_with (fail)
  refine ⟨trivial, ?_⟩
  refine (callsIn_wide.2 (spotAt_p _ b s 6 y HM.out HO.out HYY.out)).mono ?_
  rintro e C ⟨rfl, kC⟩
  have KC := hide (Kept.alloc kC (.cells #[.int .i64 6, .int .i64 y] 37))
  have CQ : Hid ((C.alloc (.cells #[.int .i64 6, .int .i64 y] 37)).heap[C.heap.size]? = some (.cells #[.int .i64 6, .int .i64 y] 37)) := hide (heap_new _ _)
  have ZC := hide kC.size
  have cM2 := KC.out.cell c1 id
  have jC := GJ.out.abides _ _ _ _ H0.out (KC.out.mono fun _ _ h => h.elim)
  have TC : Hid (Turned O₀ W (C.alloc (.cells #[.int .i64 6, .int .i64 y] 37))) := hide (KC.out.mono fun _ _ h => h.elim)
  obtain ⟨fn, tmps, assign, body, hyy, hRd⟩ := HY.out O₀ [] (6, y) (spotsF s f y) _ HXS.out TC.out (Sub.refl _ _) jC
  dsimp only [encS] at hyy
  have HRd := hide hRd
  clear hRd kC jC
  gi_wp2_with (fail)
  refine HRd.out.mono ?_
  rintro e E ⟨O3, s3, t3, ⟨rfl, j3⟩ | ⟨rfl, j3⟩⟩
  · have nC : ¬ O₀ C.heap.size := fun h => by have := IN0.out _ h; have := ZC.out; omega
    have cM3 := t3.cell cM2 NB.out
    have cq := t3.heap CQ.out nC
    have cq1 : E.cell? ⟨C.heap.size, 1, none⟩ = some (.int .i64 y) := by simp [World.cell?, cq]
    have T3 := hide (TC.out.sub t3 (Sub.refl _ _))
    have S3 := hide (s3.more TC.out.size)
    have J3 := hide j3
    clear s3 t3 j3 cq hyy HRd cM2 c1 nC
    gi_wp2_with (fail)
    refine ⟨trivial, ?_⟩
    refine (callsIn_wide.2 (HG.out ([] ++ [(6, y)]) [] O3 E HW.out (by rw [HXS.out]; simp) T3.out S3.out J3.out)).mono ?_
    intro e A' hr
    rw [show [] ++ [((6 : Int), y)] ++ spotsF s f y = spotsL s f by rw [HXS.out]; rfl] at hr
    obtain ⟨⟨v, rfl⟩, he⟩ := Rose.ends T3.out S3.out hr
    have HE := hide he
    clear he hr HG
    gi_wp2
    go_end0
    exact ⟨⟨_, rfl⟩, HE.out⟩
  · have T3 := hide (TC.out.sub t3 (Sub.refl _ _))
    have S3 := hide (s3.more TC.out.size)
    have J3 := hide j3
    clear s3 t3 j3 hyy HRd cM2 c1
    gi_wp2
    go_end0
    exact ⟨⟨_, rfl⟩, O3, S3.out, T3.out, .inr ⟨_, spotsF s f y, by rw [HXS.out]; rfl, J3.out⟩⟩

/-- The invariant of a loop that writes a cell at n alone, once it leaves: v there. -/
def Cell1 (n : Nat) (T : TypeId) (v : Value) : Inv (Int × Int) := fun O _ A => (∀ k, O k ↔ k = n) ∧ Boxed A n T v
theorem Cell1.good (n : Nat) (T : TypeId) (v : Value) : Good (Cell1 n T v) := by
  constructor
  · rintro O pre A B ⟨hO, hb⟩ ht
    exact ⟨hO, ht.boxed hb (fun hn => hn ((hO n).2 rfl))⟩
  · rintro O pre A ⟨hO, hb⟩ k hk
    rw [(hO k).1 hk]
    exact hb.lt
theorem good_and {α : Type} {J : Inv α} (h : Good J) (p : List α → Prop) : Good (fun O pre A => p pre ∧ J O pre A) :=
  ⟨fun _ _ _ _ hj ht => ⟨hj.1, h.abides _ _ _ _ hj.2 ht⟩, fun _ _ _ hj => h.within _ _ _ hj.2⟩
theorem good_only {α : Type} {J : Inv α} (h : Good J) (c d : Code) : Good (fun O pre A => c = d ∧ J O pre A) :=
  ⟨fun _ _ _ _ hj ht => ⟨hj.1, h.abides _ _ _ _ hj.2 ht⟩, fun _ _ _ hj => h.within _ _ _ hj.2⟩
end Go.Proofs.Ytbojjpmcopnjpaa

/-! A region that draws its order, within a round of a loop over an iterator: walked as outside of it ('region_round'). Conditions: each theorem's own. -/
namespace Go.Proofs.Ytbojjpmcopnjpaa

/-- No operation defers. -/
def noDefer (ops : Array Oper) : Bool := ops.all (fun o => match o.op with | .defer _ => false | _ => true)
theorem noDefer_at {ops : Array Oper} (h : noDefer ops = true) {i : Nat} {o : Oper} (ho : ops[i]? = some o) (c : Call) : o.op ≠ .defer c := by
  intro e
  obtain ⟨hi, e2⟩ := Array.getElem?_eq_some_iff.1 ho
  have := (Array.all_eq_true.1 h) i hi
  rw [e2, e] at this
  cases this
section
variable {P : Program} {ops : Array Oper} {Q : Exit → Act → World → Prop} {md : Region.Mode} {n : Nat}
theorem wpOpIn_inRound {l i : Nat} {K : Act → World → Prop} {a : Act} {w : World} (hd : noDefer ops = true) (h : wpOpIn Fence.wide n P ops Q i K a w) : wpOpIn (Fence.wide.inRound l) n P ops Q i K a w := by
  unfold wpOpIn at *
  cases ho : ops[i]? with
  | none => simpa [ho] using h
  | some o =>
    simp only [ho] at h ⊢
    split
    · rename_i hw
      rw [if_pos hw] at h
      unfold Oper.wpIn at *
      refine ⟨h.1, ?_⟩
      have h2 := h.2
      rw [show Fence.wide.round = none from rfl, Oper.semAt_none] at h2
      rw [Fence.inRound_round, Oper.semAt_some l _ o (noDefer_at hd ho)]
      generalize (execOp a.eval o).run P w = r at *
      cases r with
      | ok x w' => cases x <;> exact h2
      | halt x w' => cases x <;> exact h2
    · rename_i hw
      rw [if_neg hw] at h
      exact h
theorem wpAnyIn_inRound {l : Nat} (hd : noDefer ops = true) : ∀ (fuel : Nat) (listed : Array Bool) (a : Act) (w : World), wpAnyIn Fence.wide n P md ops Q fuel listed a w → wpAnyIn (Fence.wide.inRound l) n P md ops Q fuel listed a w
  | 0, _, _, _, h => h
  | fuel + 1, _, _, _, h => ⟨h.1, fun i hi => wpOpIn_mono (fun a' w' h' => wpAnyIn_inRound hd fuel _ a' w' h') (wpOpIn_inRound hd (h.2 i hi))⟩
theorem region_perm_round {l id : Nat} {a : Act} {w : World} (is : List Nat) (C : World → Prop) (hm : P.follows .mixedOrders = true) (hd : noDefer ops = true)
    (hB : (Region.noSelect ops && is.length == ops.size && permB .any ops is (Array.replicate ops.size false)) = true) (hQ : ∀ c a d v w, Q (.panic c) (Act.put a d v) w → Q (.panic c) a w)
    (hC : C w.drew) (h : wpPerm P ops Q C n is a w.drew) : (Code.region id ops true).wpIn (Fence.wide.inRound l) n P Q a w := by
  simp only [Bool.and_eq_true, beq_iff_eq] at hB
  have := perm_any (md := .any) hB.1.1 hQ is _ a _ hC hB.2 h
  rw [hB.1.2] at this
  exact wpIn_region_any hm (wpAnyIn_inRound hd _ _ _ _ (wpAnyIn_of_anyC _ _ _ _ this))
end
/-- **A REGION THAT DRAWS ITS ORDER**, in a round, walked in the order 'is'. -/
theorem region_round {P : Program} {ops : Array Oper} {Q : Exit → Act → World → Prop} {n l id : Nat} {a : Act} {w : World} (is : List Nat) (S : World → Prop) (hm : P.follows .mixedOrders = true) (hd : noDefer ops = true)
    (hB : (Region.noSelect ops && is.length == ops.size && permB .any ops is (Array.replicate ops.size false)) = true)
    (hS : S w.drew) (h : Nonempty (Wd S) → wpPerm P ops (calm Q) (fun w' => ∃ x : Wd S, w' = x.w) n is a w.drew) : (Code.region id ops true).wpIn (Fence.wide.inRound l) n P Q a w :=
  Go.wpIn_mono (region_perm_round is _ hm hd hB (fun _ _ _ _ _ h => h) (Wd.mem hS) (h ⟨⟨_, hS⟩⟩)) (fun _ _ _ h => calm_imp h)
end Go.Proofs.Ytbojjpmcopnjpaa

/-! Loops over iterators whose round first lays what came into a new block ('wp_rangeA', 'wp_range3'). Conditions: each theorem's own. -/
namespace Go.Proofs.Ytbojjpmcopnjpaa
open Go.RowKit

theorem wp_rangeA {P : Program} {α : Type} {n : Nat} {g : Operand} {ps : Array Tmp} {assign body : Code} {Q : Exit → Act → World → Prop} {a : Act} {w : World}
    {gf : Nat} {lb : Array Value} (hg : a.eval g = .func (.func gf) #[] lb) (eg : ∀ args w, (callFunc gf args).run P w = .ok (.enter gf args) w)
    {encs : α → Array Value} {xs : List α} {R : Nat → Prop} (hit : ∀ W, Turned (fun _ => False) w W → Iter P gf lb encs xs R W) (hps : ∀ x, (encs x).size = ps.size)
    (O₀ : Nat → Prop) (I : Inv α) (Ix : Code → Inv α) (hR : ∀ k, R k → k < w.heap.size ∧ ¬ O₀ k) (hI : Good I) (hIx : ∀ c, Good (Ix c)) (h0 : I O₀ [] w) (cs : α → Array Value) (T : TypeId) (a₁ : α → Nat → Act)
    (hassign : ∀ (l : Nat) (x : α) (W : World) (m : Nat) (K : Act → World → Prop), W.heap.size = m → K (a₁ x m) (W.alloc (.cells (cs x) T)) →
      assign.wpIn (Fence.wide.inRound l) 9 P (Exit.then K (fun _ _ _ => False)) { tmps := (ps.zip (encs x)).foldl (fun t (p, v) => t.setIfInBounds p v) a.tmps, defers := [] } W)
    (hbody : ∀ (l : Nat) (O : Nat → Prop) (pre : List α) (x : α) (rest : List α) (W : World) (m : Nat), xs = pre ++ x :: rest → Turned O₀ w W → Sub O O₀ w.heap.size → I O pre W → W.heap[m]? = some (.cells (cs x) T) → ¬ O m → w.heap.size ≤ m →
      body.wpIn (Fence.wide.inRound l) 9 P (BodyEnds I Ix O (pre ++ [x]) W) (a₁ x m) W)
    (hdone : ∀ (D : Nat) (O : Nat → Prop) (W : World), w.heap.size ≤ D → ¬ O D → Turned O₀ w W → Sub O O₀ w.heap.size → I O xs W → W.heap[D]? = some (.deferred (some [])) →
      Q .normal { a with defers := { target := .collected D, args := #[] } :: a.defers } W)
    (hstop : ∀ (D : Nat) (O : Nat → Prop) (c : Code) (pre rest : List α) (W : World), w.heap.size ≤ D → ¬ O D → Turned O₀ w W → Sub O O₀ w.heap.size → xs = pre ++ rest → Ix c O pre W → W.heap[D]? = some (.deferred (some [])) →
      c.wpIn Fence.wide n P Q { a with defers := { target := .collected D, args := #[] } :: a.defers } W) :
    (Code.rangeFunc g ps assign body).wpIn Fence.wide n P Q a w := by
  refine wpIn_rangeFunc ?_
  intro fn hfn
  obtain ⟨rec, hrec⟩ : ∃ rec : LoopState → Option Code → Loop, rec = fun st pe => { state := st, pending := pe, fn, tmps := a.tmps, params := ps, assign, body, defers := w.heap.size } := ⟨_, rfl⟩
  obtain ⟨D, hD⟩ : ∃ D, w.heap.size = D := ⟨_, rfl⟩
  obtain ⟨W1, hW1⟩ : ∃ W1, (w.alloc (.deferred (some []))).alloc (.loop (rec .ready none)) = W1 := ⟨_, rfl⟩
  have t1 : Turned (fun _ => False) w W1 := by
    rw [← hW1]
    exact (Turned.alloc _ w _).trans (Turned.alloc _ _ _) (fun _ h => h) (fun _ _ h => h)
  have z1 : W1.heap.size = D + 2 := by rw [← hW1, World.size_alloc, World.size_alloc, hD]
  have hl1 : W1.heap[D + 1]? = some (.loop (rec .ready none)) := by
    rw [← hW1, ← hD]
    have := World.alloc_heap_new (w.alloc (.deferred (some []))) (.loop (rec .ready none))
    rwa [World.size_alloc] at this
  have hd1 : W1.heap[D]? = some (.deferred (some [])) := by
    rw [← hW1, ← hD]
    exact (Below.heap_alloc _ _ _ (by simp)).trans (World.alloc_heap_new w _)
  have w0 : ∀ k, O₀ k → k < D := fun k hk => by rw [← hD]; exact hI.within O₀ [] w h0 k hk
  have hi1 : I O₀ [] W1 := hI.abides O₀ [] w W1 h0 (t1.mono fun _ _ h => h.elim)
  -- what is said of the body's blocks is said from the loop's beginning on
  have back : ∀ {OO : Nat → Prop} {A : World}, Turned OO W1 A → (∀ k, OO k ↔ With O₀ D k) → Turned O₀ w A := fun {OO A} h e =>
    t1.trans h (fun _ h => h.elim) (fun i hi hk => by
      rcases (e i).1 hk with hk | rfl | rfl
      · exact hk
      · omega
      · omega)
  have e0 : ∀ k, With O₀ D k ↔ With O₀ D k := fun _ => Iff.rfl
  refine ⟨D + 1, [{ target := .collected D, args := #[] }], W1, { target := .fn (.func gf) lb, args := #[.func (.yield (D + 1)) #[] #[]] }, W1, gf,
    #[.func (.yield (D + 1)) #[] #[]] ++ lb, W1, ?_, ?_, fun _ _ => trivial, ?_, fun h => by simp [Fence.wide] at h, ?_⟩
  · rw [← hW1, ← hD, hrec]
    exact run_enterLoop_outer _ _ _ _ _
  · simp only [resolve, hg]
    simp [go_sem]
  · simp [invoke, go_sem, eg]
  · have hc := hit W1 t1 (D + 1) (With O₀ D) (Inner I D (.loop (rec .ready none))) (fun OO pre W => ∃ c, Inner (Ix c) D (.loop (rec .done (some c))) OO pre W)
      (fun k hk hO => by
        obtain ⟨hk1, hk2⟩ := hR k hk
        rcases hO with hO | rfl | rfl
        · exact hk2 hO
        · omega
        · omega)
      (Inner.good hI D _) (Good.ex fun c => Inner.good (hIx c) D _) ?_ ⟨O₀, e0, fun h => by have := w0 _ h; omega, fun h => by have := w0 _ h; omega, hi1, hl1, hd1⟩
    · refine callsIn_wide.2 (hc.mono ?_)
      rintro e W2 ⟨⟨v, rfl⟩, OO, hsub, ht, hJ⟩
      have tb := back ht e0
      rcases hJ with ⟨O, e, n1, n2, hi, hl, hd⟩ | ⟨pre, rest, hx, c, O, e, n1, n2, hi, hl, hd⟩
      · obtain ⟨o, hr⟩ : ∃ o, (Instr.endLoop (D + 1)).run P W2 = .ok none (W2.putObj (D + 1) o) := ⟨_, by have := run_endLoop (P := P) hl (by rw [hrec]; simp); rw [hrec] at this; exact this⟩
        have hput : Turned (fun k => k = D + 1) W2 (W2.putObj (D + 1) o) := Turned.putObj _ _ _ rfl
        refine ⟨none, _, hr, ?_⟩
        refine hdone D O _ (by omega) n1 (tb.trans hput (fun _ h => h) (fun i hi h => by omega)) ?_ (hI.abides O xs W2 _ hi (hput.mono fun k _ hk hO => n2 (by rw [← hk]; exact hO))) ((World.putObj_heap_other (by omega)).trans hd)
        intro k hk
        rcases hsub k ((e k).2 (.inl hk)) with (h | rfl | rfl) | h
        · exact .inl h
        · exact (n1 hk).elim
        · exact (n2 hk).elim
        · exact .inr (by omega)
      · obtain ⟨o, hr⟩ : ∃ o, (Instr.endLoop (D + 1)).run P W2 = .ok (some c) (W2.putObj (D + 1) o) := ⟨_, by have := run_endLoop (P := P) hl (by rw [hrec]; simp); rw [hrec] at this; exact this⟩
        have hput : Turned (fun k => k = D + 1) W2 (W2.putObj (D + 1) o) := Turned.putObj _ _ _ rfl
        refine ⟨some c, _, hr, ?_⟩
        refine hstop D O c pre rest _ (by omega) n1 (tb.trans hput (fun _ h => h) (fun i hi h => by omega)) ?_ hx ((hIx c).abides O pre W2 _ hi (hput.mono fun k _ hk hO => n2 (by rw [← hk]; exact hO))) ((World.putObj_heap_other (by omega)).trans hd)
        intro k hk
        rcases hsub k ((e k).2 (.inl hk)) with (h | rfl | rfl) | h
        · exact .inl h
        · exact (n1 hk).elim
        · exact (n2 hk).elim
        · exact .inr (by omega)
    · -- one round
      rintro OO pre x rest A hx tA hsA ⟨O, e, n1, n2, hi, hl, hd⟩
      have hlt : D + 1 < A.heap.size := (Array.getElem?_eq_some_iff.1 hl).1
      have tb := back tA e0
      have sO : Sub O O₀ w.heap.size := fun k hk => by
        rcases hsA k ((e k).2 (.inl hk)) with (h | rfl | rfl) | h
        · exact .inl h
        · exact (n1 hk).elim
        · exact (n2 hk).elim
        · exact .inr (by omega)
      have hy := run_yield (P := P) (args := encs x) hl (by rw [hrec]; exact hps x)
      rw [hrec] at hy
      have hlA : (A.alloc (.cells (cs x) T)).heap[D + 1]? = some (.loop (rec .ready none)) := (Below.heap_alloc A _ _ hlt).trans hl
      refine ⟨fn, _, assign, body, hy, roundIn_of_wpIn hfn (hassign _ x A _ _ rfl ⟨_, run_beginRound hlA (by rw [hrec]), ?_⟩)⟩
      clear hy
      obtain ⟨A1, hA1⟩ : ∃ A1, (A.alloc (.cells (cs x) T)).putObj (D + 1) (.loop { rec .ready none with state := .busy }) = A1 := ⟨_, rfl⟩
      rw [hA1]
      have hput : Turned (fun k => k = D + 1) A A1 := by rw [← hA1]; exact (Turned.alloc (fun _ => False) A _).trans (Turned.putObj (R := fun k => k = D + 1) _ _ _ rfl) (fun _ h => h.elim) (fun _ _ h => h)
      have hl2 : A1.heap[D + 1]? = some (.loop { rec .ready none with state := .busy }) := by rw [← hA1]; exact World.putObj_heap_same (by rw [World.size_alloc]; omega)
      have hd2 : A1.heap[D]? = some (.deferred (some [])) := by rw [← hA1]; exact (World.putObj_heap_other (by omega)).trans ((Below.heap_alloc A _ _ (by omega)).trans hd)
      have zA : A1.heap.size = A.heap.size + 1 := by rw [← hA1]; simp
      have hm1 : A1.heap[A.heap.size]? = some (.cells (cs x) T) := by rw [← hA1]; exact (World.putObj_heap_other (by omega)).trans (World.alloc_heap_new A _)
      have nOA : ¬ O A.heap.size := fun h => by have := hI.within _ _ _ hi _ h; omega
      have zwA := tb.size
      have hi2 : I O pre A1 := hI.abides O pre A A1 hi (hput.mono fun k _ hk hO => n2 (by rw [← hk]; exact hO))
      have fin : ∀ (jump : Option Code) (B : World), Turned O A1 B →
          (Instr.endRound (D + 1) jump).run P B = .ok (.bool jump.isNone) (B.putObj (D + 1) (.loop (rec (if jump.isNone then .ready else .done) jump))) ∧
          (B.putObj (D + 1) (.loop (rec (if jump.isNone then .ready else .done) jump))).heap[D + 1]? = some (.loop (rec (if jump.isNone then .ready else .done) jump)) ∧
          (B.putObj (D + 1) (.loop (rec (if jump.isNone then .ready else .done) jump))).heap[D]? = some (.deferred (some [])) ∧
          Turned OO A (B.putObj (D + 1) (.loop (rec (if jump.isNone then .ready else .done) jump))) := fun jump B tB => by
        have hl3 := tB.heap hl2 n2
        have hd3 := tB.heap hd2 n1
        have hr := run_endRound (P := P) jump hl3
        rw [hrec] at hr ⊢
        refine ⟨hr, World.putObj_heap_same (Array.getElem?_eq_some_iff.1 hl3).1, (World.putObj_heap_other (by omega)).trans hd3, ?_⟩
        refine (hput.trans (tB.trans (Turned.putObj (R := fun k => k = D + 1) B (D + 1) _ rfl) (R'' := OO) (fun k hk => (e k).2 (.inl hk)) (fun k _ hk => (e k).2 (.inr (.inr hk)))) (fun k hk => (e k).2 (.inr (.inr hk))) (fun _ _ h => h))
      have fol : ∀ {O' : Nat → Prop} {J' : Inv α} {o : Obj} {B : World} {ys : List α}, Good J' → Sub O' O A1.heap.size → Turned O A1 B → J' O' ys B → (∀ k, O' k → k < B.heap.size) →
          (B.putObj (D + 1) o).heap[D + 1]? = some o → (B.putObj (D + 1) o).heap[D]? = some (.deferred (some [])) → Sub (With O' D) OO A.heap.size ∧ Inner J' D o (With O' D) ys (B.putObj (D + 1) o) := fun {O' J' o B ys} gJ s' tB hj wi q1 q2 => by
        have m1 : ¬ O' D := fun h => (s' D h).elim n1 (fun h' => by omega)
        have m2 : ¬ O' (D + 1) := fun h => (s' (D + 1) h).elim n2 (fun h' => by omega)
        refine ⟨fun k hk => ?_, O', fun _ => Iff.rfl, m1, m2, gJ.abides O' ys B _ hj ((Turned.putObj (R := fun k => k = D + 1) B (D + 1) o rfl).mono fun k _ hk hO => m2 (by rw [← hk]; exact hO)), q1, q2⟩
        rcases hk with hk | rfl | rfl
        · exact (s' k hk).imp (fun h => (e k).2 (.inl h)) (fun h => by omega)
        · exact .inl ((e _).2 (.inr (.inl rfl)))
        · exact .inl ((e _).2 (.inr (.inr rfl)))
      refine wpIn_mono (hbody _ O pre x rest A1 A.heap.size hx (tb.trans hput (fun _ h => h) (fun i hi h => by omega)) sO hi2 hm1 nOA zwA) ?_
      rintro ex a3 B hp
      cases ex with
      | normal =>
        obtain ⟨O', s', tB, hj⟩ := hp
        obtain ⟨hr, q1, q2, q3⟩ := fin none B tB
        obtain ⟨f1, f2⟩ := fol hI s' tB hj (hI.within _ _ _ hj) q1 q2
        exact ⟨_, _, hr, With O' D, f1, q3, .inl ⟨rfl, f2⟩⟩
      | ret =>
        obtain ⟨O', s', tB, hj⟩ := hp
        obtain ⟨hr, q1, q2, q3⟩ := fin (some .ret) B tB
        obtain ⟨f1, f2⟩ := fol (hIx _) s' tB hj ((hIx _).within _ _ _ hj) q1 q2
        exact ⟨_, _, hr, With O' D, f1, q3, .inr ⟨rfl, _, f2⟩⟩
      | exit id =>
        obtain ⟨O', s', tB, hj⟩ := hp
        obtain ⟨hr, q1, q2, q3⟩ := fin (some (.exit id)) B tB
        obtain ⟨f1, f2⟩ := fol (hIx _) s' tB hj ((hIx _).within _ _ _ hj) q1 q2
        exact ⟨_, _, hr, With O' D, f1, q3, .inr ⟨rfl, _, f2⟩⟩
      | goto t =>
        obtain ⟨O', s', tB, hj⟩ := hp
        obtain ⟨hr, q1, q2, q3⟩ := fin (some (.goto t)) B tB
        obtain ⟨f1, f2⟩ := fol (hIx _) s' tB hj ((hIx _).within _ _ _ hj) q1 q2
        exact ⟨_, _, hr, With O' D, f1, q3, .inr ⟨rfl, _, f2⟩⟩
      | panic ch => exact hp.elim
      | outgrown => exact hp.elim

theorem wp_range3 {P : Program} {α : Type} {g : Operand} {ps : Array Tmp} {assign body : Code} {Q : Exit → Act → World → Prop} {a : Act} {w : World}
    {gf : Nat} {lb : Array Value} (hg : a.eval g = .func (.func gf) #[] lb) (eg : ∀ args w, (callFunc gf args).run P w = .ok (.enter gf args) w)
    {encs : α → Array Value} {xs : List α} {R : Nat → Prop} (hit : ∀ W, Turned (fun _ => False) w W → Iter P gf lb encs xs R W) (hps : ∀ x, (encs x).size = ps.size)
    (O₀ : Nat → Prop) (I : Inv α) (Ix : Code → Inv α) (hR : ∀ k, R k → k < w.heap.size ∧ ¬ O₀ k) (hI : Good I) (hIx : ∀ c, Good (Ix c)) (h0 : I O₀ [] w) (cs : α → Array Value) (T : TypeId)
    (hab : ∃ a₁ : α → Nat → Act, (∀ (l : Nat) (x : α) (W : World) (m : Nat) (K : Act → World → Prop), W.heap.size = m → K (a₁ x m) (W.alloc (.cells (cs x) T)) →
        assign.wpIn (Fence.wide.inRound l) 9 P (Exit.then K (fun _ _ _ => False)) { tmps := (ps.zip (encs x)).foldl (fun t (p, v) => t.setIfInBounds p v) a.tmps, defers := [] } W) ∧
      (∀ (l : Nat) (O : Nat → Prop) (pre : List α) (x : α) (rest : List α) (W : World) (m : Nat), xs = pre ++ x :: rest → Turned O₀ w W → Sub O O₀ w.heap.size → I O pre W → W.heap[m]? = some (.cells (cs x) T) → ¬ O m → w.heap.size ≤ m →
        body.wpIn (Fence.wide.inRound l) 9 P (BodyEnds I Ix O (pre ++ [x]) W) (a₁ x m) W))
    (hdone : ∀ (D : Nat) (O : Nat → Prop) (W : World), w.heap.size ≤ D → ¬ O D → Turned O₀ w W → Sub O O₀ w.heap.size → I O xs W → W.heap[D]? = some (.deferred (some [])) →
      Q .normal { a with defers := { target := .collected D, args := #[] } :: a.defers } W)
    (hstop : ∀ (D : Nat) (O : Nat → Prop) (c : Code) (pre rest : List α) (W : World), w.heap.size ≤ D → ¬ O D → Turned O₀ w W → Sub O O₀ w.heap.size → xs = pre ++ rest → Ix c O pre W → W.heap[D]? = some (.deferred (some [])) →
      c.wp P Q { a with defers := { target := .collected D, args := #[] } :: a.defers } W) :
    (Code.rangeFunc g ps assign body).wp P Q a w := by
  obtain ⟨a₁, h1, h2⟩ := hab
  exact (wpIn_wide (n := 9)).1 (wp_rangeA hg eg hit hps O₀ I Ix hR hI hIx h0 cs T a₁ h1 h2 hdone (fun D O c pre rest W q1 q2 q3 q4 q5 q6 q7 => wpIn_wide.2 (hstop D O c pre rest W q1 q2 q3 q4 q5 q6 q7)))
end Go.Proofs.Ytbojjpmcopnjpaa

/-! What functions of Go's library answer at this program: the library's own contracts (Derived.Shelf), laid at this program's numbers by the guide's lay-shelf.mjs and written plainly by lay-plain.mjs. Conditions: each theorem's own. -/
namespace Go.Proofs.Ytbojjpmcopnjpaa
open Go.Shelf
def lays129_ren : Go.Shelf.Ren := ⟨fun | 129 => 98 | n => n, fun | 53 => 107 | 3 => 3 | 4 => 4 | 46 => 108 | 5 => 5 | 9 => 9 | n => n, fun | n => n⟩
theorem lays129 : Go.Proofs.Lays.n129 Try.prog lays129_ren := {
  mixed := by kernel_rfl
  f129 := Try.func98.trans (congrArg some (by kernel_rfl))
  t3 := Try.underlying3
  a3 := Try.isAgg3
  z3 := Try.sizeOf3
  v3 := Try.zeroValue3
  t4 := Try.underlying4
  a4 := Try.isAgg4
  z4 := Try.sizeOf4
  v4 := Try.zeroValue4
  t5 := Try.underlying5
  a5 := Try.isAgg5
  z5 := Try.sizeOf5
  v5 := Try.zeroValue5
  t9 := Try.underlying9
  a9 := Try.isAgg9
  z9 := Try.sizeOf9
  v9 := Try.zeroValue9
  t46 := Try.underlying108
  a46 := Try.isAgg108
  z46 := Try.sizeOf108
  v46 := Try.zeroValue108
  t53 := Try.underlying107
  a53 := Try.isAgg107
  z53 := Try.sizeOf107
  v53 := Try.zeroValue107 }
theorem bits_Len64 (x : Int) (w : World) (h0 : 0 ≤ x) (h1 : x ≤ 18446744073709551615) :
    Calls Try.prog 98 #[.int .u64 x] w fun e w' => e = .returned (.int .i64 (Lib.bitLen x.toNat)) ∧ w' = w := Any.bits_Len64 lays129 x w h0 h1
end Go.Proofs.Ytbojjpmcopnjpaa

/-! The plain arithmetic of chapter 2: gaps, shares, roots, digits, sums and products as functions of whole numbers, and what holds of them; no Go in sight. -/
namespace Go.Proofs.Ytbojjpmcopnjpaa.Pt
open Go

def gapZ (a b : Int) : Int := if b < a then 0 else b - a
def shareZ (p w n : Int) : Int := if 1 ≤ w ∧ 1 ≤ n ∧ n ≤ 65536 then min p w * n / w else 0
def sqN : Nat → Nat
  | 0 => 0
  | n + 1 => if (sqN n + 1) * (sqN n + 1) ≤ n + 1 then sqN n + 1 else sqN n
def rootZ (n : Int) : Int := (sqN n.toNat : Int)
def bitsZ (n : Int) : Int := (Lib.bitLen n.toNat : Int)
def plusZ (a b : Int) : Int := if 0 ≤ a ∧ 0 ≤ b then min (a + b) 9223372036854775807 else 0
def timesZ (a b : Int) : Int := if 0 ≤ a ∧ 0 ≤ b then min (a * b) 9223372036854775807 else 0

/-! ### Roots -/
theorem sqN_spec (n : Nat) : sqN n * sqN n ≤ n ∧ n < (sqN n + 1) * (sqN n + 1) := by
  induction n with
  | zero => simp [sqN]
  | succ n ih =>
    obtain ⟨h1, h2⟩ := ih
    unfold sqN
    split
    · rename_i h
      refine ⟨h, ?_⟩
      generalize sqN n = r at h1 h2 h
      have e : (r + 1 + 1) * (r + 1 + 1) = (r + 1) * (r + 1) + 2 * r + 3 := by
        simp only [Nat.mul_add, Nat.add_mul]; omega
      omega
    · rename_i h
      exact ⟨by omega, by omega⟩

theorem mul_self_lt {a b : Int} (ha : 0 ≤ a) (h : a < b) : a * a < b * b := by
  have h1 : a * a ≤ a * b := Int.mul_le_mul_of_nonneg_left (by omega) ha
  have h2 : a * b < b * b := Int.mul_lt_mul_of_pos_right h (by omega)
  omega
theorem mul_self_le {a b : Int} (ha : 0 ≤ a) (h : a ≤ b) : a * a ≤ b * b := by
  have h1 : a * a ≤ a * b := Int.mul_le_mul_of_nonneg_left h ha
  have h2 : a * b ≤ b * b := Int.mul_le_mul_of_nonneg_right h (by omega)
  omega
theorem lt_of_self {a b : Int} (hb : 0 ≤ b) (h : a * a < b * b) : a < b := by
  rcases Int.lt_or_le a b with g | g
  · exact g
  · have := mul_self_le hb g
    omega

theorem root_spec {n : Int} (h : 0 ≤ n) : 0 ≤ rootZ n ∧ rootZ n * rootZ n ≤ n ∧ n < (rootZ n + 1) * (rootZ n + 1) := by
  obtain ⟨h1, h2⟩ := sqN_spec n.toNat
  unfold rootZ
  refine ⟨by omega, ?_, ?_⟩
  · rw [← Int.natCast_mul]; omega
  · have e : ((sqN n.toNat : Int) + 1) * ((sqN n.toNat : Int) + 1) = (((sqN n.toNat + 1) * (sqN n.toNat + 1) : Nat) : Int) := by
      rw [Int.natCast_mul, Int.natCast_add]; rfl
    rw [e]; omega
theorem root_unique {n r : Int} (hr : 0 ≤ r) (h1 : r * r ≤ n) (h2 : n < (r + 1) * (r + 1)) : rootZ n = r := by
  have hn : 0 ≤ n := Int.le_trans (Int.mul_nonneg hr hr) h1
  obtain ⟨g0, g1, g2⟩ := root_spec hn
  have a1 := lt_of_self (a := r) (b := rootZ n + 1) (by omega) (by omega)
  have a2 := lt_of_self (a := rootZ n) (b := r + 1) (by omega) (by omega)
  omega
theorem root_none {n : Int} (h : n < 1) : rootZ n = 0 := by
  have e : n.toNat = 0 := by omega
  unfold rootZ
  rw [e]; rfl

/-- d is a power of two up to 2^31 -/
def Pw (d : Int) : Prop := ∃ k : Nat, k ≤ 31 ∧ d = ((2 ^ k : Nat) : Int)
theorem pw_bound {d : Int} (h : Pw d) : 1 ≤ d ∧ d ≤ 2147483648 := by
  obtain ⟨k, hk, rfl⟩ := h
  have h1 : 1 ≤ 2 ^ k := Nat.one_le_two_pow
  have h2 : 2 ^ k ≤ 2 ^ 31 := Nat.pow_le_pow_right (by omega) hk
  omega
theorem pw_half {d : Int} (h : Pw d) : (d = 1 ∧ d / 2 = 0) ∨ (d = 2 * (d / 2) ∧ Pw (d / 2)) := by
  obtain ⟨k, hk, rfl⟩ := h
  cases k with
  | zero => left; decide
  | succ k =>
    right
    have e : ((2 ^ (k + 1) : Nat) : Int) = 2 * ((2 ^ k : Nat) : Int) := by rw [Nat.pow_succ]; omega
    refine ⟨by omega, k, by omega, by omega⟩

def RInv (n r d : Int) : Prop := 0 ≤ r ∧ r * r ≤ n ∧ ((d = 0 ∧ n < (r + 1) * (r + 1)) ∨ (Pw d ∧ n < (r + 2 * d) * (r + 2 * d)))
theorem rinv_bound {n r d : Int} (hn : n ≤ 9223372036854775807) (h : RInv n r d) : 0 ≤ r ∧ r ≤ 3037000499 ∧ 0 ≤ d ∧ d ≤ 2147483648 := by
  obtain ⟨h0, h1, h2⟩ := h
  have a := lt_of_self (a := r) (b := 3037000500) (by omega) (by omega)
  rcases h2 with ⟨rfl, _⟩ | ⟨h2, _⟩
  · omega
  · have := pw_bound h2; omega
theorem rinv_up {n r d : Int} (h : RInv n r d) (hd : 0 < d) (hc : (r + d) * (r + d) ≤ n) : RInv n (r + d) (d / 2) := by
  obtain ⟨h0, h1, h2⟩ := h
  rcases h2 with ⟨rfl, _⟩ | ⟨h2, h3⟩
  · omega
  · refine ⟨by omega, hc, ?_⟩
    have e : r + d + d = r + 2 * d := by omega
    rcases pw_half h2 with ⟨g1, g2⟩ | ⟨g1, g2⟩
    · left
      refine ⟨g2, ?_⟩
      have e1 : r + d + 1 = r + 2 * d := by omega
      rw [e1]; exact h3
    · right
      refine ⟨g2, ?_⟩
      have e1 : r + d + 2 * (d / 2) = r + 2 * d := by omega
      rw [e1]; exact h3
theorem rinv_stay {n r d : Int} (h : RInv n r d) (hd : 0 < d) (hc : n < (r + d) * (r + d)) : RInv n r (d / 2) := by
  obtain ⟨h0, h1, h2⟩ := h
  rcases h2 with ⟨rfl, _⟩ | ⟨h2, h3⟩
  · omega
  · refine ⟨h0, h1, ?_⟩
    rcases pw_half h2 with ⟨g1, g2⟩ | ⟨g1, g2⟩
    · left
      refine ⟨g2, ?_⟩
      rw [← g1]; rw [g1] at hc ⊢; exact hc
    · right
      refine ⟨g2, ?_⟩
      rw [← g1]; exact hc
theorem rinv_end {n r : Int} (h : RInv n r 0) : rootZ n = r := by
  obtain ⟨h0, h1, h2⟩ := h
  rcases h2 with ⟨_, h3⟩ | ⟨h2, h3⟩
  · exact root_unique h0 h1 h3
  · have := pw_bound h2; omega
theorem le_quo {n t : Int} (ht : 0 < t) : t ≤ n / t ↔ t * t ≤ n := Int.le_ediv_iff_mul_le ht

/-! ### Digits -/
theorem bits_spec {n : Int} (h : 1 ≤ n) (h' : n ≤ 9223372036854775807) : ∃ L : Nat, bitsZ n = L ∧ 1 ≤ L ∧ L ≤ 63 ∧ ((2 ^ (L - 1) : Nat) : Int) ≤ n ∧ n < ((2 ^ L : Nat) : Int) := by
  obtain ⟨a, b, c⟩ := Lib.bitLenAux_bounds 64 n.toNat (by omega) (by omega)
  have d := Lib.bitLen_le n.toNat 63 (by omega) (by omega)
  refine ⟨Lib.bitLen n.toNat, rfl, a, d, ?_, ?_⟩
  · have b' : 2 ^ (Lib.bitLen n.toNat - 1) ≤ n.toNat := b
    omega
  · have c' : n.toNat < 2 ^ Lib.bitLen n.toNat := c
    omega
theorem bits_none {n : Int} (h : n < 1) : bitsZ n = 0 := by
  have e : n.toNat = 0 := by omega
  unfold bitsZ
  rw [e]; rfl
theorem bits_le (n : Int) (h' : n ≤ 9223372036854775807) : 0 ≤ bitsZ n ∧ bitsZ n ≤ 63 := by
  have d := Lib.bitLen_le n.toNat 63 (by omega) (by omega)
  unfold bitsZ
  omega
theorem bits_half {n : Int} (h : 0 < n) (h' : n ≤ 9223372036854775807) : bitsZ n = bitsZ (n / 2) + 1 := by
  have e := Lib.bitLen_half n.toNat (by omega) (by omega)
  have e2 : (n / 2).toNat = n.toNat / 2 := by omega
  unfold bitsZ
  rw [e2, e]; omega

theorem root_begin {n : Int} (h : 1 ≤ n) (h' : n ≤ 9223372036854775807) : RInv n 0 ((2 ^ ((bitsZ n - 1) / 2).toNat : Nat) : Int) := by
  obtain ⟨L, e, l1, l2, b1, b2⟩ := bits_spec h h'
  rw [e]
  have e2 : (((L : Int) - 1) / 2).toNat = (L - 1) / 2 := by omega
  rw [e2]
  refine ⟨by omega, by omega, Or.inr ⟨⟨(L - 1) / 2, by omega, rfl⟩, ?_⟩⟩
  have e3 : (0 + 2 * ((2 ^ ((L - 1) / 2) : Nat) : Int)) = ((2 ^ ((L - 1) / 2 + 1) : Nat) : Int) := by
    rw [Nat.pow_succ]; omega
  rw [e3, ← Int.natCast_mul, ← Nat.pow_add]
  have : 2 ^ L ≤ 2 ^ ((L - 1) / 2 + 1 + ((L - 1) / 2 + 1)) := Nat.pow_le_pow_right (by omega) (by omega)
  omega
end Go.Proofs.Ytbojjpmcopnjpaa.Pt

/-! What span.Bits, span.Root, the document's Root and ordinatehand.Cut answer, each in one sentence (a contract), for every number that may be handed to them; no world is turned. (Carried from the text of stage 2.) -/
namespace Go.Proofs.Ytbojjpmcopnjpaa.Pt
open Go.ChangeShapes Go.WideShapes Go.ChangeAt Go.RowKit

theorem wrap_same {a : Int} (h : -9223372036854775808 ≤ a) (h' : a ≤ 9223372036854775807) : wrap64 a = a := by
  unfold wrap64
  omega

theorem len_c (x : Int) (w : World) (h0 : 0 ≤ x) (h1 : x ≤ 18446744073709551615) :
    Calls Try.prog 98 #[.int .u64 x] w fun e w' => e = .returned (.int .i64 (bitsZ x)) ∧ w = w' :=
  (bits_Len64 x w h0 h1).mono fun _ _ ⟨a, b⟩ => ⟨a, b.symm⟩

theorem bits_c (n : Int) (hn : (Lit.int .i64 n).wf = true) (w : World) :
    Calls Try.prog 97 #[.int .i64 n] w fun e w' => e = .returned (.int .i64 (bitsZ n)) ∧ w = w' := by
  have hn' := bounds_i64 hn
  clear hn
  by_cases c : n < 1
  · rw [bits_none c]
    go_enter Try.func97, Try.ntmps97
    go_wp2
    go_ret
    exact ⟨rfl, rfl⟩
  · go_enter Try.func97, Try.ntmps97
    go_wp2_with (go_at_call 98; refine (len_c _ _ (by omega) (by omega)).mono ?_; rintro e w' ⟨rfl, rfl⟩)
    go_ret
    exact ⟨rfl, rfl⟩

theorem cut_plain (x n : Int) (hn : 0 < n) : x % n = if x.tmod n < 0 then x.tmod n + n else x.tmod n := by
  have e1 := Int.tmod_eq_emod (a := x) (b := n)
  have e2 := Int.emod_nonneg x (show n ≠ 0 by omega)
  have e3 := Int.emod_lt_of_pos x hn
  split <;> split at e1 <;> omega

theorem cut_c (x n : Int) (hn : 0 < n) (hn' : n ≤ 65536) (w : World) :
    Calls Try.prog 16 #[.int .i64 x, .int .i64 n] w fun e w' => e = .returned (.int .i64 (x % n)) ∧ w = w' := by
  have e1 := cut_plain x n hn
  have e2 := Int.emod_nonneg x (show n ≠ 0 by omega)
  have e3 := Int.emod_lt_of_pos x hn
  by_cases c1 : x.tmod n < 0
  · have ee : x % n = wrap64 (x.tmod n + n) := by
      rw [if_pos c1] at e1
      rw [wrap_same] <;> omega
    rw [ee]
    clear ee e1 e2 e3
    go_enter Try.func16, Try.ntmps16
    go_wp2
    go_ret
    exact ⟨rfl, rfl⟩
  · have ee : x % n = x.tmod n := by
      rw [if_neg c1] at e1
      omega
    rw [ee]
    clear ee e1 e2 e3
    go_enter Try.func16, Try.ntmps16
    go_wp2
    go_ret
    exact ⟨rfl, rfl⟩

theorem hide {p : Prop} (h : p) : Hid p := h

theorem pow_cast (k : Nat) : (2 : Int) ^ k = ((2 ^ k : Nat) : Int) := by rw [Int.natCast_pow]; rfl

theorem pow_wrap {k : Nat} (h : k ≤ 62) : wrap64 ((2 : Int) ^ k) = ((2 ^ k : Nat) : Int) := by
  have h1 : 2 ^ k ≤ 2 ^ 62 := Nat.pow_le_pow_right (by omega) h
  have h0 : 1 ≤ 2 ^ k := Nat.one_le_two_pow
  rw [pow_cast, wrap_same (by omega) (by omega)]

theorem ret_int {k : IntKind} {a b : Int} (h : a = b) : Ending.returned (.int k a) = .returned (.int k b) := by rw [h]

theorem digit_none (n : Int) (c : n < 1) (w : World) :
    Calls Try.prog 96 #[.int .i64 n] w fun e w' => e = .returned (.int .i64 0) ∧ w = w' := by
  go_enter Try.func96, Try.ntmps96
  go_wp2
  go_ret
  exact ⟨rfl, rfl⟩

theorem digit_c (n : Int) (hn : (Lit.int .i64 n).wf = true) (c : 1 ≤ n) (w : World) :
    Calls Try.prog 96 #[.int .i64 n] w fun e w' => e = .returned (.int .i64 ((2 ^ ((bitsZ n - 1) / 2).toNat : Nat) : Int)) ∧ w = w' := by
  have hn' := bounds_i64 hn
  have hc := bits_c n hn
  obtain ⟨L, e, l1, l2, b1, b2⟩ := bits_spec c hn'.2
  rw [e] at hc ⊢
  clear e hn b1 b2
  go_enter Try.func96, Try.ntmps96
  go_wp2_with (go_at_call 97; refine (hc _).mono ?_; rintro e w' ⟨rfl, rfl⟩)
  go_ret
  refine ⟨ret_int ?_, rfl⟩
  rw [pow_wrap (by omega)]
  have e : (((L : Int) - 1) / 2).toNat = (L - 1) / 2 := by omega
  rw [e]

theorem root_c (n : Int) (hn : (Lit.int .i64 n).wf = true) (w : World) :
    Calls Try.prog 95 #[.int .i64 n] w fun e w' => e = .returned (.int .i64 (rootZ n)) ∧ w = w' := by
  have hn' := bounds_i64 hn
  by_cases c : n < 1
  · have hc := digit_none n c
    rw [root_none c]
    go_enter Try.func95, Try.ntmps95
    go_wp2_with (go_at_call 96; refine (hc _).mono ?_; rintro e w' ⟨rfl, rfl⟩)
    refine wp_loop_rounds 1 ?_
    rw [rounds_succ]
    go_wp2
    go_ret
    exact ⟨rfl, rfl⟩
  · have hc := digit_c n hn (by omega)
    have HB := hide (root_begin (n := n) (by omega) hn'.2)
    obtain ⟨z, ez⟩ : ∃ z, rootZ n = z := ⟨_, rfl⟩
    have HE := hide ez
    rw [ez]
    generalize ((2 ^ ((bitsZ n - 1) / 2).toNat : Nat) : Int) = d at hc HB
    clear ez hn
    go_enter Try.func95, Try.ntmps95
    go_wp2_with (go_at_call 96; refine (hc _).mono ?_; rintro e w' ⟨rfl, rfl⟩)
    go_loop [3, 4, 5] (fun r d _ => ∃ x y : Int, Hid (RInv n x y) ∧ r = .int .i64 x ∧ d = .int .i64 y) (fun _ d _ => (intOf d).toNat)
    case atStart => exact ⟨0, d, HB, rfl, rfl⟩
    case round =>
      obtain ⟨x, y, H, rfl, rfl⟩ := hrel
      obtain ⟨x0, x1, y0, y1⟩ := rinv_bound hn'.2 H.out
      by_cases f : 0 < y
      · have q := le_quo (n := n) (t := x + y) (by omega)
        by_cases g : (x + y) * (x + y) ≤ n
        · have H2 := hide (rinv_up H.out f g)
          have g' := q.mpr g
          clear q g H HB HE hc
          go_wp2
          go_round
          case rel => exact ⟨x + y, y / 2, H2, rfl, rfl⟩
          case measure => simp [intOf]; omega
        · have H2 := hide (rinv_stay H.out f (by omega))
          have g' : ¬ x + y ≤ n / (x + y) := fun h => g (q.mp h)
          clear q g H HB HE hc
          go_wp2
          go_round
          case rel => exact ⟨x, y / 2, H2, rfl, rfl⟩
          case measure => simp [intOf]; omega
      · obtain rfl : y = 0 := by omega
        have e : x = z := by rw [← HE.out]; exact (rinv_end H.out).symm
        subst e
        clear H HB HE hc
        go_wp2
        go_ret
        exact ⟨rfl, rfl⟩

end Go.Proofs.Ytbojjpmcopnjpaa.Pt

/-! The plain arithmetic of chapter 5: degrees, sizes, depths and cells as functions of whole numbers, and what holds of them; no Go in sight. -/
namespace Go.Proofs.Ytbojjpmcopnjpaa.Pt
open Go

/-! ### Chapter 5 as functions of whole numbers -/
def degZ (n : Int) : Int := if 2 ≤ n ∧ n ≤ 16384 then max 2 (rootZ n) else 0
def eachZ (n : Int) : Int := n / degZ n
def moreZ (n : Int) : Int := n % degZ n
def sizeZ (n i : Int) : Int := if 0 ≤ i ∧ i < degZ n then (if i < moreZ n then eachZ n + 1 else eachZ n) else 0
def aheadZ (n i : Int) : Int := i * eachZ n + min i (moreZ n)
def fromZ (n i : Int) : Int := if 0 ≤ i ∧ i < degZ n then aheadZ n i else 0
def limZ (n : Int) : Int := if 0 ≤ n ∧ n ≤ 16384 then n / 4 + 2 else 0
def depF : Nat → Int → Int
  | 0, _ => 0
  | f + 1, n => if degZ n = 0 then 0 else 1 + max (depF f (sizeZ n 0)) (depF f (sizeZ n (degZ n - 1)))
def depZ (n : Int) : Int := depF n.toNat n
def celF : Nat → Int → Int
  | 0, n => if n = 0 then 1 else 0
  | f + 1, n => if n < 0 ∨ 16384 < n then 0 else if n < 2 then n + 1 else
      4 + degZ n * 2 + (degZ n - moreZ n) * celF f (eachZ n) + moreZ n * celF f (eachZ n + 1)
def celZ (n : Int) : Int := celF n.toNat n

theorem deg_none {n : Int} (h : n < 2 ∨ 16384 < n) : degZ n = 0 := by
  unfold degZ
  rw [if_neg (by omega)]
theorem deg_some {n : Int} (h : 2 ≤ n) (h' : n ≤ 16384) : degZ n = max 2 (rootZ n) := by
  unfold degZ
  rw [if_pos ⟨h, h'⟩]
theorem root_bound {n : Int} (h : 2 ≤ n) (h' : n ≤ 16384) : 1 ≤ rootZ n ∧ rootZ n ≤ 128 ∧ rootZ n < n := by
  obtain ⟨g0, g1, g2⟩ := root_spec (n := n) (by omega)
  have a := lt_of_self (a := rootZ n) (b := 129) (by omega) (by omega)
  have b : 1 ≤ rootZ n := by
    rcases Int.lt_or_le (rootZ n) 1 with k | k
    · have e : rootZ n = 0 := by omega
      rw [e] at g2; omega
    · exact k
  refine ⟨b, by omega, ?_⟩
  rcases Int.lt_or_le (rootZ n) 2 with k | k
  · omega
  · have c : rootZ n * 2 ≤ rootZ n * rootZ n := Int.mul_le_mul_of_nonneg_left k (by omega)
    omega
theorem deg_bound {n : Int} (h : 2 ≤ n) (h' : n ≤ 16384) : 2 ≤ degZ n ∧ degZ n ≤ 128 ∧ degZ n ≤ n := by
  have := root_bound h h'
  rw [deg_some h h']
  omega
theorem deg_nat (n : Int) : 0 ≤ degZ n ∧ degZ n ≤ 128 := by
  by_cases c : 2 ≤ n ∧ n ≤ 16384
  · have := deg_bound c.1 c.2; omega
  · rw [deg_none (by omega)]; omega
theorem deg_zero {n : Int} (h' : n ≤ 16384) : degZ n = 0 ↔ n < 2 := by
  constructor
  · intro e
    rcases Int.lt_or_le n 2 with k | k
    · exact k
    · have := deg_bound k h'; omega
  · intro k; exact deg_none (Or.inl k)
theorem deg_pos {n : Int} (h : 0 < degZ n) : 2 ≤ n ∧ n ≤ 16384 := by
  by_cases c : 2 ≤ n ∧ n ≤ 16384
  · exact c
  · rw [deg_none (by omega)] at h; omega

theorem split_eq {n : Int} (h : 0 < degZ n) : degZ n * eachZ n + moreZ n = n ∧ 0 ≤ moreZ n ∧ moreZ n < degZ n := by
  unfold eachZ moreZ
  have a := Int.mul_ediv_add_emod n (degZ n)
  have b := Int.emod_nonneg n (show degZ n ≠ 0 by omega)
  have c := Int.emod_lt_of_pos n h
  omega
theorem each_bound {n : Int} (h : 0 < degZ n) : 1 ≤ eachZ n ∧ eachZ n < n ∧ eachZ n ≤ 8192 ∧ (0 < moreZ n → eachZ n + 1 < n) := by
  obtain ⟨h1, h2⟩ := deg_pos h
  obtain ⟨d1, d2, d3⟩ := deg_bound h1 h2
  obtain ⟨s1, s2, s3⟩ := split_eq h
  have a : 1 ≤ eachZ n := by
    unfold eachZ
    exact (Int.le_ediv_iff_mul_le h).mpr (by omega)
  have b : 2 * eachZ n ≤ degZ n * eachZ n := Int.mul_le_mul_of_nonneg_right d1 (by omega)
  omega
theorem size_none {n i : Int} (h : i < 0 ∨ degZ n ≤ i) : sizeZ n i = 0 := by
  unfold sizeZ
  rw [if_neg (by omega)]
theorem size_more {n i : Int} (h0 : 0 ≤ i) (h1 : i < degZ n) (h : i < moreZ n) : sizeZ n i = eachZ n + 1 := by
  unfold sizeZ
  rw [if_pos ⟨h0, h1⟩, if_pos h]
theorem size_each {n i : Int} (h0 : 0 ≤ i) (h1 : i < degZ n) (h : moreZ n ≤ i) : sizeZ n i = eachZ n := by
  unfold sizeZ
  rw [if_pos ⟨h0, h1⟩, if_neg (by omega)]
theorem size_cases {n i : Int} (h0 : 0 ≤ i) (h1 : i < degZ n) : (i < moreZ n ∧ sizeZ n i = eachZ n + 1) ∨ (moreZ n ≤ i ∧ sizeZ n i = eachZ n) := by
  rcases Int.lt_or_le i (moreZ n) with k | k
  · exact Or.inl ⟨k, size_more h0 h1 k⟩
  · exact Or.inr ⟨k, size_each h0 h1 k⟩
theorem size_bound {n i : Int} (h0 : 0 ≤ i) (h1 : i < degZ n) : 1 ≤ sizeZ n i ∧ sizeZ n i < n := by
  obtain ⟨e1, e2, e3, e4⟩ := each_bound (n := n) (by omega)
  rcases size_cases h0 h1 with ⟨k, e⟩ | ⟨k, e⟩ <;> rw [e]
  · have := e4 (by omega); omega
  · omega
theorem size_last {n : Int} (h : 0 < degZ n) : sizeZ n (degZ n - 1) = eachZ n := by
  obtain ⟨s1, s2, s3⟩ := split_eq h
  exact size_each (by omega) (by omega) (by omega)
theorem size_first {n : Int} (h : 0 < degZ n) : (0 < moreZ n ∧ sizeZ n 0 = eachZ n + 1) ∨ (moreZ n = 0 ∧ sizeZ n 0 = eachZ n) := by
  obtain ⟨s1, s2, s3⟩ := split_eq h
  rcases size_cases (n := n) (i := 0) (by omega) (by omega) with ⟨k, e⟩ | ⟨k, e⟩
  · exact Or.inl ⟨by omega, e⟩
  · exact Or.inr ⟨by omega, e⟩
theorem size_le (n i : Int) : 0 ≤ sizeZ n i ∧ sizeZ n i ≤ 16384 := by
  by_cases c : 0 ≤ i ∧ i < degZ n
  · have := size_bound c.1 c.2
    have := deg_pos (n := n) (by omega)
    omega
  · rw [size_none (by omega)]; omega

/-! ### From: the parts ahead -/
theorem ahead_zero {n : Int} (h : 0 < degZ n) : aheadZ n 0 = 0 := by
  have := split_eq h
  unfold aheadZ
  omega
theorem ahead_step {n i : Int} (h0 : 0 ≤ i) (h1 : i < degZ n) : aheadZ n (i + 1) = aheadZ n i + sizeZ n i := by
  have e : (i + 1) * eachZ n = i * eachZ n + eachZ n := by rw [Int.add_mul, Int.one_mul]
  unfold aheadZ
  rw [e]
  rcases size_cases h0 h1 with ⟨k, e⟩ | ⟨k, e⟩ <;> rw [e] <;> omega
theorem ahead_end {n : Int} (h : 0 < degZ n) : aheadZ n (degZ n) = n := by
  obtain ⟨s1, s2, s3⟩ := split_eq h
  unfold aheadZ
  omega
theorem ahead_bound {n i : Int} (h0 : 0 ≤ i) (h1 : i ≤ degZ n) (h : 0 < degZ n) : 0 ≤ i * eachZ n ∧ i * eachZ n ≤ 16384 ∧ 0 ≤ aheadZ n i ∧ aheadZ n i ≤ 16384 := by
  obtain ⟨s1, s2, s3⟩ := split_eq h
  have d := deg_pos h
  obtain ⟨e1, e2, e3, e4⟩ := each_bound h
  have a : 0 ≤ i * eachZ n := Int.mul_nonneg h0 (by omega)
  have b : i * eachZ n ≤ degZ n * eachZ n := Int.mul_le_mul_of_nonneg_right h1 (by omega)
  unfold aheadZ
  omega
theorem from_none {n i : Int} (h : i < 0 ∨ degZ n ≤ i) : fromZ n i = 0 := by
  unfold fromZ
  rw [if_neg (by omega)]
theorem from_some {n i : Int} (h0 : 0 ≤ i) (h1 : i < degZ n) : fromZ n i = aheadZ n i := by
  unfold fromZ
  rw [if_pos ⟨h0, h1⟩]

/-! ### Depth -/
theorem depF_more (f : Nat) : ∀ n : Int, n.toNat ≤ f → depF f n = depF n.toNat n := by
  induction f using Nat.strongRecOn with
  | _ f ih =>
    intro n hn
    have key : ∀ g : Nat, n.toNat ≤ g → (∀ m : Int, m.toNat < n.toNat → depF (g - 1) m = depZ m) → depF g n = if degZ n = 0 then 0 else 1 + max (depZ (sizeZ n 0)) (depZ (sizeZ n (degZ n - 1))) := by
      intro g hg hm
      cases g with
      | zero =>
        have e : degZ n = 0 := deg_none (by omega)
        rw [e]; rfl
      | succ g =>
        unfold depF
        by_cases c : degZ n = 0
        · rw [if_pos c, if_pos c]
        · have d := deg_nat n
          have p := deg_pos (n := n) (by omega)
          have b1 := size_bound (n := n) (i := 0) (by omega) (by omega)
          have b2 := size_bound (n := n) (i := degZ n - 1) (by omega) (by omega)
          rw [if_neg c, if_neg c]
          have m1 := hm (sizeZ n 0) (by omega)
          have m2 := hm (sizeZ n (degZ n - 1)) (by omega)
          simp only [Nat.add_sub_cancel] at m1 m2
          rw [m1, m2]
    rcases Nat.lt_or_ge n.toNat f with k | k
    · rw [key f hn (fun m hm => ih (f - 1) (by omega) m (by omega)), key n.toNat (Nat.le_refl _) (fun m hm => ih (n.toNat - 1) (by omega) m (by omega))]
    · have : n.toNat = f := by omega
      rw [this]
theorem dep_eq (n : Int) : depZ n = if degZ n = 0 then 0 else 1 + max (depZ (sizeZ n 0)) (depZ (sizeZ n (degZ n - 1))) := by
  by_cases c : degZ n = 0
  · rw [if_pos c]
    unfold depZ
    cases h : n.toNat with
    | zero => rfl
    | succ f => unfold depF; rw [if_pos c]
  · have d := deg_nat n
    have p := deg_pos (n := n) (by omega)
    have b1 := size_bound (n := n) (i := 0) (by omega) (by omega)
    have b2 := size_bound (n := n) (i := degZ n - 1) (by omega) (by omega)
    rw [if_neg c]
    obtain ⟨f, hf⟩ : ∃ f, n.toNat = f + 1 := ⟨n.toNat - 1, by omega⟩
    have e : depZ n = depF (f + 1) n := by unfold depZ; rw [hf]
    rw [e]
    unfold depF
    rw [if_neg c, depF_more f _ (by omega), depF_more f _ (by omega)]
    rfl
theorem dep_none {n : Int} (h : n < 2 ∨ 16384 < n) : depZ n = 0 := by
  rw [dep_eq, if_pos (deg_none h)]
theorem dep_some {n : Int} (h : 0 < degZ n) : depZ n = 1 + max (depZ (sizeZ n 0)) (depZ (eachZ n)) := by
  rw [dep_eq, if_neg (by omega), size_last h]
theorem dep_nat (n : Int) : 0 ≤ depZ n ∧ depZ n ≤ max 0 n := by
  suffices H : ∀ (f : Nat) (n : Int), n.toNat ≤ f → 0 ≤ depZ n ∧ depZ n ≤ max 0 n from H n.toNat n (Nat.le_refl _)
  intro f
  induction f with
  | zero => intro n hn; rw [dep_none (by omega)]; omega
  | succ f ih =>
    intro n hn
    by_cases c : degZ n = 0
    · rw [dep_eq, if_pos c]; omega
    · have d := deg_nat n
      have p := deg_pos (n := n) (by omega)
      have b1 := size_bound (n := n) (i := 0) (by omega) (by omega)
      have b2 := each_bound (n := n) (by omega)
      have i1 := ih (sizeZ n 0) (by omega)
      have i2 := ih (eachZ n) (by omega)
      rw [dep_some (by omega)]
      omega
theorem dep_le (n : Int) : depZ n ≤ 16384 := by
  by_cases c : n < 2 ∨ 16384 < n
  · rw [dep_none c]; omega
  · have := dep_nat n; omega

/-- the deepest of the first i parts -/
def mxZ (n i : Int) : Int := if i ≤ 0 then 0 else if i ≤ moreZ n then depZ (sizeZ n 0) else max (depZ (sizeZ n 0)) (depZ (eachZ n))
theorem mx_zero (n : Int) : mxZ n 0 = 0 := rfl
theorem mx_step {n i : Int} (h0 : 0 ≤ i) (h1 : i < degZ n) : mxZ n (i + 1) = max (mxZ n i) (depZ (sizeZ n i)) := by
  have k0 := dep_nat (sizeZ n 0)
  have k1 := dep_nat (eachZ n)
  have f := size_first (n := n) (by omega)
  unfold mxZ
  rw [if_neg (by omega)]
  by_cases c : i = 0
  · subst c
    rw [if_pos (Int.le_refl 0)]
    rcases f with ⟨f1, f2⟩ | ⟨f1, f2⟩
    · rw [if_pos (by omega)]; omega
    · rw [if_neg (by omega), f2]; omega
  · rw [if_neg (by omega : ¬ i ≤ 0)]
    rcases size_cases h0 h1 with ⟨k, e⟩ | ⟨k, e⟩
    · rw [if_pos (by omega), if_pos (by omega), e]
      rcases f with ⟨f1, f2⟩ | ⟨f1, f2⟩
      · rw [f2]; omega
      · omega
    · rw [if_neg (by omega), e]
      by_cases g : i ≤ moreZ n
      · rw [if_pos g]
      · rw [if_neg g]; omega
theorem mx_end {n : Int} (h : 0 < degZ n) : mxZ n (degZ n) = max (depZ (sizeZ n 0)) (depZ (eachZ n)) := by
  have := split_eq h
  unfold mxZ
  rw [if_neg (by omega), if_neg (by omega)]
theorem mx_bound (n i : Int) : 0 ≤ mxZ n i ∧ mxZ n i ≤ 16384 := by
  have k0 := dep_nat (sizeZ n 0)
  have k1 := dep_nat (eachZ n)
  have k2 := dep_le (sizeZ n 0)
  have k3 := dep_le (eachZ n)
  unfold mxZ
  split
  · omega
  · split <;> omega
theorem dep_mx {n : Int} (h : 0 < degZ n) : depZ n = 1 + mxZ n (degZ n) := by
  rw [dep_some h, mx_end h]

/-! ### Cells -/
theorem celF_more (f : Nat) : ∀ n : Int, n.toNat ≤ f → celF f n = celF n.toNat n := by
  induction f using Nat.strongRecOn with
  | _ f ih =>
    intro n hn
    have key : ∀ g : Nat, n.toNat ≤ g → (∀ m : Int, m.toNat < n.toNat → celF (g - 1) m = celZ m) → celF g n = if n < 0 ∨ 16384 < n then 0 else if n < 2 then n + 1 else
      4 + degZ n * 2 + (degZ n - moreZ n) * celZ (eachZ n) + (if moreZ n = 0 then 0 else moreZ n * celZ (eachZ n + 1)) := by
      intro g hg hm
      cases g with
      | zero =>
        unfold celF
        by_cases c : n = 0
        · rw [if_pos c, if_neg (by omega), if_pos (by omega), c]; rfl
        · rw [if_neg c, if_pos (by omega)]
      | succ g =>
        unfold celF
        by_cases c : n < 0 ∨ 16384 < n
        · rw [if_pos c, if_pos c]
        · by_cases c2 : n < 2
          · rw [if_neg c, if_neg c, if_pos c2, if_pos c2]
          · rw [if_neg c, if_neg c, if_neg c2, if_neg c2]
            have d := deg_bound (n := n) (by omega) (by omega)
            obtain ⟨e1, e2, e3, e4⟩ := each_bound (n := n) (by omega)
            have m1 := hm (eachZ n) (by omega)
            simp only [Nat.add_sub_cancel] at m1
            rw [m1]
            by_cases c3 : moreZ n = 0
            · rw [if_pos c3, c3, Int.zero_mul]
            · have s := split_eq (n := n) (by omega)
              have := e4 (by omega)
              have m2 := hm (eachZ n + 1) (by omega)
              simp only [Nat.add_sub_cancel] at m2
              rw [if_neg c3, m2]
    rcases Nat.lt_or_ge n.toNat f with k | k
    · rw [key f hn (fun m hm => ih (f - 1) (by omega) m (by omega)), key n.toNat (Nat.le_refl _) (fun m hm => ih (n.toNat - 1) (by omega) m (by omega))]
    · have : n.toNat = f := by omega
      rw [this]
theorem cel_none {n : Int} (h : n < 0 ∨ 16384 < n) : celZ n = 0 := by
  unfold celZ
  cases k : n.toNat with
  | zero => unfold celF; rw [if_neg (by omega)]
  | succ f => unfold celF; rw [if_pos h]
theorem cel_few {n : Int} (h : 0 ≤ n) (h' : n < 2) : celZ n = n + 1 := by
  unfold celZ
  cases k : n.toNat with
  | zero => unfold celF; rw [if_pos (by omega)]; omega
  | succ f => unfold celF; rw [if_neg (by omega), if_pos (by omega)]
theorem cel_some {n : Int} (h : 0 < degZ n) : celZ n = 4 + degZ n * 2 + (degZ n - moreZ n) * celZ (eachZ n) + moreZ n * celZ (eachZ n + 1) := by
  have p := deg_pos h
  obtain ⟨e1, e2, e3, e4⟩ := each_bound h
  obtain ⟨f, hf⟩ : ∃ f, n.toNat = f + 1 := ⟨n.toNat - 1, by omega⟩
  have e : celZ n = celF (f + 1) n := by unfold celZ; rw [hf]
  rw [e]
  unfold celF
  rw [if_neg (by omega), if_neg (by omega), celF_more f _ (by omega), show celF (eachZ n).toNat (eachZ n) = celZ (eachZ n) from rfl]
  by_cases c3 : moreZ n = 0
  · rw [c3, Int.zero_mul, Int.zero_mul]
  · have s := split_eq h
    have := e4 (by omega)
    rw [celF_more f _ (by omega)]
    rfl
theorem cel_bound {n : Int} (h : 1 ≤ n) : 0 ≤ celZ n ∧ celZ n ≤ 10 * n - 8 := by
  suffices H : ∀ (f : Nat) (n : Int), 1 ≤ n → n.toNat ≤ f → 0 ≤ celZ n ∧ celZ n ≤ 10 * n - 8 from H n.toNat n h (Nat.le_refl _)
  intro f
  induction f with
  | zero => intro n h hn; omega
  | succ f ih =>
    intro n h hn
    by_cases c : 16384 < n
    · rw [cel_none (Or.inr c)]; omega
    · by_cases c2 : n < 2
      · rw [cel_few (by omega) c2]; omega
      · have d := deg_bound (n := n) (by omega) (by omega)
        obtain ⟨e1, e2, e3, e4⟩ := each_bound (n := n) (by omega)
        obtain ⟨s1, s2, s3⟩ := split_eq (n := n) (by omega)
        have i1 := ih (eachZ n) (by omega) (by omega)
        have a1 : 0 ≤ (degZ n - moreZ n) * celZ (eachZ n) := Int.mul_nonneg (by omega) (by omega)
        have a2 : (degZ n - moreZ n) * celZ (eachZ n) ≤ (degZ n - moreZ n) * (10 * eachZ n - 8) := Int.mul_le_mul_of_nonneg_left (by omega) (by omega)
        have a3 : 0 ≤ moreZ n * celZ (eachZ n + 1) ∧ moreZ n * celZ (eachZ n + 1) ≤ moreZ n * (10 * (eachZ n + 1) - 8) := by
          by_cases c3 : moreZ n = 0
          · rw [c3, Int.zero_mul, Int.zero_mul]; omega
          · have := e4 (by omega)
            have i2 := ih (eachZ n + 1) (by omega) (by omega)
            exact ⟨Int.mul_nonneg (by omega) (by omega), Int.mul_le_mul_of_nonneg_left (by omega) (by omega)⟩
        have a4 : (degZ n - moreZ n) * (10 * eachZ n - 8) = 10 * (degZ n * eachZ n) - 8 * degZ n - 10 * (moreZ n * eachZ n) + 8 * moreZ n := by
          simp only [Int.sub_mul, Int.mul_sub, Int.mul_left_comm _ (10 : Int)]
          omega
        have a5 : moreZ n * (10 * (eachZ n + 1) - 8) = 10 * (moreZ n * eachZ n) + 2 * moreZ n := by
          have : 10 * (eachZ n + 1) - 8 = 10 * eachZ n + 2 := by omega
          rw [this, Int.mul_add, Int.mul_left_comm]
          omega
        rw [cel_some (by omega)]
        omega
theorem cel_nat (n : Int) : 0 ≤ celZ n ∧ celZ n ≤ 163832 := by
  by_cases c : n < 0 ∨ 16384 < n
  · rw [cel_none c]; omega
  · by_cases c2 : n < 2
    · rw [cel_few (by omega) c2]; omega
    · have := cel_bound (n := n) (by omega); omega

/-- the cells of the first i parts -/
def csZ (n i : Int) : Int := if i ≤ moreZ n then i * celZ (eachZ n + 1) else moreZ n * celZ (eachZ n + 1) + (i - moreZ n) * celZ (eachZ n)
theorem cs_zero {n : Int} (h : 0 < degZ n) : csZ n 0 = 0 := by
  have := split_eq h
  unfold csZ
  rw [if_pos (by omega), Int.zero_mul]
theorem cs_step {n i : Int} (h0 : 0 ≤ i) (h1 : i < degZ n) : csZ n (i + 1) = csZ n i + celZ (sizeZ n i) := by
  unfold csZ
  rcases size_cases h0 h1 with ⟨k, e⟩ | ⟨k, e⟩
  · rw [if_pos (by omega), if_pos (by omega), e, Int.add_mul, Int.one_mul]
  · rw [if_neg (by omega), e]
    by_cases g : i ≤ moreZ n
    · have : i = moreZ n := by omega
      have e2 : i + 1 - moreZ n = 1 := by omega
      rw [if_pos g, e2, Int.one_mul, this]
    · have e2 : i + 1 - moreZ n = (i - moreZ n) + 1 := by omega
      rw [if_neg g, e2, Int.add_mul, Int.one_mul]
      omega
theorem cs_end {n : Int} (h : 0 < degZ n) : celZ n = 4 + degZ n * 2 + csZ n (degZ n) := by
  have := split_eq h
  unfold csZ
  rw [if_neg (by omega), cel_some h]
  omega
theorem cs_nat {n i : Int} (h : 0 < degZ n) (h0 : 0 ≤ i) (h1 : i ≤ degZ n) : 0 ≤ csZ n i ∧ csZ n i ≤ 41940992 := by
  have k0 := cel_nat (eachZ n)
  have k1 := cel_nat (eachZ n + 1)
  have d := deg_nat n
  have m := split_eq h
  unfold csZ
  split
  · have a : 0 ≤ i * celZ (eachZ n + 1) := Int.mul_nonneg h0 k1.1
    have b : i * celZ (eachZ n + 1) ≤ 128 * 163832 := Int.mul_le_mul (by omega) k1.2 k1.1 (by omega)
    omega
  · have a : 0 ≤ moreZ n * celZ (eachZ n + 1) := Int.mul_nonneg (by omega) k1.1
    have b : moreZ n * celZ (eachZ n + 1) ≤ 128 * 163832 := Int.mul_le_mul (by omega) k1.2 k1.1 (by omega)
    have a' : 0 ≤ (i - moreZ n) * celZ (eachZ n) := Int.mul_nonneg (by omega) k0.1
    have b' : (i - moreZ n) * celZ (eachZ n) ≤ 128 * 163832 := Int.mul_le_mul (by omega) k0.2 k0.1 (by omega)
    omega
end Go.Proofs.Ytbojjpmcopnjpaa.Pt
