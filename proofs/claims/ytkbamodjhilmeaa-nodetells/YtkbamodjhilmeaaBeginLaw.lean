/-
  What NodeBegin answers: true; nothing that lay is turned.
-/
import Derived.Test.YtkbamodjhilmeaaBegin
namespace Go.Proofs.Ytkbamodjhilmeaa
open Go.RowKit

/-- Cut, its answer a letter. -/
theorem cut_k (x n : Int) (h0 : 0 < n) (h1 : n ≤ 100000) : ∃ j : Nat, (j : Int) < n ∧ (j : Int) = x % n ∧ ∀ W : World, Calls Try.prog 26 #[.int .i64 x, .int .i64 n] W fun e w' => e = .returned (.int .i64 (j : Int)) ∧ W = w' := by
  have b1 := Int.emod_nonneg x (show n ≠ 0 by omega)
  have b2 := Int.emod_lt_of_pos x h0
  refine ⟨(x % n).toNat, by omega, Int.toNat_of_nonneg b1, fun W => (cut_g W x n h0 h1).mono fun _ _ h => ⟨?_, h.2⟩⟩
  rw [h.1, Int.toNat_of_nonneg b1]

theorem make_full (zs : List Int) (n : Int) (h0 : zs ≠ []) (h : (zs.length : Int) ≤ n) : (Mst.new n).make zs = ⟨zs, n, 1, 0, 0⟩ ∧ (Mst.new n).fits zs.length = true := by
  have : 0 < zs.length := List.length_pos_iff.2 h0
  constructor
  · simp [Mst.make, Mst.fits, Mst.new, wrap64, this, h]
  · simp [Mst.fits, Mst.new, this, h]
theorem make_none (zs : List Int) (n : Int) (h0 : ¬ (zs ≠ [] ∧ (zs.length : Int) ≤ n)) : (Mst.new n).make zs = ⟨[], n, 1, 0, 1⟩ ∧ (Mst.new n).fits zs.length = false := by
  have hf : (Mst.new n).fits zs.length = false := by
    by_cases h1 : zs = []
    · subst h1
      simp [Mst.fits]
    · have h2 : ¬ ((zs.length : Int) ≤ n) := fun e => h0 ⟨h1, e⟩
      simp [Mst.fits, Mst.new]
      omega
  refine ⟨?_, hf⟩
  rw [Mst.make, hf]
  simp [Mst.new, wrap64]

set_option maxRecDepth 100000 in
set_option maxHeartbeats 4000000 in
theorem nodeBegin_c (w : World) (sz : Int) (a0 : Option Addr) (zs : List Int) (cap : Nat) (hr : Reads w a0 zs) (hc : zs.length ≤ cap) (hm : cap ≤ maxLen) :
    Calls Try.prog 6 #[.int .i64 sz, .slice a0 zs.length cap] w fun e w' => e = .returned (.bool true) ∧ Kept w w' := by
  have hlm : (zs.length : Int) ≤ 9223372036854775807 := by unfold maxLen at hm; omega
  have hzm : zs.length ≤ maxLen := Nat.le_trans hc hm
  obtain ⟨m, hm0, -, HJ⟩ := cut_k sz 20 (by omega) (by omega)
  have HR := hide hr
  have HZ := hide hzm
  clear hr hm hc hzm
  by_cases hlen : 50 < zs.length
  · have i1 : (50 : Int) < (zs.length : Int) := by omega
    go_enter Try.func6, Try.ntmps6
    go_wp2_with (fail)
    refine (HJ _).mono ?_
    rintro e w' ⟨rfl, rfl⟩
    go_wp2_with (fail)
    refine (now_new w w (1 + (m : Int)) (Kept.refl w) (by omega) (by omega)).mono ?_
    rintro e W1 ⟨rfl, h1, -⟩
    have H1 := hide h1
    clear h1
    go_wp2_with (fail)
    refine (known_c W1).mono ?_
    rintro e W2 ⟨rfl, hk⟩
    have HK := hide (H1.out.2.trans hk)
    clear hk H1
    go_wp2
    go_ret
    exact ⟨rfl, HK.out⟩
  have i1 : (zs.length : Int) ≤ 50 := by omega
  by_cases hfit : zs ≠ [] ∧ (zs.length : Int) ≤ 1 + (m : Int)
  · -- used: Begin is false
    have HS := hide (make_full zs (1 + (m : Int)) hfit.1 hfit.2)
    have HNE := hide hfit.1
    clear hfit hlen
    go_enter Try.func6, Try.ntmps6
    go_wp2_with (fail)
    refine (HJ _).mono ?_
    rintro e w' ⟨rfl, rfl⟩
    go_wp2_with (fail)
    refine (now_new w w (1 + (m : Int)) (Kept.refl w) (by omega) (by omega)).mono ?_
    rintro e W1 ⟨rfl, h1, -⟩
    have H1 := hide h1
    clear h1
    go_wp2_with (fail)
    refine (now_put w W1 w.heap.size _ a0 zs cap _ true ⟨zs, 1 + (m : Int), 1, 0, 0⟩ H1.out HR.out HZ.out rfl HS.out.2 HS.out.1).mono ?_
    rintro e W2 ⟨rfl, h2⟩
    have H2 := hide h2
    clear h2 H1
    go_wp2_with (fail)
    refine (now_cells w W2 w.heap.size _ H2.out).mono ?_
    rintro e W3 ⟨a3, cap3, rfl, r3, c3, m3, -, -, k3⟩
    have H3 := hide (H2.out.on k3)
    have R3 := hide r3
    have C3 := hide c3
    have M3 := hide m3
    clear r3 c3 m3 k3 H2
    go_wp2_with (fail)
    refine (begin0_c w W3 w.heap.size _ H3.out (fun e => HNE.out e.1)).mono ?_
    rintro e w' ⟨rfl, rfl⟩
    go_wp2_with (fail)
    refine (known_c W3).mono ?_
    rintro e W4 ⟨rfl, hk⟩
    have H4 := hide (H3.out.on hk)
    have R4 := hide (R3.out.kept hk)
    clear hk H3 R3
    go_wp2_with (fail)
    refine (now_cells w W4 w.heap.size _ H4.out).mono ?_
    rintro e W5 ⟨a5, cap5, rfl, r5, c5, m5, -, -, k5⟩
    have H5 := hide (H4.out.on k5)
    have HW := hide (words_k W5 a5 a3 zs cap5 cap3 r5 (R4.out.kept k5) c5 C3.out m5)
    clear r5 c5 m5 k5 H4 R4
    go_wp2_with (fail)
    refine HW.out.mono ?_
    rintro e W6 ⟨rfl, hk⟩
    have KF := hide (H5.out.2.trans hk)
    clear hk H5 HW
    go_wp2
    go_ret
    exact ⟨rfl, KF.out⟩
  have HS := hide (make_none zs (1 + (m : Int)) hfit)
  clear hfit hlen
  by_cases h7 : 7 ≤ 1 + (m : Int)
  · -- it is begun
    have j7 : (7 : Int) ≤ 1 + (m : Int) := h7
    go_enter Try.func6, Try.ntmps6
    go_wp2_with (fail)
    refine (HJ _).mono ?_
    rintro e w' ⟨rfl, rfl⟩
    go_wp2_with (fail)
    refine (now_new w w (1 + (m : Int)) (Kept.refl w) (by omega) (by omega)).mono ?_
    rintro e W1 ⟨rfl, h1, -⟩
    have H1 := hide h1
    clear h1
    go_wp2_with (fail)
    refine (now_put w W1 w.heap.size _ a0 zs cap _ false ⟨[], 1 + (m : Int), 1, 0, 1⟩ H1.out HR.out HZ.out rfl HS.out.2 HS.out.1).mono ?_
    rintro e W2 ⟨rfl, h2⟩
    have H2 := hide h2
    clear h2 H1
    go_wp2_with (fail)
    refine (now_cells w W2 w.heap.size _ H2.out).mono ?_
    rintro e W3 ⟨a3, cap3, rfl, -, -, -, -, -, k3⟩
    have H3 := hide (H2.out.on k3)
    clear k3 H2
    go_wp2_with (fail)
    refine (begin_c w W3 w.heap.size _ H3.out rfl j7).mono ?_
    rintro e W4 ⟨rfl, h4⟩
    have H4 : Hid (Now w W4 w.heap.size ⟨[1, 0, 0, 0, 0, 57, 0], 1 + (m : Int), wrap64 (wrap64 (1 + 1) + 1), 0, 1⟩) := hide h4
    clear h4 H3
    go_wp2_with (fail)
    refine (now_look w W4 w.heap.size _ 6 57 H4.out (by simp [Mst.look, Mst.used])).mono ?_
    rintro e w' ⟨rfl, rfl⟩
    go_wp2_with (fail)
    refine (known_c W4).mono ?_
    rintro e W5 ⟨rfl, hk⟩
    have H5 := hide (H4.out.on hk)
    clear hk H4
    go_wp2_with (fail)
    refine (now_used w W5 w.heap.size _ 7 H5.out rfl).mono ?_
    rintro e w' ⟨rfl, rfl⟩
    go_wp2_with (fail)
    refine (now_look w W5 w.heap.size _ 1 1 H5.out (by simp [Mst.look, Mst.used])).mono ?_
    rintro e w' ⟨rfl, rfl⟩
    go_wp2_with (fail)
    refine (child_c W5 1 1 0 6 (by decide)).mono ?_
    rintro e w' ⟨rfl, rfl⟩
    go_wp2_with (fail)
    refine (kind57_c W5).mono ?_
    rintro e w' ⟨rfl, rfl⟩
    go_wp2_with (fail)
    refine (at57_c W5).mono ?_
    rintro e w' ⟨rfl, rfl⟩
    go_wp2_with (fail)
    refine (begin0_c w W5 w.heap.size _ H5.out (fun e => by have := e.1; simp at this)).mono ?_
    rintro e w' ⟨rfl, rfl⟩
    go_wp2_with (fail)
    refine (now_used w W5 w.heap.size _ 7 H5.out rfl).mono ?_
    rintro e w' ⟨rfl, rfl⟩
    go_wp2
    go_ret
    exact ⟨rfl, H5.out.2⟩
  · have j7 : 1 + (m : Int) < 7 := by omega
    have J7 := hide j7
    clear h7
    go_enter Try.func6, Try.ntmps6
    go_wp2_with (fail)
    refine (HJ _).mono ?_
    rintro e w' ⟨rfl, rfl⟩
    go_wp2_with (fail)
    refine (now_new w w (1 + (m : Int)) (Kept.refl w) (by omega) (by omega)).mono ?_
    rintro e W1 ⟨rfl, h1, -⟩
    have H1 := hide h1
    clear h1
    go_wp2_with (fail)
    refine (now_put w W1 w.heap.size _ a0 zs cap _ false ⟨[], 1 + (m : Int), 1, 0, 1⟩ H1.out HR.out HZ.out rfl HS.out.2 HS.out.1).mono ?_
    rintro e W2 ⟨rfl, h2⟩
    have H2 := hide h2
    clear h2 H1
    go_wp2_with (fail)
    refine (now_cells w W2 w.heap.size _ H2.out).mono ?_
    rintro e W3 ⟨a3, cap3, rfl, r3, c3, m3, -, -, k3⟩
    have H3 := hide (H2.out.on k3)
    have R3 := hide r3
    have C3 := hide c3
    clear r3 c3 m3 k3 H2
    go_wp2_with (fail)
    refine (begin0_c w W3 w.heap.size _ H3.out (fun e => absurd e.2 (Int.not_le.2 J7.out))).mono ?_
    rintro e w' ⟨rfl, rfl⟩
    go_wp2_with (fail)
    refine (known_c W3).mono ?_
    rintro e W4 ⟨rfl, hk⟩
    have H4 := hide (H3.out.on hk)
    have R4 := hide (R3.out.kept hk)
    clear hk H3 R3
    go_wp2_with (fail)
    refine (now_cells w W4 w.heap.size _ H4.out).mono ?_
    rintro e W5 ⟨a5, cap5, rfl, r5, c5, m5, -, -, k5⟩
    have H5 := hide (H4.out.on k5)
    have HW := hide (words_k W5 a5 a3 [] cap5 cap3 r5 (R4.out.kept k5) c5 C3.out m5)
    clear r5 c5 m5 k5 H4 R4
    go_wp2_with (fail)
    refine HW.out.mono ?_
    rintro e W6 ⟨rfl, hk⟩
    have KF := hide (H5.out.2.trans hk)
    clear hk H5 HW
    go_wp2
    go_ret
    exact ⟨rfl, KF.out⟩
end Go.Proofs.Ytkbamodjhilmeaa
