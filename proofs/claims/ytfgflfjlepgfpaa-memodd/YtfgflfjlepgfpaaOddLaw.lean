/-
  What MemOdd answers: true; nothing that lay is turned.
-/
import Derived.Test.YtfgflfjlepgfpaaNow
namespace Go.Proofs.Ytfgflfjlepgfpaa
open Go.RowKit

/-- A state behind so many odd accesses. -/
theorem touch_out {s : Mst} {a : Int} (h : s.used a = false) : s.touch a = { s with count := wrap64 (s.count + 1), odd := wrap64 (s.odd + 1) } := by rw [Mst.touch, h]; rfl
theorem cas_out {s : Mst} {a : Int} (h : s.used a = false) (old x : Int) : s.cas a old x = s.touch a := by rw [Mst.cas, Mst.did_out h, if_neg (by simp)]
theorem add_out {s : Mst} {a : Int} (h : s.used a = false) (x : Int) : s.add a x = s.touch a := Mst.write_out h _
/-- A Make into an empty memory with room. -/
theorem make_first (zs : List Int) (n : Int) (h : (zs.length : Int) ≤ n) : ∃ r, (Mst.new n).make zs = ⟨zs, n, 1, 0, r⟩ := by
  by_cases h0 : zs = []
  · subst h0
    exact ⟨1, by simp [Mst.make, Mst.fits, Mst.new, wrap64]⟩
  · have : 0 < zs.length := List.length_pos_iff.2 h0
    exact ⟨0, by simp [Mst.make, Mst.fits, Mst.new, wrap64, this, h]⟩
theorem unused {zs : List Int} {n c o r a : Int} (h : ¬ (1 ≤ a ∧ a ≤ (zs.length : Int))) : (Mst.mk zs n c o r).used a = false := by
  cases hu : (Mst.mk zs n c o r).used a with
  | false => rfl
  | true => exact (h (Mst.used_iff.1 hu)).elim

set_option maxRecDepth 100000 in
set_option maxHeartbeats 2000000 in
theorem memOdd_c (w : World) (a0 : Option Addr) (zs : List Int) (cap : Nat) (a x y : Int) (hr : Reads w a0 zs) (hc : zs.length ≤ cap) (hm : cap ≤ maxLen) :
    Calls Try.prog 6 #[.slice a0 zs.length cap, .int .i64 a, .int .i64 x, .int .i64 y] w fun e w' => e = .returned (.bool true) ∧ Kept w w' := by
  have hlm : (zs.length : Int) ≤ 9223372036854775807 := by unfold maxLen at hm; omega
  by_cases hlen : 200 < zs.length
  · have i1 : (200 : Int) < (zs.length : Int) := by omega
    go_enter Try.func6, Try.ntmps6
    go_wp2_with (fail)
    refine (known_c w).mono ?_
    rintro e W1 ⟨rfl, hk⟩
    have HK := hide hk
    clear hk
    go_wp2
    go_ret
    exact ⟨rfl, HK.out⟩
  have i1 : (zs.length : Int) ≤ 200 := by omega
  obtain ⟨r, hmk⟩ := make_first zs 300 (by omega)
  have HR := hide hr
  have HMK := hide hmk
  have HC := hide hc
  have HM := hide hm
  clear hr hmk hlen hc hm
  by_cases ha : 1 ≤ a ∧ a ≤ (zs.length : Int)
  · obtain ⟨j1, j2⟩ := ha
    have hu : ∀ c o : Int, (Mst.mk zs 300 c o r).used (a + 300) = false := fun c o => unused (by omega)
    have HU := hide hu
    clear hu
    go_enter Try.func6, Try.ntmps6
    go_wp2_with (fail)
    refine (now_new w w 300 (Kept.refl w) (by decide) (by decide)).mono ?_
    rintro e W1 ⟨rfl, h1, -⟩
    have H1 := hide h1
    clear h1
    go_wp2_with (fail)
    refine (now_put w W1 w.heap.size _ a0 zs cap _ _ ⟨zs, 300, 1, 0, r⟩ H1.out HR.out (by have := HC.out; have := HM.out; omega) rfl rfl HMK.out).mono ?_
    rintro e W2 ⟨rfl, h2⟩
    have H2 := hide h2
    clear h2 H1
    go_wp2_with (fail)
    refine (now_odd w W2 w.heap.size _ 0 H2.out rfl).mono ?_
    rintro e w' ⟨rfl, rfl⟩
    go_wp2_with (fail)
    refine (now_count w W2 w.heap.size _ 1 H2.out rfl).mono ?_
    rintro e w' ⟨rfl, rfl⟩
    go_wp2_with (fail)
    refine (now_write w W2 w.heap.size _ (a + 300) x ⟨zs, 300, 2, 1, r⟩ H2.out (by rw [Mst.write_out (HU.out _ _), touch_out (HU.out _ _)]; simp [wrap64])).mono ?_
    rintro e W3 ⟨rfl, h3⟩
    have H3 := hide h3
    clear h3 H2
    go_wp2_with (fail)
    refine (now_cas w W3 w.heap.size _ (a + 300) 0 y false ⟨zs, 300, 3, 2, r⟩ H3.out (Mst.did_out (HU.out _ _) _) (by rw [cas_out (HU.out _ _), touch_out (HU.out _ _)]; simp [wrap64])).mono ?_
    rintro e W4 ⟨rfl, h4⟩
    have H4 := hide h4
    clear h4 H3
    go_wp2_with (fail)
    refine (now_add w W4 w.heap.size _ (a + 300) x 0 ⟨zs, 300, 4, 3, r⟩ H4.out (Mst.look_none (HU.out _ _)) (by rw [add_out (HU.out _ _), touch_out (HU.out _ _)]; simp [wrap64])).mono ?_
    rintro e W5 ⟨rfl, h5⟩
    have H5 := hide h5
    clear h5 H4
    go_wp2_with (fail)
    refine (now_read w W5 w.heap.size _ (a + 300) 0 ⟨zs, 300, 5, 4, r⟩ H5.out (Mst.look_none (HU.out _ _)) (by rw [touch_out (HU.out _ _)]; simp [wrap64])).mono ?_
    rintro e W6 ⟨rfl, h6⟩
    have H6 := hide h6
    clear h6 H5
    go_wp2_with (fail)
    refine (known_c W6).mono ?_
    rintro e W7 ⟨rfl, hk⟩
    have H7 := hide (H6.out.on hk)
    clear hk H6
    go_wp2_with (fail)
    refine (now_odd w W7 w.heap.size _ 4 H7.out rfl).mono ?_
    rintro e w' ⟨rfl, rfl⟩
    go_wp2_with (fail)
    refine (now_count w W7 w.heap.size _ 5 H7.out rfl).mono ?_
    rintro e w' ⟨rfl, rfl⟩
    go_wp2_with (fail)
    refine (now_cells w W7 w.heap.size _ H7.out).mono ?_
    rintro e W8 ⟨a8, cap8, rfl, hr8, hc8, hm8, -, -, hk⟩
    have H8 := hide (H7.out.on hk)
    have HR8 := hide hr8
    have HC8 := hide hc8
    have HM8 := hide hm8
    clear hk H7 hr8 hc8 hm8
    go_wp2_with (fail)
    refine (words_k W8 a8 a0 zs cap8 cap HR8.out (H8.out.far HR.out) HC8.out HC.out HM8.out).mono ?_
    rintro e W9 ⟨rfl, hk⟩
    have H9 := hide (H8.out.on hk)
    clear hk H8
    go_wp2_with (fail)
    refine (now_look w W9 w.heap.size _ (a + 300) 0 H9.out (Mst.look_none (HU.out _ _))).mono ?_
    rintro e w' ⟨rfl, rfl⟩
    go_wp2_with (fail)
    refine (now_odd w W9 w.heap.size _ 4 H9.out rfl).mono ?_
    rintro e w' ⟨rfl, rfl⟩
    go_wp2
    go_ret
    exact ⟨rfl, H9.out.2⟩
  by_cases hb : 1 ≤ a
  · have hb2 : (zs.length : Int) < a := by omega
    have hu : ∀ c o : Int, (Mst.mk zs 300 c o r).used a = false := fun c o => unused ha
    have HU := hide hu
    clear hu ha
    go_enter Try.func6, Try.ntmps6
    go_wp2_with (fail)
    refine (now_new w w 300 (Kept.refl w) (by decide) (by decide)).mono ?_
    rintro e W1 ⟨rfl, h1, -⟩
    have H1 := hide h1
    clear h1
    go_wp2_with (fail)
    refine (now_put w W1 w.heap.size _ a0 zs cap _ _ ⟨zs, 300, 1, 0, r⟩ H1.out HR.out (by have := HC.out; have := HM.out; omega) rfl rfl HMK.out).mono ?_
    rintro e W2 ⟨rfl, h2⟩
    have H2 := hide h2
    clear h2 H1
    go_wp2_with (fail)
    refine (now_odd w W2 w.heap.size _ 0 H2.out rfl).mono ?_
    rintro e w' ⟨rfl, rfl⟩
    go_wp2_with (fail)
    refine (now_count w W2 w.heap.size _ 1 H2.out rfl).mono ?_
    rintro e w' ⟨rfl, rfl⟩
    go_wp2_with (fail)
    refine (now_write w W2 w.heap.size _ (a) x ⟨zs, 300, 2, 1, r⟩ H2.out (by rw [Mst.write_out (HU.out _ _), touch_out (HU.out _ _)]; simp [wrap64])).mono ?_
    rintro e W3 ⟨rfl, h3⟩
    have H3 := hide h3
    clear h3 H2
    go_wp2_with (fail)
    refine (now_cas w W3 w.heap.size _ (a) 0 y false ⟨zs, 300, 3, 2, r⟩ H3.out (Mst.did_out (HU.out _ _) _) (by rw [cas_out (HU.out _ _), touch_out (HU.out _ _)]; simp [wrap64])).mono ?_
    rintro e W4 ⟨rfl, h4⟩
    have H4 := hide h4
    clear h4 H3
    go_wp2_with (fail)
    refine (now_add w W4 w.heap.size _ (a) x 0 ⟨zs, 300, 4, 3, r⟩ H4.out (Mst.look_none (HU.out _ _)) (by rw [add_out (HU.out _ _), touch_out (HU.out _ _)]; simp [wrap64])).mono ?_
    rintro e W5 ⟨rfl, h5⟩
    have H5 := hide h5
    clear h5 H4
    go_wp2_with (fail)
    refine (now_read w W5 w.heap.size _ (a) 0 ⟨zs, 300, 5, 4, r⟩ H5.out (Mst.look_none (HU.out _ _)) (by rw [touch_out (HU.out _ _)]; simp [wrap64])).mono ?_
    rintro e W6 ⟨rfl, h6⟩
    have H6 := hide h6
    clear h6 H5
    go_wp2_with (fail)
    refine (known_c W6).mono ?_
    rintro e W7 ⟨rfl, hk⟩
    have H7 := hide (H6.out.on hk)
    clear hk H6
    go_wp2_with (fail)
    refine (now_odd w W7 w.heap.size _ 4 H7.out rfl).mono ?_
    rintro e w' ⟨rfl, rfl⟩
    go_wp2_with (fail)
    refine (now_count w W7 w.heap.size _ 5 H7.out rfl).mono ?_
    rintro e w' ⟨rfl, rfl⟩
    go_wp2_with (fail)
    refine (now_cells w W7 w.heap.size _ H7.out).mono ?_
    rintro e W8 ⟨a8, cap8, rfl, hr8, hc8, hm8, -, -, hk⟩
    have H8 := hide (H7.out.on hk)
    have HR8 := hide hr8
    have HC8 := hide hc8
    have HM8 := hide hm8
    clear hk H7 hr8 hc8 hm8
    go_wp2_with (fail)
    refine (words_k W8 a8 a0 zs cap8 cap HR8.out (H8.out.far HR.out) HC8.out HC.out HM8.out).mono ?_
    rintro e W9 ⟨rfl, hk⟩
    have H9 := hide (H8.out.on hk)
    clear hk H8
    go_wp2_with (fail)
    refine (now_look w W9 w.heap.size _ (a) 0 H9.out (Mst.look_none (HU.out _ _))).mono ?_
    rintro e w' ⟨rfl, rfl⟩
    go_wp2_with (fail)
    refine (now_odd w W9 w.heap.size _ 4 H9.out rfl).mono ?_
    rintro e w' ⟨rfl, rfl⟩
    go_wp2
    go_ret
    exact ⟨rfl, H9.out.2⟩
  · have hb2 : a < 1 := by omega
    have hu : ∀ c o : Int, (Mst.mk zs 300 c o r).used a = false := fun c o => unused ha
    have HU := hide hu
    clear hu ha
    go_enter Try.func6, Try.ntmps6
    go_wp2_with (fail)
    refine (now_new w w 300 (Kept.refl w) (by decide) (by decide)).mono ?_
    rintro e W1 ⟨rfl, h1, -⟩
    have H1 := hide h1
    clear h1
    go_wp2_with (fail)
    refine (now_put w W1 w.heap.size _ a0 zs cap _ _ ⟨zs, 300, 1, 0, r⟩ H1.out HR.out (by have := HC.out; have := HM.out; omega) rfl rfl HMK.out).mono ?_
    rintro e W2 ⟨rfl, h2⟩
    have H2 := hide h2
    clear h2 H1
    go_wp2_with (fail)
    refine (now_odd w W2 w.heap.size _ 0 H2.out rfl).mono ?_
    rintro e w' ⟨rfl, rfl⟩
    go_wp2_with (fail)
    refine (now_count w W2 w.heap.size _ 1 H2.out rfl).mono ?_
    rintro e w' ⟨rfl, rfl⟩
    go_wp2_with (fail)
    refine (now_write w W2 w.heap.size _ (a) x ⟨zs, 300, 2, 1, r⟩ H2.out (by rw [Mst.write_out (HU.out _ _), touch_out (HU.out _ _)]; simp [wrap64])).mono ?_
    rintro e W3 ⟨rfl, h3⟩
    have H3 := hide h3
    clear h3 H2
    go_wp2_with (fail)
    refine (now_cas w W3 w.heap.size _ (a) 0 y false ⟨zs, 300, 3, 2, r⟩ H3.out (Mst.did_out (HU.out _ _) _) (by rw [cas_out (HU.out _ _), touch_out (HU.out _ _)]; simp [wrap64])).mono ?_
    rintro e W4 ⟨rfl, h4⟩
    have H4 := hide h4
    clear h4 H3
    go_wp2_with (fail)
    refine (now_add w W4 w.heap.size _ (a) x 0 ⟨zs, 300, 4, 3, r⟩ H4.out (Mst.look_none (HU.out _ _)) (by rw [add_out (HU.out _ _), touch_out (HU.out _ _)]; simp [wrap64])).mono ?_
    rintro e W5 ⟨rfl, h5⟩
    have H5 := hide h5
    clear h5 H4
    go_wp2_with (fail)
    refine (now_read w W5 w.heap.size _ (a) 0 ⟨zs, 300, 5, 4, r⟩ H5.out (Mst.look_none (HU.out _ _)) (by rw [touch_out (HU.out _ _)]; simp [wrap64])).mono ?_
    rintro e W6 ⟨rfl, h6⟩
    have H6 := hide h6
    clear h6 H5
    go_wp2_with (fail)
    refine (known_c W6).mono ?_
    rintro e W7 ⟨rfl, hk⟩
    have H7 := hide (H6.out.on hk)
    clear hk H6
    go_wp2_with (fail)
    refine (now_odd w W7 w.heap.size _ 4 H7.out rfl).mono ?_
    rintro e w' ⟨rfl, rfl⟩
    go_wp2_with (fail)
    refine (now_count w W7 w.heap.size _ 5 H7.out rfl).mono ?_
    rintro e w' ⟨rfl, rfl⟩
    go_wp2_with (fail)
    refine (now_cells w W7 w.heap.size _ H7.out).mono ?_
    rintro e W8 ⟨a8, cap8, rfl, hr8, hc8, hm8, -, -, hk⟩
    have H8 := hide (H7.out.on hk)
    have HR8 := hide hr8
    have HC8 := hide hc8
    have HM8 := hide hm8
    clear hk H7 hr8 hc8 hm8
    go_wp2_with (fail)
    refine (words_k W8 a8 a0 zs cap8 cap HR8.out (H8.out.far HR.out) HC8.out HC.out HM8.out).mono ?_
    rintro e W9 ⟨rfl, hk⟩
    have H9 := hide (H8.out.on hk)
    clear hk H8
    go_wp2_with (fail)
    refine (now_look w W9 w.heap.size _ (a) 0 H9.out (Mst.look_none (HU.out _ _))).mono ?_
    rintro e w' ⟨rfl, rfl⟩
    go_wp2_with (fail)
    refine (now_odd w W9 w.heap.size _ 4 H9.out rfl).mono ?_
    rintro e w' ⟨rfl, rfl⟩
    go_wp2
    go_ret
    exact ⟨rfl, H9.out.2⟩
end Go.Proofs.Ytfgflfjlepgfpaa
