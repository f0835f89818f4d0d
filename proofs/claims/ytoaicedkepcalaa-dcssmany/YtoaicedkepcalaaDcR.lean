/-
  What DcssRoom answers: true, of whatever numbers; nothing that lay is turned. No conditions but those of its arguments.
-/
import Derived.Test.YtoaicedkepcalaaDcL
namespace Go.Proofs.Ytoaicedkepcalaa
open Go.RowKit
set_option maxRecDepth 20000

theorem cut_k (w : World) (x n r : Int) (h0 : 0 < n) (h1 : n ≤ 100000) (e : x % n = r) : Calls Try.prog 17 #[.int .i64 x, .int .i64 n] w fun e w' => e = .returned (.int .i64 r) ∧ w = w' := e ▸ cut_g w x n h0 h1
theorem now_cells' (w W : World) (b : Nat) (s : Mst) (q : List Int) (h : Now w W b s) (e1 : s.xs = q) : Calls Try.prog 25 #[.pointer (some ⟨b, 0, none⟩)] W fun e W' => ∃ a cap, e = .returned (.slice a q.length cap) ∧ Row W' W.heap.size 2 (.slice a q.length cap) q ∧ q.length ≤ cap ∧ cap ≤ maxLen ∧ Reads W' a q ∧ Kept W W' := e1 ▸ now_cells w W b s h
def roM (n s c : Int) : Mst := ⟨[1, 0, 0, 0, 0, s, 0], 7 + n, c, 0, 0⟩
theorem ro_is (n : Int) : begun (Mst.new (7 + n)) = roM n 57 2 := by simp [begun, Mst.new, roM, wrap64]
theorem ro_write (n z : Int) : (roM n 57 2).write 6 z = roM n z 3 := by simp [Mst.write, Mst.touch, Mst.put, Mst.used, roM, wrap64]
theorem ro_ok {n s c : Int} (h2 : I64 s) : ∀ a, I64 ((roM n s c).look a) := Mst.look_i64 (fun z hz => by
  simp only [roM, List.mem_cons, List.not_mem_nil, or_false] at hz
  rcases hz with rfl | rfl | rfl | rfl | rfl | rfl | rfl
  all_goals first | assumption | exact ⟨by decide, by decide⟩)
theorem ro_full {n old x : Int} (h : n < 5) : (Dp.new 3 6 old x).step (roM n old 3) = (⟨6, 3, 6, old, x, 0, 3⟩, ⟨[1, 0, 0, 0, 0, old, 0], 7 + n, 4, 0, 1⟩) := by
  have hf : ¬ (5 ≤ n) := by omega
  simp [Dp.step, Dp.new, Mst.fits, Mst.make, Dp.ws, roM, wrap64]
  omega
theorem ro_fits {n old x : Int} (h : ¬ n < 5) : (Dp.new 3 6 old x).step (roM n old 3) = (⟨1, 3, 6, old, x, 8, 0⟩, ⟨[1, 0, 0, 0, 0, old, 0, 3, 6, old, x, 0], 7 + n, 4, 0, 0⟩) := by
  have hf' : (12 : Int) ≤ 7 + n := by omega
  simp [Dp.step, Dp.new, Mst.fits, Mst.next, Mst.make, Dp.ws, roM, wrap64, hf']

set_option maxHeartbeats 8000000 in
theorem dcssRoom_c (w : World) (pad old x : Int) (i1 : I64 old) (i2 : I64 x) :
    Calls Try.prog 6 #[.int .i64 pad, .int .i64 old, .int .i64 x] w fun e w' => e = .returned (.bool true) ∧ Kept w w' := by
  obtain ⟨n, hn⟩ : ∃ n, pad % 9 = n := ⟨_, rfl⟩
  have n0 : 0 ≤ n := by omega
  have n8 : n ≤ 8 := by omega
  have CN : ∀ W, Calls Try.prog 17 #[.int .i64 pad, .int .i64 9] W fun e W' => e = .returned (.int .i64 n) ∧ W = W' := fun W => cut_k W pad 9 n (by decide) (by decide) hn
  clear hn
  obtain ⟨k1, hk1⟩ : ∃ k, kd old = k := ⟨_, rfl⟩
  obtain ⟨k3, hk3⟩ : ∃ k, kd x = k := ⟨_, rfl⟩
  have HK1 := hide hk1
  have HK3 := hide hk3
  have I1 := hide i1
  have I2 := hide i2
  clear hk1 hk3 i1 i2
  by_cases h5 : k1 = 5
  · subst h5
    go_enter Try.func6, Try.ntmps6
    go_wp2_with (fail)
    refine (CN w).mono ?_
    rintro e w' ⟨rfl, rfl⟩
    go_wp2_with (fail)
    refine (now_new w w (7 + n) (Kept.refl w) (by omega) (by omega)).mono ?_
    rintro e W1 ⟨rfl, h1, -⟩
    have H1 := hide h1
    obtain ⟨b, hb⟩ : ∃ b, w.heap.size = b := ⟨_, rfl⟩
    rw [hb] at H1
    clear h1
    rw [hb]
    clear hb
    go_wp2_with (fail)
    refine (begin_c w W1 _ _ H1.out rfl (by show (7 : Int) ≤ 7 + n; omega)).mono ?_
    rintro e W2 ⟨rfl, h2⟩
    have H2 := hide h2
    rw [ro_is] at H2
    clear h2 H1
    go_wp2_with (fail)
    refine (kk_q W2 old _ I1.out HK1.out).mono ?_
    rintro e w' ⟨rfl, rfl⟩
    go_wp2_with (fail)
    refine (known_c W2).mono ?_
    rintro e W3 ⟨rfl, k3⟩
    have K3 := hide (H2.out.2.trans k3)
    clear k3
    go_wp2
    go_ret
    exact ⟨rfl, K3.out⟩
  have g1 : (k1 == 5) = false := by simp [h5]
  by_cases h7 : k3 = 5
  · subst h7
    go_enter Try.func6, Try.ntmps6
    go_wp2_with (fail)
    refine (CN w).mono ?_
    rintro e w' ⟨rfl, rfl⟩
    go_wp2_with (fail)
    refine (now_new w w (7 + n) (Kept.refl w) (by omega) (by omega)).mono ?_
    rintro e W1 ⟨rfl, h1, -⟩
    have H1 := hide h1
    obtain ⟨b, hb⟩ : ∃ b, w.heap.size = b := ⟨_, rfl⟩
    rw [hb] at H1
    clear h1
    rw [hb]
    clear hb
    go_wp2_with (fail)
    refine (begin_c w W1 _ _ H1.out rfl (by show (7 : Int) ≤ 7 + n; omega)).mono ?_
    rintro e W2 ⟨rfl, h2⟩
    have H2 := hide h2
    rw [ro_is] at H2
    clear h2 H1
    go_wp2_with (fail)
    refine (kk_q W2 old _ I1.out HK1.out).mono ?_
    rintro e w' ⟨rfl, rfl⟩
    go_wp2_with (fail)
    refine (kk_q W2 x _ I2.out HK3.out).mono ?_
    rintro e w' ⟨rfl, rfl⟩
    go_wp2_with (fail)
    refine (known_c W2).mono ?_
    rintro e W3 ⟨rfl, k3⟩
    have K3 := hide (H2.out.2.trans k3)
    clear k3
    go_wp2
    go_ret
    exact ⟨rfl, K3.out⟩
  have g3 : (k3 == 5) = false := by simp [h7]
  clear h5 h7
  by_cases hn5 : n < 5
  · have E := hide (ro_full (old := old) (x := x) hn5)
    go_enter Try.func6, Try.ntmps6
    go_wp2_with (fail)
    refine (CN w).mono ?_
    rintro e w' ⟨rfl, rfl⟩
    go_wp2_with (fail)
    refine (now_new w w (7 + n) (Kept.refl w) (by omega) (by omega)).mono ?_
    rintro e W1 ⟨rfl, h1, -⟩
    have H1 := hide h1
    obtain ⟨b, hb⟩ : ∃ b, w.heap.size = b := ⟨_, rfl⟩
    rw [hb] at H1
    clear h1
    rw [hb]
    clear hb
    go_wp2_with (fail)
    refine (begin_c w W1 _ _ H1.out rfl (by show (7 : Int) ≤ 7 + n; omega)).mono ?_
    rintro e W2 ⟨rfl, h2⟩
    have H2 := hide h2
    rw [ro_is] at H2
    clear h2 H1
    go_wp2_with (fail)
    refine (kk_q W2 old _ I1.out HK1.out).mono ?_
    rintro e w' ⟨rfl, rfl⟩
    go_wp2_with (fail)
    refine (kk_q W2 x _ I2.out HK3.out).mono ?_
    rintro e w' ⟨rfl, rfl⟩
    go_wp2_with (fail)
    refine (d_write w W2 b _ 6 old (roM n old 3) H2.out (ro_write n old)).mono ?_
    rintro e W3 ⟨rfl, h3, -⟩
    have H3 := hide h3
    clear h3 H2 g1 g3
    obtain ⟨⟨v, hm⟩, hk⟩ := H3.out
    have HM := hide hm
    have HK := hide hk
    clear hm hk H3
    go_wp2_with (fail)
    refine (cells_c W3 _ b v _ HM.out).mono ?_
    intro e W4 hF
    obtain ⟨q, hq⟩ : ∃ q, (roM n old 3).xs = q := ⟨_, rfl⟩
    have Q0 : q ≠ [] := by rw [← hq]; simp [roM]
    rw [hq] at hF
    have HQ : Hid ([1, 0, 0, 0, 0, old, 0] = q) := hide hq
    obtain ⟨fa, fc, rfl, hr, hc1, hc2, hnew, _, hk4⟩ := hF.form
    have M4 := hide (HM.out.kept hk4)
    have K4 := hide (HK.out.trans hk4)
    have R4 := hide hr
    have RA : Hid (∀ k, (∃ ad, fa = some ad ∧ ad.block = k) → ¬ Foot b v k ∧ k < W4.heap.size) := hide (by
      rintro k ⟨ad, e, rfl⟩
      refine ⟨fun ef => ?_, hr.lt Q0 ad e⟩
      have h1 := hnew ad e
      have h2 := (HM.out.lt _ ef).2
      omega)
    have C1 := hide hc1
    have C2 := hide hc2
    clear hF hr hc1 hc2 hnew hk4 HM HK hq Q0
    go_wp2_with (fail)
    refine (dp_new W4 3 6 old x).mono ?_
    rintro e W5 ⟨rfl, p5, k5⟩
    have M5 := hide (M4.out.kept k5)
    have K5 := hide (K4.out.trans k5)
    have R5 := hide (R4.out.kept k5)
    have NF := hide K4.out.size
    have RF : Hid (∀ k, (∃ ad, fa = some ad ∧ ad.block = k) → ¬ (k = W4.heap.size ∨ Foot b v k)) := hide (fun k hk e => by
      obtain ⟨h1, h2⟩ := RA.out k hk
      rcases e with e | e
      · omega
      · exact h1 e)
    obtain ⟨f, hf⟩ : ∃ f, W4.heap.size = f := ⟨_, rfl⟩
    have P5 := hide p5
    rw [hf] at P5 NF RF
    clear p5 k5 M4 K4 R4 RA
    rw [hf]
    clear hf
    go_wp2_with (fail)
    refine (dp_step W5 _ b v f _ _ P5.out M5.out K5.out.size (by simp [Dp.new]) (by simp [Dp.new]) (ro_ok I1.out) (foot_ty M5.out P5.out (by decide) (by decide)) _ _ true E.out rfl).mono ?_
    rintro e W6 ⟨rfl, v', R6⟩
    have P6 := hide R6.frame
    have M6 : Hid (Now w W6 b _) := hide ⟨⟨v', R6.mem⟩, K5.out.own (fun i hi => hi.elim (fun e => e ▸ NF.out) (fun e => (M5.out.lt i e).1)) R6.turned⟩
    have RD6 := hide (R5.out.turned R6.turned (fun k _ hk => RF.out k hk))
    clear R6 M5 K5 R5 P5 RF
    go_wp2_with (fail)
    refine (known_c W6).mono ?_
    rintro e W7 ⟨rfl, k7⟩
    have M7 := hide (M6.out.on k7)
    have P7 := hide (P6.out.kept k7)
    have R7 := hide (RD6.out.kept k7)
    clear k7 M6 P6 RD6
    go_wp2_with (fail)
    refine (dp_outcome W7 f _ P7.out 3 (by simp)).mono ?_
    rintro e w' ⟨rfl, rfl⟩
    go_wp2_with (fail)
    refine (dp_rec W7 f _ P7.out 0 rfl).mono ?_
    rintro e w' ⟨rfl, rfl⟩
    go_wp2_with (fail)
    refine (now_cells' w W7 b _ q M7.out HQ.out).mono ?_
    rintro e W8 ⟨a2, c2, rfl, _, d1, d2, d3, k8⟩
    have M8 := hide (M7.out.on k8)
    have R8 := hide (R7.out.kept k8)
    have D1 := hide d1
    have D2 := hide d2
    have D3 := hide d3
    clear k8 d1 d2 d3 M7 P7 R7
    go_wp2_with (fail)
    refine (words_c W8 a2 fa q c2 fc D3.out R8.out D1.out C1.out D2.out).mono ?_
    rintro e W9 ⟨rfl, dn, rfl⟩
    have M9 := hide (M8.out.on (Kept.drewN W8 dn))
    clear M8
    go_wp2_with (fail)
    refine (now_ref w _ b _ 1 M9.out rfl).mono ?_
    rintro e w' ⟨rfl, rfl⟩
    have KX := hide M9.out.2
    clear M9 R8
    go_wp2
    go_ret
    exact ⟨rfl, KX.out⟩
  · have E := hide (ro_fits (old := old) (x := x) hn5)
    go_enter Try.func6, Try.ntmps6
    go_wp2_with (fail)
    refine (CN w).mono ?_
    rintro e w' ⟨rfl, rfl⟩
    go_wp2_with (fail)
    refine (now_new w w (7 + n) (Kept.refl w) (by omega) (by omega)).mono ?_
    rintro e W1 ⟨rfl, h1, -⟩
    have H1 := hide h1
    obtain ⟨b, hb⟩ : ∃ b, w.heap.size = b := ⟨_, rfl⟩
    rw [hb] at H1
    clear h1
    rw [hb]
    clear hb
    go_wp2_with (fail)
    refine (begin_c w W1 _ _ H1.out rfl (by show (7 : Int) ≤ 7 + n; omega)).mono ?_
    rintro e W2 ⟨rfl, h2⟩
    have H2 := hide h2
    rw [ro_is] at H2
    clear h2 H1
    go_wp2_with (fail)
    refine (kk_q W2 old _ I1.out HK1.out).mono ?_
    rintro e w' ⟨rfl, rfl⟩
    go_wp2_with (fail)
    refine (kk_q W2 x _ I2.out HK3.out).mono ?_
    rintro e w' ⟨rfl, rfl⟩
    go_wp2_with (fail)
    refine (d_write w W2 b _ 6 old (roM n old 3) H2.out (ro_write n old)).mono ?_
    rintro e W3 ⟨rfl, h3, -⟩
    have H3 := hide h3
    clear h3 H2 g1 g3
    obtain ⟨⟨v, hm⟩, hk⟩ := H3.out
    have HM := hide hm
    have HK := hide hk
    clear hm hk H3
    go_wp2_with (fail)
    refine (cells_c W3 _ b v _ HM.out).mono ?_
    intro e W4 hF
    obtain ⟨q, hq⟩ : ∃ q, (roM n old 3).xs = q := ⟨_, rfl⟩
    have Q0 : q ≠ [] := by rw [← hq]; simp [roM]
    rw [hq] at hF
    have HQ : Hid ([1, 0, 0, 0, 0, old, 0] = q) := hide hq
    obtain ⟨fa, fc, rfl, hr, hc1, hc2, hnew, _, hk4⟩ := hF.form
    have M4 := hide (HM.out.kept hk4)
    have K4 := hide (HK.out.trans hk4)
    have R4 := hide hr
    have RA : Hid (∀ k, (∃ ad, fa = some ad ∧ ad.block = k) → ¬ Foot b v k ∧ k < W4.heap.size) := hide (by
      rintro k ⟨ad, e, rfl⟩
      refine ⟨fun ef => ?_, hr.lt Q0 ad e⟩
      have h1 := hnew ad e
      have h2 := (HM.out.lt _ ef).2
      omega)
    have C1 := hide hc1
    have C2 := hide hc2
    clear hF hr hc1 hc2 hnew hk4 HM HK hq Q0
    go_wp2_with (fail)
    refine (dp_new W4 3 6 old x).mono ?_
    rintro e W5 ⟨rfl, p5, k5⟩
    have M5 := hide (M4.out.kept k5)
    have K5 := hide (K4.out.trans k5)
    have R5 := hide (R4.out.kept k5)
    have NF := hide K4.out.size
    have RF : Hid (∀ k, (∃ ad, fa = some ad ∧ ad.block = k) → ¬ (k = W4.heap.size ∨ Foot b v k)) := hide (fun k hk e => by
      obtain ⟨h1, h2⟩ := RA.out k hk
      rcases e with e | e
      · omega
      · exact h1 e)
    obtain ⟨f, hf⟩ : ∃ f, W4.heap.size = f := ⟨_, rfl⟩
    have P5 := hide p5
    rw [hf] at P5 NF RF
    clear p5 k5 M4 K4 R4 RA
    rw [hf]
    clear hf
    go_wp2_with (fail)
    refine (dp_step W5 _ b v f _ _ P5.out M5.out K5.out.size (by simp [Dp.new]) (by simp [Dp.new]) (ro_ok I1.out) (foot_ty M5.out P5.out (by decide) (by decide)) _ _ false E.out rfl).mono ?_
    rintro e W6 ⟨rfl, v', R6⟩
    have P6 := hide R6.frame
    have M6 : Hid (Now w W6 b _) := hide ⟨⟨v', R6.mem⟩, K5.out.own (fun i hi => hi.elim (fun e => e ▸ NF.out) (fun e => (M5.out.lt i e).1)) R6.turned⟩
    have RD6 := hide (R5.out.turned R6.turned (fun k _ hk => RF.out k hk))
    clear R6 M5 K5 R5 P5 RF
    go_wp2_with (fail)
    refine (known_c W6).mono ?_
    rintro e W7 ⟨rfl, k7⟩
    have M7 := hide (M6.out.on k7)
    have P7 := hide (P6.out.kept k7)
    have R7 := hide (RD6.out.kept k7)
    clear k7 M6 P6 RD6
    clear R7
    go_wp2_with (fail)
    refine (dp_rec W7 f _ P7.out 8 rfl).mono ?_
    rintro e w' ⟨rfl, rfl⟩
    go_wp2_with (fail)
    refine (now_used w _ b _ 12 M7.out rfl).mono ?_
    rintro e w' ⟨rfl, rfl⟩
    go_wp2_with (fail)
    refine (now_ref w _ b _ 0 M7.out rfl).mono ?_
    rintro e w' ⟨rfl, rfl⟩
    have KX := hide M7.out.2
    clear M7 P7
    go_wp2
    go_ret
    exact ⟨rfl, KX.out⟩
end Go.Proofs.Ytoaicedkepcalaa
