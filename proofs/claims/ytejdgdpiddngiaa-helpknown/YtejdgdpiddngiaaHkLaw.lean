/-
  What HelpKnown answers: true. No conditions.
-/
import Derived.Test.YtejdgdpiddngiaaKnLaw
import Derived.BigQuiet
import Derived.Deep.QuietTactic
namespace Go.Proofs.Ytejdgdpiddngiaa
open Go.RowKit
set_option maxRecDepth 20000
theorem kk_two (w : World) (a b : Obj) : Kept w ((w.alloc a).alloc b) := (show Kept w (w.alloc a) from Turned.alloc _ _ _).trans (Turned.alloc _ _ _)
def kk1 : Mst := ⟨[1, 0, 1, 0, 0, 69, 0, 3, 6, 57, 66, 0], 20, 5, 0, 0⟩
def kk2 : Mst := ⟨[1, 0, 1, 0, 0, 69, 0, 3, 6, 57, 66, 1], 20, 6, 0, 0⟩
def kk3 : Mst := ⟨[1, 0, 1, 0, 0, 74, 0, 3, 6, 57, 66, 0], 20, 6, 0, 0⟩
theorem kk1_ok : itB kk1 = true := by kernel_rfl
theorem kk2_ok : itB kk2 = true := by kernel_rfl
theorem kk3_ok : itB kk3 = true := by kernel_rfl
set_option maxHeartbeats 4000000 in
theorem helpKnown_c (w : World) : Calls Try.prog 3 #[] w fun e w' => e = .returned (.bool true) ∧ Kept w w' := by
  go_enter Try.func3, Try.ntmps3
  go_wp2_with (fail)
  go_loopw [1, 2, 3, 4, 5, 6, 7] (fun vi _ _ _ _ _ _ wr => ∃ i : Int, 0 ≤ i ∧ i ≤ 4 ∧ vi = .int .i64 i ∧ Kept w wr) (fun vi _ _ _ _ _ _ _ => (4 - intOf vi).toNat)
  case atStart => exact ⟨0, by omega, by omega, rfl, Kept.refl w⟩
  case round =>
    obtain ⟨i, i0, i4, rfl, kw⟩ := hrel
    have KW := hide kw
    clear kw
    obtain rfl | rfl | rfl | rfl | rfl : i = 0 ∨ i = 1 ∨ i = 2 ∨ i = 3 ∨ i = 4 := by omega
    · clear i0 i4
      go_wp2_with (fail)
      refine (now_new w wr 20 KW.out (by decide) (by decide)).mono ?_
      rintro e W1 ⟨rfl, h1, -⟩
      have H1 := hide h1
      obtain ⟨b, hb⟩ : ∃ b, wr.heap.size = b := ⟨_, rfl⟩
      rw [hb] at H1
      clear h1
      rw [hb]
      clear hb
      go_wp2_with (fail)
      refine (begin_c w W1 _ _ H1.out rfl (by decide)).mono ?_
      rintro e W2 ⟨rfl, h2⟩
      have H2 := hide h2
      rw [kn1_is] at H2
      clear h2 H1
      go_wp2_with (fail)
      refine (dcss_c W2 3 6 57 66).mono ?_
      intro e W3 hF
      obtain ⟨fa, fc, rfl, hr, hc1, hc2, hn, _, hk⟩ := hF.form
      have H3 := hide (H2.out.on hk)
      have HR := hide hr
      have HNB : Hid (∀ ad, fa = some ad → ad.block ≠ b) := hide (fun ad e => by have := hn ad e; have := H2.out.lt.2; omega)
      clear hF hr hc1 hc2 hn hk H2
      go_wp2_with (fail)
      refine (now_make w W3 b _ fa [3, 6, 57, 66, 0] fc 8 true kn2 H3.out HR.out (by unfold maxLen; decide) (fun _ => HNB.out) (by kernel_rfl) (by kernel_rfl) (by kernel_rfl)).mono ?_
      rintro e W4 ⟨rfl, h4⟩
      have H4 := hide h4
      clear h4 H3 HR HNB
      go_wp2_with (fail)
      refine (now_write w W4 b _ 6 69 knK H4.out (by kernel_rfl)).mono ?_
      rintro e W5 ⟨rfl, h5⟩
      have H5 := hide h5
      clear h5 H4
      go_wp2_with (fail)
      refine (hp_new W5 8).mono ?_
      rintro e V0 ⟨rfl, p6, k6⟩
      obtain ⟨f, hf⟩ : ∃ f, W5.heap.size = f := ⟨_, rfl⟩
      have M6 := hide (H5.out.frame k6 p6)
      rw [hf] at M6
      clear p6 k6 H5
      rw [hf]
      clear hf
      go_wp2_with (fail)
      rename World => U0
      go_loopw [5] (fun vn wr => ∃ k : Nat, k ≤ 7 ∧ vn = .int .i64 (k : Int) ∧ Hid (MF w wr b (it knK k).2 f (it knK k).1)) (fun vn _ => (20 - intOf vn).toNat)
      case atStart => exact ⟨0, by omega, by simp, M6⟩
      case round =>
        obtain ⟨k, k7, rfl, M7⟩ := hrel
        clear M6
        by_cases hk : k = 7
        · subst hk
          clear k7
          obtain ⟨S, hS⟩ : ∃ S, (it knK 7).2 = S := ⟨_, rfl⟩
          have x0 : S.look 6 = 66 := by rw [← hS]; kernel_rfl
          have x1 : S.look 12 = 1 := by rw [← hS]; kernel_rfl
          have HN : Now w wr b S := by rw [← hS]; exact M7.out.now
          have hlk : ∀ (k : Nat) (x : Int), Calls Try.prog 13 #[.pointer (some ⟨b, 0, none⟩), .int .i64 x] (((wr.alloc (.cells #[.int .i64 66, .int .i64 57, .int .i64 66, .int .i64 74] 35)).alloc (.cells #[.int .i64 1, .int .i64 2, .int .i64 1, .int .i64 2] 35)).drewN k) fun e w' => e = .returned (.int .i64 (S.look x)) ∧ w' = (((wr.alloc (.cells #[.int .i64 66, .int .i64 57, .int .i64 66, .int .i64 74] 35)).alloc (.cells #[.int .i64 1, .int .i64 2, .int .i64 1, .int .i64 2] 35)).drewN k) := fun k x => (now_look w _ b S x _ (HN.on ((kk_two _ _ _).drewN' k)) rfl).mono fun _ _ h => ⟨h.1, h.2.symm⟩
          have KE : Hid (∀ k, Kept w (((wr.alloc (.cells #[.int .i64 66, .int .i64 57, .int .i64 66, .int .i64 74] 35)).alloc (.cells #[.int .i64 1, .int .i64 2, .int .i64 1, .int .i64 2] 35)).drewN k)) := hide (fun k => HN.2.trans ((kk_two _ _ _).drewN' k))
          clear hS M7 HN
          go_wp2_with (fail)
          go_quiet (first | (go_at_call 13; refine Calls.quiet_of_same (hlk _ _)))
          go_wp2
          exact ⟨⟨1, by omega, by omega, by simp, KE.out _⟩, by simp [intOf]⟩
        · have k1 : k < 7 := by omega
          have IK := hide (it_ok knK_ok k k1)
          have i1 : (k : Int) < 7 := by omega
          clear k7
          go_wp2_with (fail)
          refine (hp_done wr f _ M7.out.frame false IK.out.n).mono ?_
          rintro e V1 ⟨rfl, rfl⟩
          go_wp2_with (fail)
          refine (mf_step w wr b _ f _ M7.out IK.out.ok IK.out.i64 _ _ (decide (k = 6)) (it_step knK k) IK.out.n').mono ?_
          rintro e V2 ⟨rfl, m8⟩
          have M8 := hide m8
          clear m8 M7
          by_cases hk6 : k = 6
          · subst hk6
            go_wp2
            exact ⟨⟨7, by omega, by simp, M8⟩, by simp only [intOf]; omega⟩
          · have g6 : decide (k = 6) = false := by simp [hk6]
            have g7 : ((k : Int) == 6) = false := by simp; omega
            rw [g6]
            go_wp2
            exact ⟨⟨k + 1, by omega, by simp, M8⟩, by simp only [intOf]; omega⟩
    · clear i0 i4
      go_wp2_with (fail)
      refine (now_new w wr 20 KW.out (by decide) (by decide)).mono ?_
      rintro e W1 ⟨rfl, h1, -⟩
      have H1 := hide h1
      obtain ⟨b, hb⟩ : ∃ b, wr.heap.size = b := ⟨_, rfl⟩
      rw [hb] at H1
      clear h1
      rw [hb]
      clear hb
      go_wp2_with (fail)
      refine (begin_c w W1 _ _ H1.out rfl (by decide)).mono ?_
      rintro e W2 ⟨rfl, h2⟩
      have H2 := hide h2
      rw [kn1_is] at H2
      clear h2 H1
      go_wp2_with (fail)
      refine (dcss_c W2 3 6 57 66).mono ?_
      intro e W3 hF
      obtain ⟨fa, fc, rfl, hr, hc1, hc2, hn, _, hk⟩ := hF.form
      have H3 := hide (H2.out.on hk)
      have HR := hide hr
      have HNB : Hid (∀ ad, fa = some ad → ad.block ≠ b) := hide (fun ad e => by have := hn ad e; have := H2.out.lt.2; omega)
      clear hF hr hc1 hc2 hn hk H2
      go_wp2_with (fail)
      refine (now_make w W3 b _ fa [3, 6, 57, 66, 0] fc 8 true kn2 H3.out HR.out (by unfold maxLen; decide) (fun _ => HNB.out) (by kernel_rfl) (by kernel_rfl) (by kernel_rfl)).mono ?_
      rintro e W4 ⟨rfl, h4⟩
      have H4 := hide h4
      clear h4 H3 HR HNB
      go_wp2_with (fail)
      refine (now_write w W4 b _ 6 69 knK H4.out (by kernel_rfl)).mono ?_
      rintro e W5 ⟨rfl, h5⟩
      have H5 := hide h5
      clear h5 H4
      go_wp2_with (fail)
      refine (now_write w W5 b _ 3 1 kk1 H5.out (by kernel_rfl)).mono ?_
      rintro e W6 ⟨rfl, h6⟩
      have H6 := hide h6
      clear h6 H5
      go_wp2_with (fail)
      refine (hp_new W6 8).mono ?_
      rintro e V0 ⟨rfl, p6, k6⟩
      obtain ⟨f, hf⟩ : ∃ f, W6.heap.size = f := ⟨_, rfl⟩
      have M6 := hide (H6.out.frame k6 p6)
      rw [hf] at M6
      clear p6 k6 H6
      rw [hf]
      clear hf
      go_wp2_with (fail)
      rename World => U0
      go_loopw [5] (fun vn wr => ∃ k : Nat, k ≤ 7 ∧ vn = .int .i64 (k : Int) ∧ Hid (MF w wr b (it kk1 k).2 f (it kk1 k).1)) (fun vn _ => (20 - intOf vn).toNat)
      case atStart => exact ⟨0, by omega, by simp, M6⟩
      case round =>
        obtain ⟨k, k7, rfl, M7⟩ := hrel
        clear M6
        by_cases hk : k = 7
        · subst hk
          clear k7
          obtain ⟨S, hS⟩ : ∃ S, (it kk1 7).2 = S := ⟨_, rfl⟩
          have x0 : S.look 6 = 57 := by rw [← hS]; kernel_rfl
          have x1 : S.look 12 = 2 := by rw [← hS]; kernel_rfl
          have HN : Now w wr b S := by rw [← hS]; exact M7.out.now
          have hlk : ∀ (k : Nat) (x : Int), Calls Try.prog 13 #[.pointer (some ⟨b, 0, none⟩), .int .i64 x] (((wr.alloc (.cells #[.int .i64 66, .int .i64 57, .int .i64 66, .int .i64 74] 35)).alloc (.cells #[.int .i64 1, .int .i64 2, .int .i64 1, .int .i64 2] 35)).drewN k) fun e w' => e = .returned (.int .i64 (S.look x)) ∧ w' = (((wr.alloc (.cells #[.int .i64 66, .int .i64 57, .int .i64 66, .int .i64 74] 35)).alloc (.cells #[.int .i64 1, .int .i64 2, .int .i64 1, .int .i64 2] 35)).drewN k) := fun k x => (now_look w _ b S x _ (HN.on ((kk_two _ _ _).drewN' k)) rfl).mono fun _ _ h => ⟨h.1, h.2.symm⟩
          have KE : Hid (∀ k, Kept w (((wr.alloc (.cells #[.int .i64 66, .int .i64 57, .int .i64 66, .int .i64 74] 35)).alloc (.cells #[.int .i64 1, .int .i64 2, .int .i64 1, .int .i64 2] 35)).drewN k)) := hide (fun k => HN.2.trans ((kk_two _ _ _).drewN' k))
          clear hS M7 HN
          go_wp2_with (fail)
          go_quiet (first | (go_at_call 13; refine Calls.quiet_of_same (hlk _ _)))
          go_wp2
          exact ⟨⟨2, by omega, by omega, by simp, KE.out _⟩, by simp [intOf]⟩
        · have k1 : k < 7 := by omega
          have IK := hide (it_ok kk1_ok k k1)
          have i1 : (k : Int) < 7 := by omega
          clear k7
          go_wp2_with (fail)
          refine (hp_done wr f _ M7.out.frame false IK.out.n).mono ?_
          rintro e V1 ⟨rfl, rfl⟩
          go_wp2_with (fail)
          refine (mf_step w wr b _ f _ M7.out IK.out.ok IK.out.i64 _ _ (decide (k = 6)) (it_step kk1 k) IK.out.n').mono ?_
          rintro e V2 ⟨rfl, m8⟩
          have M8 := hide m8
          clear m8 M7
          by_cases hk6 : k = 6
          · subst hk6
            go_wp2
            exact ⟨⟨7, by omega, by simp, M8⟩, by simp only [intOf]; omega⟩
          · have g6 : decide (k = 6) = false := by simp [hk6]
            have g7 : ((k : Int) == 6) = false := by simp; omega
            rw [g6]
            go_wp2
            exact ⟨⟨k + 1, by omega, by simp, M8⟩, by simp only [intOf]; omega⟩
    · clear i0 i4
      go_wp2_with (fail)
      refine (now_new w wr 20 KW.out (by decide) (by decide)).mono ?_
      rintro e W1 ⟨rfl, h1, -⟩
      have H1 := hide h1
      obtain ⟨b, hb⟩ : ∃ b, wr.heap.size = b := ⟨_, rfl⟩
      rw [hb] at H1
      clear h1
      rw [hb]
      clear hb
      go_wp2_with (fail)
      refine (begin_c w W1 _ _ H1.out rfl (by decide)).mono ?_
      rintro e W2 ⟨rfl, h2⟩
      have H2 := hide h2
      rw [kn1_is] at H2
      clear h2 H1
      go_wp2_with (fail)
      refine (dcss_c W2 3 6 57 66).mono ?_
      intro e W3 hF
      obtain ⟨fa, fc, rfl, hr, hc1, hc2, hn, _, hk⟩ := hF.form
      have H3 := hide (H2.out.on hk)
      have HR := hide hr
      have HNB : Hid (∀ ad, fa = some ad → ad.block ≠ b) := hide (fun ad e => by have := hn ad e; have := H2.out.lt.2; omega)
      clear hF hr hc1 hc2 hn hk H2
      go_wp2_with (fail)
      refine (now_make w W3 b _ fa [3, 6, 57, 66, 0] fc 8 true kn2 H3.out HR.out (by unfold maxLen; decide) (fun _ => HNB.out) (by kernel_rfl) (by kernel_rfl) (by kernel_rfl)).mono ?_
      rintro e W4 ⟨rfl, h4⟩
      have H4 := hide h4
      clear h4 H3 HR HNB
      go_wp2_with (fail)
      refine (now_write w W4 b _ 6 69 knK H4.out (by kernel_rfl)).mono ?_
      rintro e W5 ⟨rfl, h5⟩
      have H5 := hide h5
      clear h5 H4
      go_wp2_with (fail)
      refine (now_write w W5 b _ 3 1 kk1 H5.out (by kernel_rfl)).mono ?_
      rintro e W6 ⟨rfl, h6⟩
      have H6 := hide h6
      clear h6 H5
      go_wp2_with (fail)
      refine (now_write w W6 b _ 12 1 kk2 H6.out (by kernel_rfl)).mono ?_
      rintro e W7 ⟨rfl, h7⟩
      have H7 := hide h7
      clear h7 H6
      go_wp2_with (fail)
      refine (hp_new W7 8).mono ?_
      rintro e V0 ⟨rfl, p6, k6⟩
      obtain ⟨f, hf⟩ : ∃ f, W7.heap.size = f := ⟨_, rfl⟩
      have M6 := hide (H7.out.frame k6 p6)
      rw [hf] at M6
      clear p6 k6 H7
      rw [hf]
      clear hf
      go_wp2_with (fail)
      rename World => U0
      go_loopw [5] (fun vn wr => ∃ k : Nat, k ≤ 7 ∧ vn = .int .i64 (k : Int) ∧ Hid (MF w wr b (it kk2 k).2 f (it kk2 k).1)) (fun vn _ => (20 - intOf vn).toNat)
      case atStart => exact ⟨0, by omega, by simp, M6⟩
      case round =>
        obtain ⟨k, k7, rfl, M7⟩ := hrel
        clear M6
        by_cases hk : k = 7
        · subst hk
          clear k7
          obtain ⟨S, hS⟩ : ∃ S, (it kk2 7).2 = S := ⟨_, rfl⟩
          have x0 : S.look 6 = 66 := by rw [← hS]; kernel_rfl
          have x1 : S.look 12 = 1 := by rw [← hS]; kernel_rfl
          have HN : Now w wr b S := by rw [← hS]; exact M7.out.now
          have hlk : ∀ (k : Nat) (x : Int), Calls Try.prog 13 #[.pointer (some ⟨b, 0, none⟩), .int .i64 x] (((wr.alloc (.cells #[.int .i64 66, .int .i64 57, .int .i64 66, .int .i64 74] 35)).alloc (.cells #[.int .i64 1, .int .i64 2, .int .i64 1, .int .i64 2] 35)).drewN k) fun e w' => e = .returned (.int .i64 (S.look x)) ∧ w' = (((wr.alloc (.cells #[.int .i64 66, .int .i64 57, .int .i64 66, .int .i64 74] 35)).alloc (.cells #[.int .i64 1, .int .i64 2, .int .i64 1, .int .i64 2] 35)).drewN k) := fun k x => (now_look w _ b S x _ (HN.on ((kk_two _ _ _).drewN' k)) rfl).mono fun _ _ h => ⟨h.1, h.2.symm⟩
          have KE : Hid (∀ k, Kept w (((wr.alloc (.cells #[.int .i64 66, .int .i64 57, .int .i64 66, .int .i64 74] 35)).alloc (.cells #[.int .i64 1, .int .i64 2, .int .i64 1, .int .i64 2] 35)).drewN k)) := hide (fun k => HN.2.trans ((kk_two _ _ _).drewN' k))
          clear hS M7 HN
          go_wp2_with (fail)
          go_quiet (first | (go_at_call 13; refine Calls.quiet_of_same (hlk _ _)))
          go_wp2
          exact ⟨⟨3, by omega, by omega, by simp, KE.out _⟩, by simp [intOf]⟩
        · have k1 : k < 7 := by omega
          have IK := hide (it_ok kk2_ok k k1)
          have i1 : (k : Int) < 7 := by omega
          clear k7
          go_wp2_with (fail)
          refine (hp_done wr f _ M7.out.frame false IK.out.n).mono ?_
          rintro e V1 ⟨rfl, rfl⟩
          go_wp2_with (fail)
          refine (mf_step w wr b _ f _ M7.out IK.out.ok IK.out.i64 _ _ (decide (k = 6)) (it_step kk2 k) IK.out.n').mono ?_
          rintro e V2 ⟨rfl, m8⟩
          have M8 := hide m8
          clear m8 M7
          by_cases hk6 : k = 6
          · subst hk6
            go_wp2
            exact ⟨⟨7, by omega, by simp, M8⟩, by simp only [intOf]; omega⟩
          · have g6 : decide (k = 6) = false := by simp [hk6]
            have g7 : ((k : Int) == 6) = false := by simp; omega
            rw [g6]
            go_wp2
            exact ⟨⟨k + 1, by omega, by simp, M8⟩, by simp only [intOf]; omega⟩
    · clear i0 i4
      go_wp2_with (fail)
      refine (now_new w wr 20 KW.out (by decide) (by decide)).mono ?_
      rintro e W1 ⟨rfl, h1, -⟩
      have H1 := hide h1
      obtain ⟨b, hb⟩ : ∃ b, wr.heap.size = b := ⟨_, rfl⟩
      rw [hb] at H1
      clear h1
      rw [hb]
      clear hb
      go_wp2_with (fail)
      refine (begin_c w W1 _ _ H1.out rfl (by decide)).mono ?_
      rintro e W2 ⟨rfl, h2⟩
      have H2 := hide h2
      rw [kn1_is] at H2
      clear h2 H1
      go_wp2_with (fail)
      refine (dcss_c W2 3 6 57 66).mono ?_
      intro e W3 hF
      obtain ⟨fa, fc, rfl, hr, hc1, hc2, hn, _, hk⟩ := hF.form
      have H3 := hide (H2.out.on hk)
      have HR := hide hr
      have HNB : Hid (∀ ad, fa = some ad → ad.block ≠ b) := hide (fun ad e => by have := hn ad e; have := H2.out.lt.2; omega)
      clear hF hr hc1 hc2 hn hk H2
      go_wp2_with (fail)
      refine (now_make w W3 b _ fa [3, 6, 57, 66, 0] fc 8 true kn2 H3.out HR.out (by unfold maxLen; decide) (fun _ => HNB.out) (by kernel_rfl) (by kernel_rfl) (by kernel_rfl)).mono ?_
      rintro e W4 ⟨rfl, h4⟩
      have H4 := hide h4
      clear h4 H3 HR HNB
      go_wp2_with (fail)
      refine (now_write w W4 b _ 6 69 knK H4.out (by kernel_rfl)).mono ?_
      rintro e W5 ⟨rfl, h5⟩
      have H5 := hide h5
      clear h5 H4
      go_wp2_with (fail)
      refine (now_write w W5 b _ 3 1 kk1 H5.out (by kernel_rfl)).mono ?_
      rintro e W6 ⟨rfl, h6⟩
      have H6 := hide h6
      clear h6 H5
      go_wp2_with (fail)
      refine (now_write w W6 b _ 6 74 kk3 H6.out (by kernel_rfl)).mono ?_
      rintro e W7 ⟨rfl, h7⟩
      have H7 := hide h7
      clear h7 H6
      go_wp2_with (fail)
      refine (hp_new W7 8).mono ?_
      rintro e V0 ⟨rfl, p6, k6⟩
      obtain ⟨f, hf⟩ : ∃ f, W7.heap.size = f := ⟨_, rfl⟩
      have M6 := hide (H7.out.frame k6 p6)
      rw [hf] at M6
      clear p6 k6 H7
      rw [hf]
      clear hf
      go_wp2_with (fail)
      rename World => U0
      go_loopw [5] (fun vn wr => ∃ k : Nat, k ≤ 7 ∧ vn = .int .i64 (k : Int) ∧ Hid (MF w wr b (it kk3 k).2 f (it kk3 k).1)) (fun vn _ => (20 - intOf vn).toNat)
      case atStart => exact ⟨0, by omega, by simp, M6⟩
      case round =>
        obtain ⟨k, k7, rfl, M7⟩ := hrel
        clear M6
        by_cases hk : k = 7
        · subst hk
          clear k7
          obtain ⟨S, hS⟩ : ∃ S, (it kk3 7).2 = S := ⟨_, rfl⟩
          have x0 : S.look 6 = 74 := by rw [← hS]; kernel_rfl
          have x1 : S.look 12 = 2 := by rw [← hS]; kernel_rfl
          have HN : Now w wr b S := by rw [← hS]; exact M7.out.now
          have hlk : ∀ (k : Nat) (x : Int), Calls Try.prog 13 #[.pointer (some ⟨b, 0, none⟩), .int .i64 x] (((wr.alloc (.cells #[.int .i64 66, .int .i64 57, .int .i64 66, .int .i64 74] 35)).alloc (.cells #[.int .i64 1, .int .i64 2, .int .i64 1, .int .i64 2] 35)).drewN k) fun e w' => e = .returned (.int .i64 (S.look x)) ∧ w' = (((wr.alloc (.cells #[.int .i64 66, .int .i64 57, .int .i64 66, .int .i64 74] 35)).alloc (.cells #[.int .i64 1, .int .i64 2, .int .i64 1, .int .i64 2] 35)).drewN k) := fun k x => (now_look w _ b S x _ (HN.on ((kk_two _ _ _).drewN' k)) rfl).mono fun _ _ h => ⟨h.1, h.2.symm⟩
          have KE : Hid (∀ k, Kept w (((wr.alloc (.cells #[.int .i64 66, .int .i64 57, .int .i64 66, .int .i64 74] 35)).alloc (.cells #[.int .i64 1, .int .i64 2, .int .i64 1, .int .i64 2] 35)).drewN k)) := hide (fun k => HN.2.trans ((kk_two _ _ _).drewN' k))
          clear hS M7 HN
          go_wp2_with (fail)
          go_quiet (first | (go_at_call 13; refine Calls.quiet_of_same (hlk _ _)))
          go_wp2
          exact ⟨⟨4, by omega, by omega, by simp, KE.out _⟩, by simp [intOf]⟩
        · have k1 : k < 7 := by omega
          have IK := hide (it_ok kk3_ok k k1)
          have i1 : (k : Int) < 7 := by omega
          clear k7
          go_wp2_with (fail)
          refine (hp_done wr f _ M7.out.frame false IK.out.n).mono ?_
          rintro e V1 ⟨rfl, rfl⟩
          go_wp2_with (fail)
          refine (mf_step w wr b _ f _ M7.out IK.out.ok IK.out.i64 _ _ (decide (k = 6)) (it_step kk3 k) IK.out.n').mono ?_
          rintro e V2 ⟨rfl, m8⟩
          have M8 := hide m8
          clear m8 M7
          by_cases hk6 : k = 6
          · subst hk6
            go_wp2
            exact ⟨⟨7, by omega, by simp, M8⟩, by simp only [intOf]; omega⟩
          · have g6 : decide (k = 6) = false := by simp [hk6]
            have g7 : ((k : Int) == 6) = false := by simp; omega
            rw [g6]
            go_wp2
            exact ⟨⟨k + 1, by omega, by simp, M8⟩, by simp only [intOf]; omega⟩
    · clear i0 i4
      go_wp2_with (fail)
      refine (known_c wr).mono ?_
      rintro e W1 ⟨rfl, k1⟩
      have K1 := hide (KW.out.trans k1)
      clear k1
      go_wp2
      go_ret
      exact ⟨rfl, K1.out⟩
end Go.Proofs.Ytejdgdpiddngiaa
