/-
  What known and PeekKnown answer: true. No conditions.
-/
import Derived.Test.YtnjkmmmfhponlaaPeekP
import Derived.Test.YtnjkmmmfhponlaaBegin
namespace Go.Proofs.Ytnjkmmmfhponlaa
open Go.RowKit
set_option maxRecDepth 20000

/-- A memory and a frame, both made since w. -/
structure MF (w W : World) (b : Nat) (s : Mst) (f : Nat) (p : Pk) : Prop where
  mem : ∃ v, PMem W w.heap.size b v s ∧ ¬ Foot b v f
  frame : PkAt W f p
  new : w.heap.size ≤ f
  kept : Kept w W
theorem Now.frame {w W W' : World} {b : Nat} {s : Mst} {p : Pk} (h : Now w W b s) (k : Kept W W') (hf : PkAt W' W.heap.size p) : MF w W' b s W.heap.size p := by
  obtain ⟨⟨v, h⟩, hk⟩ := h
  exact ⟨⟨v, h.kept k, fun e => Nat.lt_irrefl _ (h.lt _ e).2⟩, hf, hk.size, hk.trans k⟩
theorem MF.now {w W : World} {b f : Nat} {s : Mst} {p : Pk} (h : MF w W b s f p) : Now w W b s := by
  obtain ⟨⟨v, h1, _⟩, _, _, hk⟩ := h
  exact ⟨⟨v, h1⟩, hk⟩
theorem mf_step (w W : World) (b : Nat) (s : Mst) (f : Nat) (p : Pk) (h : MF w W b s f p) (ho : ∀ a, I64 (s.look a)) (p' : Pk) (s' : Mst) (r : Bool) (e1 : p.step s = (p', s')) (e2 : (p'.n == 4) = r) :
    Calls Try.prog 10 #[.pointer (some ⟨f, 0, none⟩), .pointer (some ⟨b, 0, none⟩)] W fun e W' => e = .returned (.bool r) ∧ MF w W' b s' f p' := by
  obtain ⟨⟨v, hm, hf⟩, hp, hn, hk⟩ := h
  refine (pk_step W _ b v f p s hp hm ho hf p' s' r e1 e2).mono ?_
  rintro e W' ⟨rfl, R⟩
  exact ⟨rfl, ⟨v, R.mem, hf⟩, R.frame, hn, hk.own (fun i hi => hi.elim (fun e => e ▸ hn) (fun e => e ▸ (hm.lt b (.inl rfl)).1)) R.turned⟩
theorem Mst.look_i64 {s : Mst} (h : ∀ z ∈ s.xs, I64 z) (a : Int) : I64 (s.look a) := by
  unfold Mst.look
  split
  · rename_i hu
    cases hx : s.xs[(a - 1).toNat]? with
    | none => rw [List.getD_eq_getElem?_getD, hx]; exact ⟨by decide, by decide⟩
    | some z =>
      rw [List.getD_eq_getElem?_getD, hx]
      exact h z (List.mem_of_getElem? hx)
  · exact ⟨by decide, by decide⟩

theorem dcss_c (w : World) (g p k v : Int) : Calls Try.prog 7 #[.int .i64 g, .int .i64 p, .int .i64 k, .int .i64 v] w (Fresh [g, p, k, v, 0] w) := by
  go_enter Try.func7, Try.ntmps7
  go_wp2
  go_ret
  exact ⟨_, rfl, row_new w 2 [g, p, k, v, 0] _ (Nat.le_refl _) (by simp), Turned.alloc _ _ _⟩
/-- All of these are numbers of 64 bits. -/
def allI (l : List Int) : Bool := l.all fun z => decide (-9223372036854775808 ≤ z) && decide (z ≤ 9223372036854775807)
theorem allI_ok {s : Mst} (h : allI s.xs = true) : ∀ a, I64 (s.look a) := Mst.look_i64 (fun z hz => by
  have := List.all_eq_true.1 h z hz
  simp only [Bool.and_eq_true, decide_eq_true_eq] at this
  exact this)
def kn0 : Mst := ⟨[1, 0, 0, 0, 0, 57, 0], 9, 2, 0, 0⟩
theorem kn0_is : begun (Mst.new 9) = kn0 := by kernel_rfl
theorem known_c (w : World) : Calls Try.prog 12 #[] w fun e w' => e = .returned (.bool true) ∧ Kept w w' := by
  go_enter Try.func12, Try.ntmps12
  go_wp2_with (fail)
  refine (now_new w w 9 (Kept.refl w) (by decide) (by decide)).mono ?_
  rintro e W1 ⟨rfl, h1, -⟩
  have H1 := hide h1
  clear h1
  go_wp2_with (fail)
  refine (begin_c w W1 _ _ H1.out rfl (by decide)).mono ?_
  rintro e W2 ⟨rfl, h2⟩
  have H2 := hide h2
  rw [kn0_is] at H2
  clear h2 H1
  go_wp2_with (fail)
  refine (pk_new W2 6).mono ?_
  rintro e W3 ⟨rfl, p3, k3⟩
  obtain ⟨f, hf⟩ : ∃ f, W2.heap.size = f := ⟨_, rfl⟩
  have M3 := hide (H2.out.frame k3 p3)
  rw [hf] at M3
  clear p3 k3 H2
  rw [hf]
  clear hf
  go_wp2_with (fail)
  refine (pk_done W3 f _ M3.out.frame false rfl).mono ?_
  rintro e W4 ⟨rfl, rfl⟩
  go_wp2_with (fail)
  refine (pk_word W3 f _ M3.out.frame 0 rfl).mono ?_
  rintro e W4 ⟨rfl, rfl⟩
  go_wp2_with (fail)
  refine (mf_step w W3 _ _ f _ M3.out (allI_ok (by kernel_rfl)) ⟨4, 6, 0, 57⟩ ⟨[1, 0, 0, 0, 0, 57, 0], 9, 3, 0, 0⟩ true (by kernel_rfl) rfl).mono ?_
  rintro e W4 ⟨rfl, m4⟩
  have M4 := hide m4
  clear m4 M3
  go_wp2_with (fail)
  refine (pk_done W4 f _ M4.out.frame true rfl).mono ?_
  rintro e W5 ⟨rfl, rfl⟩
  go_wp2_with (fail)
  refine (pk_word W4 f _ M4.out.frame 57 rfl).mono ?_
  rintro e W5 ⟨rfl, rfl⟩
  go_wp2_with (fail)
  refine (mf_step w W4 _ _ f _ M4.out (allI_ok (by kernel_rfl)) ⟨4, 6, 0, 57⟩ ⟨[1, 0, 0, 0, 0, 57, 0], 9, 3, 0, 0⟩ true (by kernel_rfl) rfl).mono ?_
  rintro e W5 ⟨rfl, m5⟩
  have M5 := hide m5
  clear m5 M4
  go_wp2_with (fail)
  refine (now_count w W5 _ _ 3 M5.out.now rfl).mono ?_
  rintro e W6 ⟨rfl, rfl⟩
  go_wp2
  go_ret
  exact ⟨rfl, M5.out.kept⟩

def kn1 : Mst := ⟨[1, 0, 0, 0, 0, 57, 0], 20, 2, 0, 0⟩
theorem kn1_is : begun (Mst.new 20) = kn1 := by kernel_rfl
set_option maxHeartbeats 2000000 in
theorem peekKnown_c (w : World) : Calls Try.prog 3 #[] w fun e w' => e = .returned (.bool true) ∧ Kept w w' := by
  go_enter Try.func3, Try.ntmps3
  go_wp2_with (fail)
  go_loopw [1, 2, 3, 4, 5, 6, 7, 8] (fun vi _ _ _ _ _ _ _ wr => ∃ i : Int, 0 ≤ i ∧ i ≤ 3 ∧ vi = .int .i64 i ∧ Kept w wr) (fun vi _ _ _ _ _ _ _ _ => (3 - intOf vi).toNat)
  case atStart => exact ⟨0, by omega, by omega, rfl, Kept.refl w⟩
  case round =>
    obtain ⟨i, i0, i3, rfl, kw⟩ := hrel
    have KW := hide kw
    clear kw
    obtain rfl | rfl | rfl | rfl : i = 0 ∨ i = 1 ∨ i = 2 ∨ i = 3 := by omega
    · clear i0 i3
      go_wp2_with (fail)
      refine (now_new w wr 20 KW.out (by decide) (by decide)).mono ?_
      rintro e W1 ⟨rfl, h1, -⟩
      have H1 := hide h1
      obtain ⟨b, hb⟩ : ∃ b, wr.heap.size = b := ⟨_, rfl⟩
      rw [hb] at H1
      clear h1
      rw [hb]
      clear hb
      go_wp2_with (fail)
      refine (begin_c w W1 _ _ H1.out rfl (by decide)).mono ?_
      rintro e W2 ⟨rfl, h2⟩
      have H2 := hide h2
      rw [kn1_is] at H2
      clear h2 H1
      go_wp2_with (fail)
      refine (dcss_c W2 3 6 57 66).mono ?_
      intro e W3 hF
      obtain ⟨fa, fc, rfl, hr, hc1, hc2, hn, _, hk⟩ := hF.form
      have H3 := hide (H2.out.on hk)
      have HR := hide hr
      have HNB : Hid (∀ ad, fa = some ad → ad.block ≠ b) := hide (fun ad e => by have := hn ad e; have := H2.out.lt.2; omega)
      clear hF hr hc1 hc2 hn hk H2
      go_wp2_with (fail)
      refine (now_make w W3 b _ fa [3, 6, 57, 66, 0] fc 8 true ⟨[1, 0, 0, 0, 0, 57, 0, 3, 6, 57, 66, 0], 20, 3, 0, 0⟩ H3.out HR.out (by unfold maxLen; decide) (fun _ => HNB.out) (by kernel_rfl) (by kernel_rfl) (by kernel_rfl)).mono ?_
      rintro e W4 ⟨rfl, h4⟩
      have H4 := hide h4
      clear h4 H3 HR HNB
      go_wp2_with (fail)
      refine (now_write w W4 b _ 12 0 ⟨[1, 0, 0, 0, 0, 57, 0, 3, 6, 57, 66, 0], 20, 4, 0, 0⟩ H4.out (by kernel_rfl)).mono ?_
      rintro e W5 ⟨rfl, h5⟩
      have H5 := hide h5
      clear h5 H4
      go_wp2_with (fail)
      refine (now_write w W5 b _ 6 69 ⟨[1, 0, 0, 0, 0, 69, 0, 3, 6, 57, 66, 0], 20, 5, 0, 0⟩ H5.out (by kernel_rfl)).mono ?_
      rintro e W6 ⟨rfl, h6⟩
      have H6 := hide h6
      clear h6 H5
      go_wp2_with (fail)
      refine (pk_new W6 6).mono ?_
      rintro e W7 ⟨rfl, p7, k7⟩
      obtain ⟨f, hf⟩ : ∃ f, W6.heap.size = f := ⟨_, rfl⟩
      have M7 := hide (H6.out.frame k7 p7)
      rw [hf] at M7
      clear p7 k7 H6
      rw [hf]
      clear hf
      go_wp2_with (fail)
      refine (mf_step w W7 b _ f _ M7.out (allI_ok (by kernel_rfl)) ⟨1, 6, 8, 0⟩ ⟨[1, 0, 0, 0, 0, 69, 0, 3, 6, 57, 66, 0], 20, 6, 0, 0⟩ false (by kernel_rfl) rfl).mono ?_
      rintro e W8 ⟨rfl, m8⟩
      have M8 := hide m8
      clear m8 M7
      go_wp2_with (fail)
      refine (mf_step w W8 b _ f _ M8.out (allI_ok (by kernel_rfl)) ⟨3, 6, 8, 0⟩ ⟨[1, 0, 0, 0, 0, 69, 0, 3, 6, 57, 66, 0], 20, 7, 0, 0⟩ false (by kernel_rfl) rfl).mono ?_
      rintro e W9 ⟨rfl, m9⟩
      have M9 := hide m9
      clear m9 M8
      go_wp2_with (fail)
      refine (mf_step w W9 b _ f _ M9.out (allI_ok (by kernel_rfl)) ⟨4, 6, 8, 57⟩ ⟨[1, 0, 0, 0, 0, 69, 0, 3, 6, 57, 66, 0], 20, 8, 0, 0⟩ true (by kernel_rfl) rfl).mono ?_
      rintro e W10 ⟨rfl, m10⟩
      have M10 := hide m10
      clear m10 M9
      go_wp2_with (fail)
      refine (pk_word W10 f _ M10.out.frame 57 rfl).mono ?_
      rintro e W11 ⟨rfl, rfl⟩
      go_wp2
      exact ⟨⟨1, by omega, by omega, by simp, M10.out.kept⟩, by simp [intOf]⟩
    · clear i0 i3
      go_wp2_with (fail)
      refine (now_new w wr 20 KW.out (by decide) (by decide)).mono ?_
      rintro e W1 ⟨rfl, h1, -⟩
      have H1 := hide h1
      obtain ⟨b, hb⟩ : ∃ b, wr.heap.size = b := ⟨_, rfl⟩
      rw [hb] at H1
      clear h1
      rw [hb]
      clear hb
      go_wp2_with (fail)
      refine (begin_c w W1 _ _ H1.out rfl (by decide)).mono ?_
      rintro e W2 ⟨rfl, h2⟩
      have H2 := hide h2
      rw [kn1_is] at H2
      clear h2 H1
      go_wp2_with (fail)
      refine (dcss_c W2 3 6 57 66).mono ?_
      intro e W3 hF
      obtain ⟨fa, fc, rfl, hr, hc1, hc2, hn, _, hk⟩ := hF.form
      have H3 := hide (H2.out.on hk)
      have HR := hide hr
      have HNB : Hid (∀ ad, fa = some ad → ad.block ≠ b) := hide (fun ad e => by have := hn ad e; have := H2.out.lt.2; omega)
      clear hF hr hc1 hc2 hn hk H2
      go_wp2_with (fail)
      refine (now_make w W3 b _ fa [3, 6, 57, 66, 0] fc 8 true ⟨[1, 0, 0, 0, 0, 57, 0, 3, 6, 57, 66, 0], 20, 3, 0, 0⟩ H3.out HR.out (by unfold maxLen; decide) (fun _ => HNB.out) (by kernel_rfl) (by kernel_rfl) (by kernel_rfl)).mono ?_
      rintro e W4 ⟨rfl, h4⟩
      have H4 := hide h4
      clear h4 H3 HR HNB
      go_wp2_with (fail)
      refine (now_write w W4 b _ 12 1 ⟨[1, 0, 0, 0, 0, 57, 0, 3, 6, 57, 66, 1], 20, 4, 0, 0⟩ H4.out (by kernel_rfl)).mono ?_
      rintro e W5 ⟨rfl, h5⟩
      have H5 := hide h5
      clear h5 H4
      go_wp2_with (fail)
      refine (now_write w W5 b _ 6 69 ⟨[1, 0, 0, 0, 0, 69, 0, 3, 6, 57, 66, 1], 20, 5, 0, 0⟩ H5.out (by kernel_rfl)).mono ?_
      rintro e W6 ⟨rfl, h6⟩
      have H6 := hide h6
      clear h6 H5
      go_wp2_with (fail)
      refine (pk_new W6 6).mono ?_
      rintro e W7 ⟨rfl, p7, k7⟩
      obtain ⟨f, hf⟩ : ∃ f, W6.heap.size = f := ⟨_, rfl⟩
      have M7 := hide (H6.out.frame k7 p7)
      rw [hf] at M7
      clear p7 k7 H6
      rw [hf]
      clear hf
      go_wp2_with (fail)
      refine (mf_step w W7 b _ f _ M7.out (allI_ok (by kernel_rfl)) ⟨1, 6, 8, 0⟩ ⟨[1, 0, 0, 0, 0, 69, 0, 3, 6, 57, 66, 1], 20, 6, 0, 0⟩ false (by kernel_rfl) rfl).mono ?_
      rintro e W8 ⟨rfl, m8⟩
      have M8 := hide m8
      clear m8 M7
      go_wp2_with (fail)
      refine (mf_step w W8 b _ f _ M8.out (allI_ok (by kernel_rfl)) ⟨2, 6, 8, 0⟩ ⟨[1, 0, 0, 0, 0, 69, 0, 3, 6, 57, 66, 1], 20, 7, 0, 0⟩ false (by kernel_rfl) rfl).mono ?_
      rintro e W9 ⟨rfl, m9⟩
      have M9 := hide m9
      clear m9 M8
      go_wp2_with (fail)
      refine (mf_step w W9 b _ f _ M9.out (allI_ok (by kernel_rfl)) ⟨4, 6, 8, 66⟩ ⟨[1, 0, 0, 0, 0, 69, 0, 3, 6, 57, 66, 1], 20, 8, 0, 0⟩ true (by kernel_rfl) rfl).mono ?_
      rintro e W10 ⟨rfl, m10⟩
      have M10 := hide m10
      clear m10 M9
      go_wp2_with (fail)
      refine (pk_word W10 f _ M10.out.frame 66 rfl).mono ?_
      rintro e W11 ⟨rfl, rfl⟩
      go_wp2
      exact ⟨⟨2, by omega, by omega, by simp, M10.out.kept⟩, by simp [intOf]⟩
    · clear i0 i3
      go_wp2_with (fail)
      refine (now_new w wr 20 KW.out (by decide) (by decide)).mono ?_
      rintro e W1 ⟨rfl, h1, -⟩
      have H1 := hide h1
      obtain ⟨b, hb⟩ : ∃ b, wr.heap.size = b := ⟨_, rfl⟩
      rw [hb] at H1
      clear h1
      rw [hb]
      clear hb
      go_wp2_with (fail)
      refine (begin_c w W1 _ _ H1.out rfl (by decide)).mono ?_
      rintro e W2 ⟨rfl, h2⟩
      have H2 := hide h2
      rw [kn1_is] at H2
      clear h2 H1
      go_wp2_with (fail)
      refine (dcss_c W2 3 6 57 66).mono ?_
      intro e W3 hF
      obtain ⟨fa, fc, rfl, hr, hc1, hc2, hn, _, hk⟩ := hF.form
      have H3 := hide (H2.out.on hk)
      have HR := hide hr
      have HNB : Hid (∀ ad, fa = some ad → ad.block ≠ b) := hide (fun ad e => by have := hn ad e; have := H2.out.lt.2; omega)
      clear hF hr hc1 hc2 hn hk H2
      go_wp2_with (fail)
      refine (now_make w W3 b _ fa [3, 6, 57, 66, 0] fc 8 true ⟨[1, 0, 0, 0, 0, 57, 0, 3, 6, 57, 66, 0], 20, 3, 0, 0⟩ H3.out HR.out (by unfold maxLen; decide) (fun _ => HNB.out) (by kernel_rfl) (by kernel_rfl) (by kernel_rfl)).mono ?_
      rintro e W4 ⟨rfl, h4⟩
      have H4 := hide h4
      clear h4 H3 HR HNB
      go_wp2_with (fail)
      refine (now_write w W4 b _ 12 2 ⟨[1, 0, 0, 0, 0, 57, 0, 3, 6, 57, 66, 2], 20, 4, 0, 0⟩ H4.out (by kernel_rfl)).mono ?_
      rintro e W5 ⟨rfl, h5⟩
      have H5 := hide h5
      clear h5 H4
      go_wp2_with (fail)
      refine (now_write w W5 b _ 6 69 ⟨[1, 0, 0, 0, 0, 69, 0, 3, 6, 57, 66, 2], 20, 5, 0, 0⟩ H5.out (by kernel_rfl)).mono ?_
      rintro e W6 ⟨rfl, h6⟩
      have H6 := hide h6
      clear h6 H5
      go_wp2_with (fail)
      refine (pk_new W6 6).mono ?_
      rintro e W7 ⟨rfl, p7, k7⟩
      obtain ⟨f, hf⟩ : ∃ f, W6.heap.size = f := ⟨_, rfl⟩
      have M7 := hide (H6.out.frame k7 p7)
      rw [hf] at M7
      clear p7 k7 H6
      rw [hf]
      clear hf
      go_wp2_with (fail)
      refine (mf_step w W7 b _ f _ M7.out (allI_ok (by kernel_rfl)) ⟨1, 6, 8, 0⟩ ⟨[1, 0, 0, 0, 0, 69, 0, 3, 6, 57, 66, 2], 20, 6, 0, 0⟩ false (by kernel_rfl) rfl).mono ?_
      rintro e W8 ⟨rfl, m8⟩
      have M8 := hide m8
      clear m8 M7
      go_wp2_with (fail)
      refine (mf_step w W8 b _ f _ M8.out (allI_ok (by kernel_rfl)) ⟨3, 6, 8, 0⟩ ⟨[1, 0, 0, 0, 0, 69, 0, 3, 6, 57, 66, 2], 20, 7, 0, 0⟩ false (by kernel_rfl) rfl).mono ?_
      rintro e W9 ⟨rfl, m9⟩
      have M9 := hide m9
      clear m9 M8
      go_wp2_with (fail)
      refine (mf_step w W9 b _ f _ M9.out (allI_ok (by kernel_rfl)) ⟨4, 6, 8, 57⟩ ⟨[1, 0, 0, 0, 0, 69, 0, 3, 6, 57, 66, 2], 20, 8, 0, 0⟩ true (by kernel_rfl) rfl).mono ?_
      rintro e W10 ⟨rfl, m10⟩
      have M10 := hide m10
      clear m10 M9
      go_wp2_with (fail)
      refine (pk_word W10 f _ M10.out.frame 57 rfl).mono ?_
      rintro e W11 ⟨rfl, rfl⟩
      go_wp2
      exact ⟨⟨3, by omega, by omega, by simp, M10.out.kept⟩, by simp [intOf]⟩
    · clear i0 i3
      go_wp2_with (fail)
      refine (known_c wr).mono ?_
      rintro e W1 ⟨rfl, k1⟩
      have K1 := hide (KW.out.trans k1)
      clear k1
      go_wp2
      go_ret
      exact ⟨rfl, K1.out⟩
end Go.Proofs.Ytnjkmmmfhponlaa
