/-
  What known and ReadKnown answer: true. No conditions.
-/
import Derived.Test.YtpabojbijdgfgaaReadP
import Derived.Test.YtpabojbijdgfgaaKnLaw
namespace Go.Proofs.Ytpabojbijdgfgaa
open Go.RowKit
set_option maxRecDepth 20000

/-- A memory and a frame of read, both made since w. -/
def MR (w W : World) (b : Nat) (s : Mst) (f : Nat) (p : Rd) : Prop :=
  ∃ v g, PMem W w.heap.size b v s ∧ RdAt W f g p ∧ w.heap.size ≤ f ∧ (p.c.isSome = true → w.heap.size ≤ g) ∧ Kept w W
theorem Now.read {w W W' : World} {b : Nat} {s : Mst} {x : Int} (h : Now w W b s) (k : Kept W W') (hf : RdAt W' W.heap.size 0 (Rd.new x)) : MR w W' b s W.heap.size (Rd.new x) := by
  obtain ⟨⟨v, h⟩, hk⟩ := h
  exact ⟨v, 0, h.kept k, hf, hk.size, (fun e => by cases e), hk.trans k⟩
theorem MR.now {w W : World} {b f : Nat} {s : Mst} {p : Rd} (h : MR w W b s f p) : Now w W b s := by
  obtain ⟨v, g, h1, _, _, _, hk⟩ := h
  exact ⟨⟨v, h1⟩, hk⟩
theorem mr_word (w W : World) (b : Nat) (s : Mst) (f : Nat) (p : Rd) (h : MR w W b s f p) (r : Int) (e1 : p.w = r) : Calls Try.prog 13 #[.pointer (some ⟨f, 0, none⟩)] W fun e W' => e = .returned (.int .i64 r) ∧ W = W' := by
  obtain ⟨_, g, _, h, _⟩ := h
  exact rd_word W f g p h r e1
theorem mr_step (w W : World) (b : Nat) (s : Mst) (f : Nat) (p : Rd) (h : MR w W b s f p) (hok : ∀ q, p.c = some q → q.Ok) (ho : ∀ a, I64 (s.look a)) (p' : Rd) (s' : Mst) (r : Bool) (e1 : p.step s = (p', s')) (e2 : p'.d = r) :
    Calls Try.prog 10 #[.pointer (some ⟨f, 0, none⟩), .pointer (some ⟨b, 0, none⟩)] W fun e W' => e = .returned (.bool r) ∧ MR w W' b s' f p' := by
  obtain ⟨v, g, hm, hp, hn, hg, hk⟩ := h
  refine (rd_step W _ b v f g p s hp hm hok ho p' s' r e1 e2).mono ?_
  rintro e W' ⟨rfl, g', h1, h2, h3, h4⟩
  refine ⟨rfl, v, g', h2, h1, hn, fun e => ?_, hk.own (fun i hi => hi.elim (fun e => e ▸ hn) (fun e => e.elim (fun e => e.2 ▸ hg e.1) (fun e => (hm.lt i e).1))) h4⟩
  rcases h3 e with ⟨e1, rfl⟩ | h3
  · exact hg e1
  · exact Nat.le_trans hk.size h3
theorem mr_cas (w W : World) (b : Nat) (s : Mst) (f : Nat) (p : Rd) (a old x : Int) (r : Bool) (s' : Mst) (h : MR w W b s f p) (e1 : s.did a old = r) (e2 : s.cas a old x = s') :
    Calls Try.prog 11 #[.pointer (some ⟨b, 0, none⟩), .int .i64 a, .int .i64 old, .int .i64 x] W fun e W' => e = .returned (.bool r) ∧ MR w W' b s' f p := by
  obtain ⟨v, g, hm, hp, hn, hg, hk⟩ := h
  subst e1 e2
  refine (cas_p W _ b v s a old x hm).mono ?_
  rintro e W' ⟨rfl, m1, t1⟩
  refine ⟨rfl, v, g, m1, hp.turned t1 (hm.other hp.1 (by decide) (by decide)) (fun e => ?_), hn, hg, hk.own (fun i hi => (hm.lt i hi).1) t1⟩
  obtain ⟨q, hq⟩ := Option.isSome_iff_exists.1 e
  exact hm.other (hp.2 q hq) (by decide) (by decide)
theorem MR.kept {w W W' : World} {b f : Nat} {s : Mst} {p : Rd} (h : MR w W b s f p) (k : Kept W W') : MR w W' b s f p := by
  obtain ⟨v, g, h1, h2, h3, h4, hk⟩ := h
  exact ⟨v, g, h1.kept k, h2.turned k id (fun _ => id), h3, h4, hk.trans k⟩
/-- What stands in the frame's words and in the memory. -/
def okR (p : Rd) (s : Mst) : Bool := (match p.c with | none => true | some q => okB q s) && allI s.xs
theorem okR_ok {p : Rd} {s : Mst} (h : okR p s = true) : (∀ q, p.c = some q → q.Ok) ∧ ∀ a, I64 (s.look a) := by
  simp only [okR, Bool.and_eq_true] at h
  refine ⟨fun q hq => ?_, allI_ok h.2⟩
  have := h.1
  rw [hq] at this
  exact (okB_ok this).1
/-- A frame and a memory behind so many steps. -/
def ir (x : Rd × Mst) : Nat → Rd × Mst
  | 0 => x
  | k + 1 => (ir x k).1.step (ir x k).2
/-- So many steps, the last of which ends it, or none. -/
def irB (x : Rd × Mst) (n : Nat) (l : Bool) : Bool := (List.range n).all fun k => okR (ir x k).1 (ir x k).2 && ((ir x (k + 1)).1.d == (l && k + 1 == n))
structure IrOk (x : Rd × Mst) (n : Nat) (l : Bool) (k : Nat) : Prop where
  ok : ∀ q, (ir x k).1.c = some q → q.Ok
  i64 : ∀ a, I64 ((ir x k).2.look a)
  d : (ir x (k + 1)).1.d = (l && k + 1 == n)
theorem ir_ok {x : Rd × Mst} {n : Nat} {l : Bool} (h : irB x n l = true) (k : Nat) (hk : k < n) : IrOk x n l k := by
  have := List.all_eq_true.1 h k (List.mem_range.2 hk)
  simp only [Bool.and_eq_true, beq_iff_eq] at this
  obtain ⟨a, b⟩ := okR_ok this.1
  exact ⟨a, b, this.2⟩
theorem ir_step (x : Rd × Mst) (k : Nat) : (ir x k).1.step (ir x k).2 = ((ir x (k + 1)).1, (ir x (k + 1)).2) := rfl

def kr1 : Mst := ⟨[1, 0, 0, 0, 0, 57, 0], 20, 2, 0, 0⟩
theorem kr1_is : begun (Mst.new 20) = kr1 := by kernel_rfl
def kr2 : Mst := ⟨[1, 0, 0, 0, 0, 57, 0], 20, 3, 0, 0⟩
def kr3 : Mst := ⟨[1, 0, 0, 0, 0, 57, 0, 3, 6, 57, 66, 0], 20, 4, 0, 0⟩
def krK : Mst := ⟨[1, 0, 0, 0, 0, 69, 0, 3, 6, 57, 66, 0], 20, 5, 0, 0⟩
theorem kr_ok1 : irB (Rd.new 6, kr1) 1 true = true := by kernel_rfl
theorem kr_ok : irB (Rd.new 6, krK) 9 true = true := by kernel_rfl
set_option maxHeartbeats 2000000 in
theorem known_c (w : World) : Calls Try.prog 12 #[] w fun e w' => e = .returned (.bool true) ∧ Kept w w' := by
  go_enter Try.func12, Try.ntmps12
  go_wp2_with (fail)
  refine (now_new w w 20 (Kept.refl w) (by decide) (by decide)).mono ?_
  rintro e W1 ⟨rfl, h1, -⟩
  have H1 := hide h1
  obtain ⟨b, hb⟩ : ∃ b, w.heap.size = b := ⟨_, rfl⟩
  rw [hb] at H1
  clear h1
  rw [hb]
  clear hb
  go_wp2_with (fail)
  refine (begin_c w W1 _ _ H1.out rfl (by decide)).mono ?_
  rintro e W2 ⟨rfl, h2⟩
  have H2 := hide h2
  rw [kr1_is] at H2
  clear h2 H1
  go_wp2_with (fail)
  refine (rd_new W2 6).mono ?_
  rintro e W6 ⟨rfl, p6, k6⟩
  obtain ⟨f, hf⟩ : ∃ f, W2.heap.size = f := ⟨_, rfl⟩
  have M6 := hide (H2.out.read k6 p6)
  rw [hf] at M6
  clear p6 k6 H2
  rw [hf]
  clear hf
  go_wp2_with (fail)
  refine (mr_step w W6 b (ir (Rd.new 6, kr1) 0).2 f (ir (Rd.new 6, kr1) 0).1 M6.out (ir_ok kr_ok1 0 (by decide)).ok (ir_ok kr_ok1 0 (by decide)).i64 _ _ true (ir_step _ 0) (by kernel_rfl)).mono ?_
  rintro e W7 ⟨rfl, m7⟩
  have M7 := hide m7
  clear m7 M6
  go_wp2_with (fail)
  refine (mr_word w W7 b _ f _ M7.out 57 (by kernel_rfl)).mono ?_
  rintro e W8 ⟨rfl, rfl⟩
  have H7 : Hid (Now w W7 b kr2) := hide (by have := M7.out.now; rw [show (ir (Rd.new 6, kr1) (0 + 1)).2 = kr2 by kernel_rfl] at this; exact this)
  clear M7
  go_wp2_with (fail)
  refine (dcss_c W7 3 6 57 66).mono ?_
  intro e W3 hF
  obtain ⟨fa, fc, rfl, hr, hc1, hc2, hn, _, hk⟩ := hF.form
  have H3 := hide (H7.out.on hk)
  have HR := hide hr
  have HNB : Hid (∀ ad, fa = some ad → ad.block ≠ b) := hide (fun ad e => by have := hn ad e; have := H7.out.lt.2; omega)
  clear hF hr hc1 hc2 hn hk H7
  go_wp2_with (fail)
  refine (now_make w W3 b _ fa [3, 6, 57, 66, 0] fc 8 true kr3 H3.out HR.out (by unfold maxLen; decide) (fun _ => HNB.out) (by kernel_rfl) (by kernel_rfl) (by kernel_rfl)).mono ?_
  rintro e W4 ⟨rfl, h4⟩
  have H4 := hide h4
  clear h4 H3 HR HNB
  go_wp2_with (fail)
  refine (now_write w W4 b _ 6 69 krK H4.out (by kernel_rfl)).mono ?_
  rintro e W5 ⟨rfl, h5⟩
  have H5 := hide h5
  clear h5 H4
  go_wp2_with (fail)
  refine (rd_new W5 6).mono ?_
  rintro e W6 ⟨rfl, p6, k6⟩
  obtain ⟨f, hf⟩ : ∃ f, W5.heap.size = f := ⟨_, rfl⟩
  have M6 := hide (H5.out.read k6 p6)
  rw [hf] at M6
  clear p6 k6 H5
  rw [hf]
  clear hf
  go_wp2_with (fail)
  go_loopw [4] (fun vn wr => ∃ k : Nat, k ≤ 8 ∧ vn = .int .i64 ((k : Int) + 1) ∧ Hid (MR w wr b (ir (Rd.new 6, krK) k).2 f (ir (Rd.new 6, krK) k).1)) (fun vn _ => (30 - intOf vn).toNat)
  case atStart => exact ⟨0, by omega, by simp, M6⟩
  case round =>
    obtain ⟨k, k8, rfl, M7⟩ := hrel
    have IK := hide (ir_ok kr_ok k (by omega))
    have kk : (k : Int) ≤ 8 := by omega
    have i0 : (k : Int) + 1 < 30 := by omega
    by_cases hk : k = 8
    · subst hk
      clear M6 kk i0 k8
      go_wp2_with (fail)
      refine (mr_step w wr b _ f _ M7.out IK.out.ok IK.out.i64 _ _ true (ir_step _ 8) (by rw [IK.out.d]; rfl)).mono ?_
      rintro e W8 ⟨rfl, m8⟩
      have M8 := hide m8
      clear m8 M7
      go_wp2_with (fail)
      refine (mr_word w W8 b _ f _ M8.out 66 (by kernel_rfl)).mono ?_
      rintro e W9 ⟨rfl, rfl⟩
      go_wp2_with (fail)
      refine (now_look w W8 b _ 12 1 M8.out.now (by kernel_rfl)).mono ?_
      rintro e W9 ⟨rfl, rfl⟩
      go_wp2
      go_ret
      exact ⟨rfl, M8.out.now.2⟩
    · have i1 : (k : Int) + 1 ≤ 8 := by omega
      clear M6 kk
      go_wp2_with (fail)
      refine (mr_step w wr b _ f _ M7.out IK.out.ok IK.out.i64 _ _ false (ir_step _ k) (by rw [IK.out.d]; simp; omega)).mono ?_
      rintro e W8 ⟨rfl, m8⟩
      have M8 := hide m8
      clear m8 M7
      go_wp2
      exact ⟨⟨k + 1, by omega, by simp, M8⟩, by simp only [intOf]; omega⟩

def ks1 : Mst := ⟨[1, 0, 0, 0, 0, 57, 0], 40, 2, 0, 0⟩
theorem ks1_is : begun (Mst.new 40) = ks1 := by kernel_rfl
def ks2 : Mst := ⟨[1, 0, 0, 0, 0, 57, 0, 3, 6, 57, 66, 0], 40, 3, 0, 0⟩
def ks3 : Mst := ⟨[1, 0, 0, 0, 0, 57, 0, 3, 6, 57, 66, 0, 3, 6, 66, 74, 0], 40, 4, 0, 0⟩
def ksK : Mst := ⟨[1, 0, 0, 0, 0, 69, 0, 3, 6, 57, 66, 0, 3, 6, 66, 74, 0], 40, 5, 0, 0⟩
theorem ks_ok : irB (Rd.new 6, ksK) 8 false = true := by kernel_rfl
/-- Behind eight steps and the Cas. -/
def ksL : Rd × Mst := ((ir (Rd.new 6, ksK) 8).1, (ir (Rd.new 6, ksK) 8).2.cas 6 66 109)
theorem kl_ok : irB ksL 9 true = true := by kernel_rfl
set_option maxHeartbeats 4000000 in
theorem readKnown_c (w : World) : Calls Try.prog 3 #[] w fun e w' => e = .returned (.bool true) ∧ Kept w w' := by
  go_enter Try.func3, Try.ntmps3
  go_wp2_with (fail)
  refine (now_new w w 40 (Kept.refl w) (by decide) (by decide)).mono ?_
  rintro e W1 ⟨rfl, h1, -⟩
  have H1 := hide h1
  obtain ⟨b, hb⟩ : ∃ b, w.heap.size = b := ⟨_, rfl⟩
  rw [hb] at H1
  clear h1
  rw [hb]
  clear hb
  go_wp2_with (fail)
  refine (begin_c w W1 _ _ H1.out rfl (by decide)).mono ?_
  rintro e W2 ⟨rfl, h2⟩
  have H2 := hide h2
  rw [ks1_is] at H2
  clear h2 H1
  go_wp2_with (fail)
  refine (dcss_c W2 3 6 57 66).mono ?_
  intro e W3 hF
  obtain ⟨fa, fc, rfl, hr, hc1, hc2, hn, _, hk⟩ := hF.form
  have H3 := hide (H2.out.on hk)
  have HR := hide hr
  have HNB : Hid (∀ ad, fa = some ad → ad.block ≠ b) := hide (fun ad e => by have := hn ad e; have := H2.out.lt.2; omega)
  clear hF hr hc1 hc2 hn hk H2
  go_wp2_with (fail)
  refine (now_make w W3 b _ fa [3, 6, 57, 66, 0] fc 8 true ks2 H3.out HR.out (by unfold maxLen; decide) (fun _ => HNB.out) (by kernel_rfl) (by kernel_rfl) (by kernel_rfl)).mono ?_
  rintro e W4 ⟨rfl, h4⟩
  have H4 := hide h4
  clear h4 H3 HR HNB
  go_wp2_with (fail)
  refine (dcss_c W4 3 6 66 74).mono ?_
  intro e W3 hF
  obtain ⟨fa, fc, rfl, hr, hc1, hc2, hn, _, hk⟩ := hF.form
  have H3 := hide (H4.out.on hk)
  have HR := hide hr
  have HNB : Hid (∀ ad, fa = some ad → ad.block ≠ b) := hide (fun ad e => by have := hn ad e; have := H4.out.lt.2; omega)
  clear hF hr hc1 hc2 hn hk H4
  go_wp2_with (fail)
  refine (now_make w W3 b _ fa [3, 6, 66, 74, 0] fc 13 true ks3 H3.out HR.out (by unfold maxLen; decide) (fun _ => HNB.out) (by kernel_rfl) (by kernel_rfl) (by kernel_rfl)).mono ?_
  rintro e W4 ⟨rfl, h4⟩
  have H4 := hide h4
  clear h4 H3 HR HNB
  go_wp2_with (fail)
  refine (now_write w W4 b _ 6 69 ksK H4.out (by kernel_rfl)).mono ?_
  rintro e W5 ⟨rfl, h5⟩
  have H5 := hide h5
  clear h5 H4
  go_wp2_with (fail)
  refine (rd_new W5 6).mono ?_
  rintro e W6 ⟨rfl, p6, k6⟩
  obtain ⟨f, hf⟩ : ∃ f, W5.heap.size = f := ⟨_, rfl⟩
  have M6 := hide (H5.out.read k6 p6)
  rw [hf] at M6
  clear p6 k6 H5
  rw [hf]
  clear hf
  go_wp2_with (fail)
  go_loopw [4] (fun vn wr => ∃ k : Nat, k ≤ 8 ∧ vn = .int .i64 (k : Int) ∧ Hid (MR w wr b (ir (Rd.new 6, ksK) k).2 f (ir (Rd.new 6, ksK) k).1)) (fun vn _ => (30 - intOf vn).toNat)
  case atStart => exact ⟨0, by omega, by simp, M6⟩
  case round =>
    obtain ⟨k, k8, rfl, M7⟩ := hrel
    clear M6
    by_cases hk : k = 8
    · subst hk
      clear k8
      go_wp2_with (fail)
      refine (mr_cas w wr b _ f _ 6 66 109 true ksL.2 M7.out (by kernel_rfl) rfl).mono ?_
      rintro e W8 ⟨rfl, m8⟩
      have M8 : Hid (MR w W8 b ksL.2 f ksL.1) := hide m8
      clear m8 M7
      go_wp2_with (fail)
      go_loopw [5] (fun vn wr => ∃ k : Nat, k ≤ 8 ∧ vn = .int .i64 ((k : Int) + 1) ∧ Hid (MR w wr b (ir ksL k).2 f (ir ksL k).1)) (fun vn _ => (30 - intOf vn).toNat)
      case atStart => exact ⟨0, by omega, by simp, M8⟩
      case round =>
        obtain ⟨k, k8, rfl, M7⟩ := hrel
        have IK := hide (ir_ok kl_ok k (by omega))
        have kk : (k : Int) ≤ 8 := by omega
        have i0 : (k : Int) + 1 < 30 := by omega
        by_cases hk : k = 8
        · subst hk
          clear M8 kk i0 k8
          go_wp2_with (fail)
          refine (mr_step w _ b _ f _ M7.out IK.out.ok IK.out.i64 _ _ true (ir_step _ 8) (by rw [IK.out.d]; rfl)).mono ?_
          rintro e W9 ⟨rfl, m9⟩
          have M9 := hide m9
          clear m9 M7
          go_wp2_with (fail)
          refine (known_c W9).mono ?_
          rintro e W10 ⟨rfl, k1⟩
          have M10 := hide (M9.out.kept k1)
          clear k1 M9
          go_wp2_with (fail)
          refine (mr_word w W10 b _ f _ M10.out 74 (by kernel_rfl)).mono ?_
          rintro e W11 ⟨rfl, rfl⟩
          go_wp2_with (fail)
          refine (now_look w W10 b _ 17 1 M10.out.now (by kernel_rfl)).mono ?_
          rintro e W11 ⟨rfl, rfl⟩
          go_wp2
          go_ret
          exact ⟨rfl, M10.out.now.2⟩
        · have i1 : (k : Int) + 1 ≤ 8 := by omega
          clear M8 kk
          go_wp2_with (fail)
          refine (mr_step w _ b _ f _ M7.out IK.out.ok IK.out.i64 _ _ false (ir_step _ k) (by rw [IK.out.d]; simp; omega)).mono ?_
          rintro e W9 ⟨rfl, m9⟩
          have M9 := hide m9
          clear m9 M7
          go_wp2
          exact ⟨⟨k + 1, by omega, by simp, M9⟩, by simp only [intOf]; omega⟩
    · have i1 : (k : Int) < 8 := by omega
      have IK := hide (ir_ok ks_ok k (by omega))
      go_wp2_with (fail)
      refine (mr_step w wr b _ f _ M7.out IK.out.ok IK.out.i64 _ _ false (ir_step _ k) (by rw [IK.out.d]; rfl)).mono ?_
      rintro e W8 ⟨rfl, m8⟩
      have M8 := hide m8
      clear m8 M7
      go_wp2
      exact ⟨⟨k + 1, by omega, by simp, M8⟩, by simp only [intOf]; omega⟩
end Go.Proofs.Ytpabojbijdgfgaa
