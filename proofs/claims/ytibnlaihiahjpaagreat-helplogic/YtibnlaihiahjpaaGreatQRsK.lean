/-
  What the known of ordinatelaw13 answers: true; a frame of read beside a memory. No conditions.
-/
import Derived.Test.YtibnlaihiahjpaaGreatQE
namespace Go.Proofs.YtibnlaihiahjpaaGreat
open Go.RowKit
set_option maxRecDepth 20000

theorem dcss13 (w : World) (g p k v : Int) : Calls Tryz.prog 93 #[.int .i64 g, .int .i64 p, .int .i64 k, .int .i64 v] w (Fresh [g, p, k, v, 0] w) := by
  go_enter Tryz.func93, Tryz.ntmps93
  go_wp2
  go_ret
  exact ⟨_, rfl, row_new w 2 [g, p, k, v, 0] _ (Nat.le_refl _) (by simp), Td.alloc _ _ _⟩
theorem now_write (w W : World) (b : Nat) (s : Mst) (a x : Int) (s' : Mst) (h : Now w W b s) (e1 : s.write a x = s') :
    Calls Tryz.prog 98 #[.pointer (some ⟨b, 0, none⟩), .int .i64 a, .int .i64 x] W fun e W' => e = .returned (.tuple #[]) ∧ Now w W' b s' := by
  obtain ⟨⟨v, h⟩, hk⟩ := h
  subst e1
  exact (write_p W _ b v s a x h).mono fun _ _ ⟨h1, h2, h3⟩ => ⟨h1, ⟨v, h2⟩, hk.own (fun i hi => (h.lt i hi).1) h3⟩
/-- A memory and a frame of read, both made since w. -/
def MR (w W : World) (b : Nat) (s : Mst) (f : Nat) (p : Rd) : Prop :=
  ∃ v g, PMem W w.heap.size b v s ∧ RdAt W f g p ∧ w.heap.size ≤ f ∧ (p.c.isSome = true → w.heap.size ≤ g) ∧ Kept w W
theorem Now.read {w W W' : World} {b : Nat} {s : Mst} {x : Int} (h : Now w W b s) (k : Kept W W') (hf : RdAt W' W.heap.size 0 (Rd.new x)) : MR w W' b s W.heap.size (Rd.new x) := by
  obtain ⟨⟨v, h⟩, hk⟩ := h
  exact ⟨v, 0, h.kept k, hf, hk.size, (fun e => by cases e), hk.trans k⟩
theorem MR.now {w W : World} {b f : Nat} {s : Mst} {p : Rd} (h : MR w W b s f p) : Now w W b s := by
  obtain ⟨v, g, h1, _, _, _, hk⟩ := h
  exact ⟨⟨v, h1⟩, hk⟩
theorem mr_word (w W : World) (b : Nat) (s : Mst) (f : Nat) (p : Rd) (h : MR w W b s f p) (r : Int) (e1 : p.w = r) : Calls Tryz.prog 46 #[.pointer (some ⟨f, 0, none⟩)] W fun e W' => e = .returned (.int .i64 r) ∧ W = W' := by
  obtain ⟨_, g, _, h, _⟩ := h
  exact rd_word W f g p h r e1
theorem mr_step (w W : World) (b : Nat) (s : Mst) (f : Nat) (p : Rd) (h : MR w W b s f p) (hok : ∀ q, p.c = some q → q.Ok) (ho : ∀ a, I64 (s.look a)) (p' : Rd) (s' : Mst) (r : Bool) (e1 : p.step s = (p', s')) (e2 : p'.d = r) :
    Calls Tryz.prog 44 #[.pointer (some ⟨f, 0, none⟩), .pointer (some ⟨b, 0, none⟩)] W fun e W' => e = .returned (.bool r) ∧ MR w W' b s' f p' := by
  obtain ⟨v, g, hm, hp, hn, hg, hk⟩ := h
  refine (rd_step W _ b v f g p s hp hm hok ho p' s' r e1 e2).mono ?_
  rintro e W' ⟨rfl, g', h1, h2, h3, h4⟩
  refine ⟨rfl, v, g', h2, h1, hn, fun e => ?_, hk.own (fun i hi => hi.elim (fun e => e ▸ hn) (fun e => e.elim (fun e => e.2 ▸ hg e.1) (fun e => (hm.lt i e).1))) h4⟩
  rcases h3 e with ⟨e1, rfl⟩ | h3
  · exact hg e1
  · exact Nat.le_trans hk.size h3
theorem MR.kept {w W W' : World} {b f : Nat} {s : Mst} {p : Rd} (h : MR w W b s f p) (k : Kept W W') : MR w W' b s f p := by
  obtain ⟨v, g, h1, h2, h3, h4, hk⟩ := h
  exact ⟨v, g, h1.kept k, h2.turned k id (fun _ => id), h3, h4, hk.trans k⟩
/-- What stands in a help's words and in the memory. -/
def okB (p : Hp) (s : Mst) : Bool := decide (0 ≤ p.n) && decide (p.n ≤ 7) && decide (0 ≤ p.a) && decide (p.a ≤ 1000000) && decide (0 ≤ p.p) && decide (p.p ≤ 10) && allI s.xs
theorem okB_ok {p : Hp} {s : Mst} (h : okB p s = true) : p.Ok ∧ ∀ a, I64 (s.look a) := by
  simp only [okB, Bool.and_eq_true, decide_eq_true_eq] at h
  obtain ⟨⟨⟨⟨⟨⟨h1, h2⟩, h3⟩, h4⟩, h5⟩, h6⟩, h7⟩ := h
  exact ⟨⟨⟨h1, h2⟩, ⟨h3, h4⟩, h5, h6⟩, allI_ok h7⟩
/-- What stands in the frame's words and in the memory. -/
def okR (p : Rd) (s : Mst) : Bool := (match p.c with | none => true | some q => okB q s) && allI s.xs
theorem okR_ok {p : Rd} {s : Mst} (h : okR p s = true) : (∀ q, p.c = some q → q.Ok) ∧ ∀ a, I64 (s.look a) := by
  simp only [okR, Bool.and_eq_true] at h
  refine ⟨fun q hq => ?_, allI_ok h.2⟩
  have := h.1
  rw [hq] at this
  exact (okB_ok this).1
/-- A frame and a memory behind so many steps. -/
def ir (x : Rd × Mst) : Nat → Rd × Mst
  | 0 => x
  | k + 1 => (ir x k).1.step (ir x k).2
/-- So many steps, the last of which ends it, or none. -/
def irB (x : Rd × Mst) (n : Nat) (l : Bool) : Bool := (List.range n).all fun k => okR (ir x k).1 (ir x k).2 && ((ir x (k + 1)).1.d == (l && k + 1 == n))
structure IrOk (x : Rd × Mst) (n : Nat) (l : Bool) (k : Nat) : Prop where
  ok : ∀ q, (ir x k).1.c = some q → q.Ok
  i64 : ∀ a, I64 ((ir x k).2.look a)
  d : (ir x (k + 1)).1.d = (l && k + 1 == n)
theorem ir_ok {x : Rd × Mst} {n : Nat} {l : Bool} (h : irB x n l = true) (k : Nat) (hk : k < n) : IrOk x n l k := by
  have := List.all_eq_true.1 h k (List.mem_range.2 hk)
  simp only [Bool.and_eq_true, beq_iff_eq] at this
  obtain ⟨a, b⟩ := okR_ok this.1
  exact ⟨a, b, this.2⟩
theorem ir_step (x : Rd × Mst) (k : Nat) : (ir x k).1.step (ir x k).2 = ((ir x (k + 1)).1, (ir x (k + 1)).2) := rfl

def kr1 : Mst := ⟨[1, 0, 0, 0, 0, 57, 0], 20, 2, 0, 0⟩
theorem kr1_is : begun (Mst.new 20) = kr1 := by kernel_rfl
def kr2 : Mst := ⟨[1, 0, 0, 0, 0, 57, 0], 20, 3, 0, 0⟩
def kr3 : Mst := ⟨[1, 0, 0, 0, 0, 57, 0, 3, 6, 57, 66, 0], 20, 4, 0, 0⟩
def krK : Mst := ⟨[1, 0, 0, 0, 0, 69, 0, 3, 6, 57, 66, 0], 20, 5, 0, 0⟩
theorem kr_ok1 : irB (Rd.new 6, kr1) 1 true = true := by kernel_rfl
theorem kr_ok : irB (Rd.new 6, krK) 9 true = true := by kernel_rfl
set_option maxHeartbeats 2000000 in
theorem known13_c (w : World) : Calls Tryz.prog 43 #[] w fun e w' => e = .returned (.bool true) ∧ Kept w w' := by
  go_enter Tryz.func43, Tryz.ntmps43
  go_wp2_with (fail)
  refine (now_new w w 20 (Kept.refl w) (by decide) (by decide)).mono ?_
  rintro e W1 ⟨rfl, h1, -⟩
  have H1 := gh h1
  obtain ⟨b, hb⟩ : ∃ b, w.heap.size = b := ⟨_, rfl⟩
  rw [hb] at H1
  clear h1
  rw [hb]
  clear hb
  go_wp2_with (fail)
  refine (begin_c w W1 _ _ H1.out rfl (by decide)).mono ?_
  rintro e W2 ⟨rfl, h2⟩
  have H2 := gh h2
  rw [kr1_is] at H2
  clear h2 H1
  go_wp2_with (fail)
  refine (rd_new W2 6).mono ?_
  rintro e W6 ⟨rfl, p6, k6⟩
  obtain ⟨f, hf⟩ : ∃ f, W2.heap.size = f := ⟨_, rfl⟩
  have M6 := gh (H2.out.read k6 p6)
  rw [hf] at M6
  clear p6 k6 H2
  rw [hf]
  clear hf
  go_wp2_with (fail)
  refine (mr_step w W6 b (ir (Rd.new 6, kr1) 0).2 f (ir (Rd.new 6, kr1) 0).1 M6.out (ir_ok kr_ok1 0 (by decide)).ok (ir_ok kr_ok1 0 (by decide)).i64 _ _ true (ir_step _ 0) (by kernel_rfl)).mono ?_
  rintro e W7 ⟨rfl, m7⟩
  have M7 := gh m7
  clear m7 M6
  go_wp2_with (fail)
  refine (mr_word w W7 b _ f _ M7.out 57 (by kernel_rfl)).mono ?_
  rintro e W8 ⟨rfl, rfl⟩
  have H7 : Hid (Now w W7 b kr2) := gh (by have := M7.out.now; rw [show (ir (Rd.new 6, kr1) (0 + 1)).2 = kr2 by kernel_rfl] at this; exact this)
  clear M7
  go_wp2_with (fail)
  refine (dcss13 W7 3 6 57 66).mono ?_
  intro e W3 hF
  obtain ⟨fa, fc, rfl, hr, hc1, hc2, hn, _, hk⟩ := hF.form
  have H3 := gh (H7.out.on hk)
  have HR := gh hr
  have HNB : Hid (∀ ad, fa = some ad → ad.block ≠ b) := gh (fun ad e => by have := hn ad e; have := H7.out.lt.2; omega)
  clear hF hr hc1 hc2 hn hk H7
  go_wp2_with (fail)
  refine (now_make w W3 b _ fa [3, 6, 57, 66, 0] fc 8 true kr3 H3.out HR.out (by unfold maxLen; decide) (fun _ => HNB.out) (by kernel_rfl) (by kernel_rfl) (by kernel_rfl)).mono ?_
  rintro e W4 ⟨rfl, h4⟩
  have H4 := gh h4
  clear h4 H3 HR HNB
  go_wp2_with (fail)
  refine (now_write w W4 b _ 6 69 krK H4.out (by kernel_rfl)).mono ?_
  rintro e W5 ⟨rfl, h5⟩
  have H5 := gh h5
  clear h5 H4
  go_wp2_with (fail)
  refine (rd_new W5 6).mono ?_
  rintro e W6 ⟨rfl, p6, k6⟩
  obtain ⟨f, hf⟩ : ∃ f, W5.heap.size = f := ⟨_, rfl⟩
  have M6 := gh (H5.out.read k6 p6)
  rw [hf] at M6
  clear p6 k6 H5
  rw [hf]
  clear hf
  go_wp2_with (fail)
  go_loopw [4] (fun vn wr => ∃ k : Nat, k ≤ 8 ∧ vn = .int .i64 ((k : Int) + 1) ∧ Hid (MR w wr b (ir (Rd.new 6, krK) k).2 f (ir (Rd.new 6, krK) k).1)) (fun vn _ => (30 - intOf vn).toNat)
  case atStart => exact ⟨0, by omega, by simp, M6⟩
  case round =>
    obtain ⟨k, k8, rfl, M7⟩ := hrel
    have IK := gh (ir_ok kr_ok k (by omega))
    have kk : (k : Int) ≤ 8 := by omega
    have i0 : (k : Int) + 1 < 30 := by omega
    by_cases hk : k = 8
    · subst hk
      clear M6 kk i0 k8
      go_wp2_with (fail)
      refine (mr_step w wr b _ f _ M7.out IK.out.ok IK.out.i64 _ _ true (ir_step _ 8) (by rw [IK.out.d]; rfl)).mono ?_
      rintro e W8 ⟨rfl, m8⟩
      have M8 := gh m8
      clear m8 M7
      go_wp2_with (fail)
      refine (mr_word w W8 b _ f _ M8.out 66 (by kernel_rfl)).mono ?_
      rintro e W9 ⟨rfl, rfl⟩
      go_wp2_with (fail)
      refine (now_look w W8 b _ 12 1 M8.out.now (by kernel_rfl)).mono ?_
      rintro e W9 ⟨rfl, rfl⟩
      go_wp2
      go_ret
      exact ⟨rfl, M8.out.now.2⟩
    · have i1 : (k : Int) + 1 ≤ 8 := by omega
      clear M6 kk
      go_wp2_with (fail)
      refine (mr_step w wr b _ f _ M7.out IK.out.ok IK.out.i64 _ _ false (ir_step _ k) (by rw [IK.out.d]; simp; omega)).mono ?_
      rintro e W8 ⟨rfl, m8⟩
      have M8 := gh m8
      clear m8 M7
      go_wp2
      exact ⟨⟨k + 1, by omega, by simp, M8⟩, by simp only [intOf]; omega⟩

end Go.Proofs.YtibnlaihiahjpaaGreat
