/-
  What the known of ordinatelaw12 answers: true. No conditions beyond each theorem's own.
-/
import Derived.Test.YtibnlaihiahjpaaGreatQRsK
namespace Go.Proofs.YtibnlaihiahjpaaGreat
open Go.RowKit
set_option maxRecDepth 20000

theorem now_read (w W : World) (b : Nat) (s : Mst) (a r : Int) (s' : Mst) (h : Now w W b s) (e1 : s.look a = r) (e2 : s.touch a = s') :
    Calls Tryz.prog 86 #[.pointer (some ⟨b, 0, none⟩), .int .i64 a] W fun e W' => e = .returned (.int .i64 r) ∧ Now w W' b s' := by
  obtain ⟨⟨v, h⟩, hk⟩ := h
  subst e1 e2
  exact (read_p W _ b v s a h).mono fun _ _ ⟨h1, h2, h3⟩ => ⟨h1, ⟨v, h2⟩, hk.own (fun i hi => by rw [hi]; exact (h.lt b (.inl rfl)).1) h3⟩
theorem now_cas (w W : World) (b : Nat) (s : Mst) (a old x : Int) (r : Bool) (s' : Mst) (h : Now w W b s) (e1 : s.did a old = r) (e2 : s.cas a old x = s') :
    Calls Tryz.prog 94 #[.pointer (some ⟨b, 0, none⟩), .int .i64 a, .int .i64 old, .int .i64 x] W fun e W' => e = .returned (.bool r) ∧ Now w W' b s' := by
  obtain ⟨⟨v, h⟩, hk⟩ := h
  subst e1 e2
  exact (cas_p W _ b v s a old x h).mono fun _ _ ⟨h1, h2, h3⟩ => ⟨h1, ⟨v, h2⟩, hk.own (fun i hi => (h.lt i hi).1) h3⟩
/-- A memory and a frame, both made since w. -/
structure MF (w W : World) (b : Nat) (s : Mst) (f : Nat) (p : Hp) : Prop where
  mem : ∃ v, PMem W w.heap.size b v s ∧ ¬ Foot b v f
  frame : HpAt W f p
  new : w.heap.size ≤ f
  kept : Kept w W
theorem Now.frame {w W W' : World} {b : Nat} {s : Mst} {p : Hp} (h : Now w W b s) (k : Kept W W') (hf : HpAt W' W.heap.size p) : MF w W' b s W.heap.size p := by
  obtain ⟨⟨v, h⟩, hk⟩ := h
  exact ⟨⟨v, h.kept k, fun e => Nat.lt_irrefl _ (h.lt _ e).2⟩, hf, hk.size, hk.trans k⟩
theorem MF.now {w W : World} {b f : Nat} {s : Mst} {p : Hp} (h : MF w W b s f p) : Now w W b s := by
  obtain ⟨⟨v, h1, _⟩, _, _, hk⟩ := h
  exact ⟨⟨v, h1⟩, hk⟩
theorem mf_step (w W : World) (b : Nat) (s : Mst) (f : Nat) (p : Hp) (h : MF w W b s f p) (hok : p.Ok) (ho : ∀ a, I64 (s.look a)) (p' : Hp) (s' : Mst) (r : Bool) (e1 : p.step s = (p', s')) (e2 : (p'.n == 7) = r) :
    Calls Tryz.prog 40 #[.pointer (some ⟨f, 0, none⟩), .pointer (some ⟨b, 0, none⟩)] W fun e W' => e = .returned (.bool r) ∧ MF w W' b s' f p' := by
  obtain ⟨⟨v, hm, hf⟩, hp, hn, hk⟩ := h
  refine (hp_step W _ b v f p s hp hm hok ho hf p' s' r e1 e2).mono ?_
  rintro e W' ⟨rfl, R⟩
  exact ⟨rfl, ⟨v, R.mem, hf⟩, R.frame, hn, hk.own (fun i hi => hi.elim (fun e => e ▸ hn) (fun e => (hm.lt i e).1)) R.turned⟩
/-- A frame and a memory behind so many steps. -/
def it (m : Mst) : Nat → Hp × Mst
  | 0 => (Hp.new 8, m)
  | k + 1 => (it m k).1.step (it m k).2
def itB (m : Mst) : Bool := (List.range 7).all fun k => okB (it m k).1 (it m k).2 && ((it m k).1.n == (k : Int)) && ((it m (k + 1)).1.n == (k : Int) + 1)
structure ItOk (m : Mst) (k : Nat) : Prop where
  ok : (it m k).1.Ok
  i64 : ∀ a, I64 ((it m k).2.look a)
  n : ((it m k).1.n == 7) = false
  n' : ((it m (k + 1)).1.n == 7) = decide (k = 6)
theorem it_ok {m : Mst} (h : itB m = true) (k : Nat) (hk : k < 7) : ItOk m k := by
  have := List.all_eq_true.1 h k (List.mem_range.2 hk)
  simp only [Bool.and_eq_true, beq_iff_eq] at this
  obtain ⟨⟨h1, h2⟩, h3⟩ := this
  obtain ⟨a, b⟩ := okB_ok h1
  refine ⟨a, b, ?_, ?_⟩
  · rw [h2]; simp; omega
  · rw [h3, Bool.eq_iff_iff]; simp; omega
theorem it_step (m : Mst) (k : Nat) : (it m k).1.step (it m k).2 = ((it m (k + 1)).1, (it m (k + 1)).2) := rfl

def kn1 : Mst := ⟨[1, 0, 0, 0, 0, 57, 0], 20, 2, 0, 0⟩
theorem kn1_is : begun (Mst.new 20) = kn1 := by kernel_rfl
def kn2 : Mst := ⟨[1, 0, 0, 0, 0, 57, 0, 3, 6, 57, 66, 0], 20, 3, 0, 0⟩
def knK : Mst := ⟨[1, 0, 0, 0, 0, 69, 0, 3, 6, 57, 66, 0], 20, 4, 0, 0⟩
theorem knK_ok : itB knK = true := by kernel_rfl
set_option maxHeartbeats 2000000 in
theorem known12_c (w : World) : Calls Tryz.prog 37 #[] w fun e w' => e = .returned (.bool true) ∧ Kept w w' := by
  go_enter Tryz.func37, Tryz.ntmps37
  go_wp2_with (fail)
  refine (now_new w w 20 (Kept.refl w) (by decide) (by decide)).mono ?_
  rintro e W1 ⟨rfl, h1, -⟩
  have H1 := gh h1
  obtain ⟨b, hb⟩ : ∃ b, w.heap.size = b := ⟨_, rfl⟩
  rw [hb] at H1
  clear h1
  rw [hb]
  clear hb
  go_wp2_with (fail)
  refine (begin_c w W1 _ _ H1.out rfl (by decide)).mono ?_
  rintro e W2 ⟨rfl, h2⟩
  have H2 := gh h2
  rw [kn1_is] at H2
  clear h2 H1
  go_wp2_with (fail)
  refine (dcss13 W2 3 6 57 66).mono ?_
  intro e W3 hF
  obtain ⟨fa, fc, rfl, hr, hc1, hc2, hn, _, hk⟩ := hF.form
  have H3 := gh (H2.out.on hk)
  have HR := gh hr
  have HNB : Hid (∀ ad, fa = some ad → ad.block ≠ b) := gh (fun ad e => by have := hn ad e; have := H2.out.lt.2; omega)
  clear hF hr hc1 hc2 hn hk H2
  go_wp2_with (fail)
  refine (now_make w W3 b _ fa [3, 6, 57, 66, 0] fc 8 true kn2 H3.out HR.out (by unfold maxLen; decide) (fun _ => HNB.out) (by kernel_rfl) (by kernel_rfl) (by kernel_rfl)).mono ?_
  rintro e W4 ⟨rfl, h4⟩
  have H4 := gh h4
  clear h4 H3 HR HNB
  go_wp2_with (fail)
  refine (now_cas w W4 b _ 6 57 69 true knK H4.out (by kernel_rfl) (by kernel_rfl)).mono ?_
  rintro e W5 ⟨rfl, h5⟩
  have H5 := gh h5
  clear h5 H4
  go_wp2_with (fail)
  refine (hp_new W5 8).mono ?_
  rintro e W6 ⟨rfl, p6, k6⟩
  obtain ⟨f, hf⟩ : ∃ f, W5.heap.size = f := ⟨_, rfl⟩
  have M6 := gh (H5.out.frame k6 p6)
  rw [hf] at M6
  clear p6 k6 H5
  rw [hf]
  clear hf
  go_wp2_with (fail)
  go_loopw [7] (fun vn wr => ∃ k : Nat, k ≤ 6 ∧ vn = .int .i64 ((k : Int) + 1) ∧ Hid (MF w wr b (it knK k).2 f (it knK k).1)) (fun vn _ => (20 - intOf vn).toNat)
  case atStart => exact ⟨0, by omega, by simp, M6⟩
  case round =>
    obtain ⟨k, k6, rfl, M7⟩ := hrel
    have IK := gh (it_ok knK_ok k (by omega))
    have kk : (k : Int) ≤ 6 := by omega
    have i0 : (k : Int) + 1 < 20 := by omega
    by_cases hk : k = 6
    · subst hk
      clear M6 kk i0 k6
      go_wp2_with (fail)
      refine (mf_step w wr b _ f _ M7.out IK.out.ok IK.out.i64 _ _ true (it_step knK 6) (by rw [IK.out.n']; rfl)).mono ?_
      rintro e W8 ⟨rfl, m8⟩
      have M8 := gh m8
      clear m8 M7
      go_wp2_with (fail)
      refine (hp_done W8 f _ M8.out.frame true (by kernel_rfl)).mono ?_
      rintro e W9 ⟨rfl, rfl⟩
      go_wp2_with (fail)
      refine (now_read w W8 b _ 6 66 (((it knK 7).2.touch 6)) M8.out.now (by kernel_rfl) rfl).mono ?_
      rintro e W9 ⟨rfl, m9⟩
      have M9 := gh m9
      clear m9 M8
      go_wp2_with (fail)
      refine (now_read w W9 b _ 12 1 _ M9.out (by kernel_rfl) rfl).mono ?_
      rintro e W10 ⟨rfl, m10⟩
      have M10 := gh m10
      clear m10 M9
      go_wp2
      go_ret
      exact ⟨rfl, M10.out.2⟩
    · have i1 : (k : Int) + 1 ≤ 6 := by omega
      clear M6 kk
      go_wp2_with (fail)
      refine (mf_step w wr b _ f _ M7.out IK.out.ok IK.out.i64 _ _ false (it_step knK k) (by rw [IK.out.n']; simp [hk])).mono ?_
      rintro e W8 ⟨rfl, m8⟩
      have M8 := gh m8
      clear m8 M7
      go_wp2
      exact ⟨⟨k + 1, by omega, by simp, M8⟩, by simp only [intOf]; omega⟩
end Go.Proofs.YtibnlaihiahjpaaGreat
