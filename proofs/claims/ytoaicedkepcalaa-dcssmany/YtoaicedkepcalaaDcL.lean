/-
  What DcssKnown, DcssAlone and DcssRoom answer: true, of whatever words; nothing that lay is turned. No conditions but those of their arguments.
-/
import Derived.Test.YtoaicedkepcalaaDcK
namespace Go.Proofs.Ytoaicedkepcalaa
open Go.RowKit
set_option maxRecDepth 20000

theorem now_odd (w W : World) (b : Nat) (s : Mst) (r : Int) (h : Now w W b s) (e1 : s.odd = r) : Calls Try.prog 24 #[.pointer (some ⟨b, 0, none⟩)] W fun e W' => e = .returned (.int .i64 r) ∧ W = W' := by
  obtain ⟨⟨v, h⟩, hk⟩ := h
  obtain ⟨⟨c0, c1, c2, c3, c4⟩, _⟩ := h.opened
  subst e1
  clear h
  go_enter Try.func24, Try.ntmps24
  go_wp2
  go_ret
  exact ⟨rfl, rfl⟩
theorem now_ref (w W : World) (b : Nat) (s : Mst) (r : Int) (h : Now w W b s) (e1 : s.ref = r) : Calls Try.prog 27 #[.pointer (some ⟨b, 0, none⟩)] W fun e W' => e = .returned (.int .i64 r) ∧ W = W' := by
  obtain ⟨⟨v, h⟩, hk⟩ := h
  obtain ⟨⟨c0, c1, c2, c3, c4⟩, _⟩ := h.opened
  subst e1
  clear h
  go_enter Try.func27, Try.ntmps27
  go_wp2
  go_ret
  exact ⟨rfl, rfl⟩
theorem now_cells (w W : World) (b : Nat) (s : Mst) (h : Now w W b s) : Calls Try.prog 25 #[.pointer (some ⟨b, 0, none⟩)] W fun e W' => ∃ a cap, e = .returned (.slice a s.xs.length cap) ∧ Row W' W.heap.size 2 (.slice a s.xs.length cap) s.xs ∧ s.xs.length ≤ cap ∧ cap ≤ maxLen ∧ Reads W' a s.xs ∧ Kept W W' := by
  obtain ⟨⟨v, h⟩, hk⟩ := h
  refine (cells_c W _ b v s h).mono fun e W' hh => ?_
  obtain ⟨a, cap, e1, e2, e3, e4, _, e6, e7⟩ := hh.form
  exact ⟨a, cap, e1, e6, e3, e4, e2, e7⟩
def kq0 : Mst := ⟨[1, 0, 0, 0, 0, 57, 0], 16, 2, 0, 0⟩
theorem kq0_is : begun (Mst.new 16) = kq0 := by kernel_rfl
def kq1 : Mst := (dt kdF kq0 1).2
set_option maxHeartbeats 4000000 in
theorem dcssKnown_c (w : World) : Calls Try.prog 3 #[] w fun e w' => e = .returned (.bool true) ∧ Kept w w' := by
  go_enter Try.func3, Try.ntmps3
  go_wp2_with (fail)
  refine (now_new w w 16 (Kept.refl w) (by decide) (by decide)).mono ?_
  rintro e W1 ⟨rfl, h1, -⟩
  have H1 := hide h1
  obtain ⟨b, hb⟩ : ∃ b, w.heap.size = b := ⟨_, rfl⟩
  rw [hb] at H1
  clear h1
  rw [hb]
  clear hb
  go_wp2_with (fail)
  refine (begin_c w W1 _ _ H1.out rfl (by decide)).mono ?_
  rintro e W2 ⟨rfl, h2⟩
  have H2 := hide h2
  rw [kq0_is] at H2
  clear h2 H1
  go_wp2_with (fail)
  refine (dp_new W2 3 6 57 66).mono ?_
  rintro e W3 ⟨rfl, p3, k3⟩
  have H3 := hide (H2.out.on k3)
  have NF := hide H2.out.2.size
  obtain ⟨f, hf⟩ : ∃ f, W2.heap.size = f := ⟨_, rfl⟩
  have P3 := hide p3
  rw [hf] at P3 NF
  clear p3 k3 H2
  rw [hf]
  clear hf
  go_wp2_with (fail)
  refine (dp_rec W3 f _ P3.out 0 (by kernel_rfl)).mono ?_
  rintro e w' ⟨rfl, rfl⟩
  go_wp2_with (fail)
  refine (d_step w W3 b kq0 f kdF H3.out P3.out NF.out (by decide) (by decide) (allI_ok (by kernel_rfl)) (dt kdF kq0 1).1 (dt kdF kq0 1).2 false rfl (by kernel_rfl)).mono ?_
  rintro e W4 ⟨rfl, m4, p4, -⟩
  have M4 : Hid (Now w W4 b kq1) := hide m4
  have P4 := hide p4
  clear m4 p4 H3 P3
  go_wp2_with (fail)
  refine (dp_rec W4 f _ P4.out 8 (by kernel_rfl)).mono ?_
  rintro e w' ⟨rfl, rfl⟩
  go_wp2_with (fail)
  refine (dp_new W4 3 6 57 66).mono ?_
  rintro e W5 ⟨rfl, p5, k5⟩
  have H5 := hide (M4.out.on k5)
  have P5 := hide (P4.out.kept k5)
  have NG := hide M4.out.2.size
  have FG : Hid (f ≠ W4.heap.size) := hide (Nat.ne_of_lt P4.out.lt)
  obtain ⟨g, hg⟩ : ∃ g, W4.heap.size = g := ⟨_, rfl⟩
  have Q5 := hide p5
  rw [hg] at Q5 NG FG
  clear p5 k5 M4 P4
  rw [hg]
  clear hg
  go_wp2_with (fail)
  refine (d_step w W5 b kq1 g kdF H5.out Q5.out NG.out (by decide) (by decide) (allI_ok (by kernel_rfl)) (dt kdF kq1 1).1 (dt kdF kq1 1).2 true rfl (by kernel_rfl)).mono ?_
  rintro e W6 ⟨rfl, m6, q6, o6⟩
  have M6 := hide m6.2
  have Q6 := hide q6
  have P6 := hide (P5.out.ot o6 FG.out)
  clear m6 q6 o6 H5 P5 Q5
  go_wp2_with (fail)
  refine (known_c W6).mono ?_
  rintro e W7 ⟨rfl, k7⟩
  have K7 := hide (M6.out.trans k7)
  have P7 := hide (P6.out.kept k7)
  have Q7 := hide (Q6.out.kept k7)
  clear k7 M6 P6 Q6
  go_wp2_with (fail)
  refine (dp_outcome W7 f _ P7.out 0 (by kernel_rfl)).mono ?_
  rintro e w' ⟨rfl, rfl⟩
  go_wp2_with (fail)
  refine (dp_done W7 f _ P7.out false (by kernel_rfl)).mono ?_
  rintro e w' ⟨rfl, rfl⟩
  go_wp2_with (fail)
  refine (dp_done W7 g _ Q7.out true (by kernel_rfl)).mono ?_
  rintro e w' ⟨rfl, rfl⟩
  go_wp2_with (fail)
  refine (dp_outcome W7 g _ Q7.out 3 (by kernel_rfl)).mono ?_
  rintro e w' ⟨rfl, rfl⟩
  go_wp2_with (fail)
  refine (dp_rec W7 g _ Q7.out 0 (by kernel_rfl)).mono ?_
  rintro e w' ⟨rfl, rfl⟩
  go_wp2
  go_ret
  exact ⟨rfl, K7.out⟩
theorem i64_of {z : Int} (h : (Lit.int .i64 z).wf = true) : I64 z := bounds_i64 h
theorem kd69 {z : Int} (h : kd z ≠ 5) : z ≠ 69 := by
  rintro rfl
  exact h (by decide)

/-- Memories of DcssAlone: guard, slot, old, new, Outcome. -/
def alM0 (g s c : Int) : Mst := ⟨[1, 0, g, 0, 0, s, 0], 40, c, 0, 0⟩
def alM (g s old x o c : Int) : Mst := ⟨[1, 0, g, 0, 0, s, 0, 3, 6, old, x, o], 40, c, 0, 0⟩
theorem al_ok {g s old x o c : Int} (h1 : I64 g) (h2 : I64 s) (h3 : I64 old) (h4 : I64 x) (h5 : I64 o) : ∀ a, I64 ((alM g s old x o c).look a) := Mst.look_i64 (fun z hz => by
  simp only [alM, List.mem_cons, List.not_mem_nil, or_false] at hz
  rcases hz with rfl | rfl | rfl | rfl | rfl | rfl | rfl | rfl | rfl | rfl | rfl | rfl
  all_goals first | assumption | exact ⟨by decide, by decide⟩)
theorem al0_ok {g s c : Int} (h1 : I64 g) (h2 : I64 s) : ∀ a, I64 ((alM0 g s c).look a) := Mst.look_i64 (fun z hz => by
  simp only [alM0, List.mem_cons, List.not_mem_nil, or_false] at hz
  rcases hz with rfl | rfl | rfl | rfl | rfl | rfl | rfl
  all_goals first | assumption | exact ⟨by decide, by decide⟩)
/-- A frame alone: so many steps, the last one its end. -/
structure Al (p : Dp) (m : Mst) (n : Nat) : Prop where
  n8 : 1 ≤ n ∧ n ≤ 6
  ok : ∀ k, k < n → DOk (dt p m k).1 (dt p m k).2
  en : ∀ k, k < n → ((dt p m (k + 1)).1.n == 6) = decide (k + 1 = n)
theorem al_make (g s old x c k : Int) (hk : wrap64 (c + 1) = k) : (Dp.new 3 6 old x).step (alM0 g s c) = (⟨1, 3, 6, old, x, 8, 0⟩, alM g s old x 0 k) := by
  subst hk
  simp [Dp.step, Dp.new, Mst.fits, Mst.next, Mst.make, Dp.ws, alM0, alM]
theorem al_enter (g s old x c k : Int) (hk : wrap64 (c + 1) = k) (h : s = old) : (⟨1, 3, 6, old, x, 8, 0⟩ : Dp).step (alM g s old x 0 c) = (⟨2, 3, 6, old, x, 8, 0⟩, alM g 69 old x 0 k) := by
  subst hk
  subst h
  simp (config := { decide := true }) [Dp.step, Mst.did, Mst.cas, Mst.look, Mst.write, Mst.touch, Mst.put, Mst.used, Dp.w, alM, show Rf.ofZ 5 8 = 69 by decide]
theorem al_not (g s old x c : Int) (h : s ≠ old) : (⟨1, 3, 6, old, x, 8, 0⟩ : Dp).step (alM g s old x 0 c) = (⟨6, 3, 6, old, x, 8, 0⟩, alM g s old x 0 (wrap64 (c + 1))) := by
  simp (config := { decide := true }) [Dp.step, Mst.did, Mst.cas, Mst.look, Mst.touch, Mst.used, alM, h]
theorem al_guard (g old x c k : Int) (hk : wrap64 (c + 1) = k) (t : Int) (ht : Dp.cameZ (g == 0) = t) : (⟨2, 3, 6, old, x, 8, 0⟩ : Dp).step (alM g 69 old x 0 c) = (⟨3, 3, 6, old, x, 8, t⟩, alM g 69 old x 0 k) := by
  subst hk
  subst ht
  simp (config := { decide := true }) [Dp.step, Mst.look, Mst.touch, Mst.used, alM]
theorem al_settle (g old x c k : Int) (hk : wrap64 (c + 1) = k) (t : Int) : (⟨3, 3, 6, old, x, 8, t⟩ : Dp).step (alM g 69 old x 0 c) = (⟨4, 3, 6, old, x, 8, t⟩, alM g 69 old x t k) := by
  subst hk
  simp (config := { decide := true }) [Dp.step, Mst.did, Mst.cas, Mst.look, Mst.write, Mst.touch, Mst.put, Mst.used, alM]
theorem al_out (g old x c k : Int) (hk : wrap64 (c + 1) = k) (t : Int) (ht : t = 1 ∨ t = 2) : (⟨4, 3, 6, old, x, 8, t⟩ : Dp).step (alM g 69 old x t c) = (⟨5, 3, 6, old, x, 8, t⟩, alM g 69 old x t k) := by
  subst hk
  rcases ht with rfl | rfl
  all_goals simp (config := { decide := true }) [Dp.step, Mst.look, Mst.touch, Mst.used, alM, Dp.cameZ]
theorem al_swing (g old x c k : Int) (hk : wrap64 (c + 1) = k) (t : Int) : (⟨5, 3, 6, old, x, 8, t⟩ : Dp).step (alM g 69 old x t c) = (⟨6, 3, 6, old, x, 8, t⟩, alM g (finO old x t) old x t k) := by
  subst hk
  simp (config := { decide := true }) [Dp.step, Mst.did, Mst.cas, Mst.look, Mst.write, Mst.touch, Mst.put, Mst.used, alM, Dp.w, Dp.becomes, finO, show Rf.ofZ 5 8 = 69 by decide]
theorem al_no {g s old x : Int} (h : s ≠ old) (i1 : I64 g) (i2 : I64 s) (i3 : I64 old) (i4 : I64 x) : Al (Dp.new 3 6 old x) (alM0 g s 4) 2 ∧ (dt (Dp.new 3 6 old x) (alM0 g s 4) 2).1.c = 0 ∧ (dt (Dp.new 3 6 old x) (alM0 g s 4) 2).2.look 6 = s := by
  have d1 : dt (Dp.new 3 6 old x) (alM0 g s 4) 1 = (⟨1, 3, 6, old, x, 8, 0⟩, alM g s old x 0 5) := al_make g s old x 4 5 (by simp [wrap64])
  have d2 : dt (Dp.new 3 6 old x) (alM0 g s 4) 2 = (⟨6, 3, 6, old, x, 8, 0⟩, alM g s old x 0 (wrap64 (5 + 1))) := by
    show (dt _ _ 1).1.step (dt _ _ 1).2 = _
    rw [d1]
    exact al_not g s old x _ h
  have iz : I64 0 := ⟨by decide, by decide⟩
  refine ⟨⟨by decide, fun k hk => ?_, fun k hk => ?_⟩, by rw [d2], by rw [d2]; simp [Mst.look, Mst.used, alM]⟩
  · obtain rfl | rfl : k = 0 ∨ k = 1 := by omega
    · exact ⟨by show 0 ≤ (0 : Int) ∧ (0 : Int) ≤ 6; decide, by show 0 ≤ (0 : Int) ∧ (0 : Int) ≤ 1000000; decide, al0_ok i1 i2⟩
    · rw [d1]; exact ⟨by show 0 ≤ (1 : Int) ∧ (1 : Int) ≤ 6; decide, by show 0 ≤ (8 : Int) ∧ (8 : Int) ≤ 1000000; decide, al_ok i1 i2 i3 i4 iz⟩
  · obtain rfl | rfl : k = 0 ∨ k = 1 := by omega
    · rw [d1]; rfl
    · rw [d2]; rfl
theorem al_yes {g old x t : Int} (ht : Dp.cameZ (g == 0) = t) (i1 : I64 g) (i3 : I64 old) (i4 : I64 x) : Al (Dp.new 3 6 old x) (alM0 g old 4) 6 ∧ (dt (Dp.new 3 6 old x) (alM0 g old 4) 6).1.c = t ∧ (dt (Dp.new 3 6 old x) (alM0 g old 4) 6).2.look 6 = finO old x t ∧ (dt (Dp.new 3 6 old x) (alM0 g old 4) 6).2.look 3 = g := by
  have t2 : t = 1 ∨ t = 2 := by rw [← ht]; unfold Dp.cameZ; split <;> simp
  have d1 : dt (Dp.new 3 6 old x) (alM0 g old 4) 1 = (⟨1, 3, 6, old, x, 8, 0⟩, alM g old old x 0 5) := al_make g old old x 4 5 (by simp [wrap64])
  have d2 : dt (Dp.new 3 6 old x) (alM0 g old 4) 2 = (⟨2, 3, 6, old, x, 8, 0⟩, alM g 69 old x 0 6) := by
    show (dt _ _ 1).1.step (dt _ _ 1).2 = _
    rw [d1]
    exact al_enter g old old x 5 6 (by simp [wrap64]) rfl
  have d3 : dt (Dp.new 3 6 old x) (alM0 g old 4) 3 = (⟨3, 3, 6, old, x, 8, t⟩, alM g 69 old x 0 7) := by
    show (dt _ _ 2).1.step (dt _ _ 2).2 = _
    rw [d2]
    exact al_guard g old x 6 7 (by simp [wrap64]) t ht
  have d4 : dt (Dp.new 3 6 old x) (alM0 g old 4) 4 = (⟨4, 3, 6, old, x, 8, t⟩, alM g 69 old x t 8) := by
    show (dt _ _ 3).1.step (dt _ _ 3).2 = _
    rw [d3]
    exact al_settle g old x 7 8 (by simp [wrap64]) t
  have d5 : dt (Dp.new 3 6 old x) (alM0 g old 4) 5 = (⟨5, 3, 6, old, x, 8, t⟩, alM g 69 old x t 9) := by
    show (dt _ _ 4).1.step (dt _ _ 4).2 = _
    rw [d4]
    exact al_out g old x 8 9 (by simp [wrap64]) t t2
  have d6 : dt (Dp.new 3 6 old x) (alM0 g old 4) 6 = (⟨6, 3, 6, old, x, 8, t⟩, alM g (finO old x t) old x t 10) := by
    show (dt _ _ 5).1.step (dt _ _ 5).2 = _
    rw [d5]
    exact al_swing g old x 9 10 (by simp [wrap64]) t
  have iz : I64 0 := ⟨by decide, by decide⟩
  have i69 : I64 69 := ⟨by decide, by decide⟩
  have it : I64 t := by rcases t2 with rfl | rfl <;> exact ⟨by decide, by decide⟩
  refine ⟨⟨by decide, fun k hk => ?_, fun k hk => ?_⟩, by rw [d6], by rw [d6]; simp [Mst.look, Mst.used, alM], by rw [d6]; simp [Mst.look, Mst.used, alM]⟩
  · obtain rfl | rfl | rfl | rfl | rfl | rfl : k = 0 ∨ k = 1 ∨ k = 2 ∨ k = 3 ∨ k = 4 ∨ k = 5 := by omega
    · exact ⟨by show 0 ≤ (0 : Int) ∧ (0 : Int) ≤ 6; decide, by show 0 ≤ (0 : Int) ∧ (0 : Int) ≤ 1000000; decide, al0_ok i1 i3⟩
    · rw [d1]; exact ⟨by show 0 ≤ (1 : Int) ∧ (1 : Int) ≤ 6; decide, by show 0 ≤ (8 : Int) ∧ (8 : Int) ≤ 1000000; decide, al_ok i1 i3 i3 i4 iz⟩
    · rw [d2]; exact ⟨by show 0 ≤ (2 : Int) ∧ (2 : Int) ≤ 6; decide, by show 0 ≤ (8 : Int) ∧ (8 : Int) ≤ 1000000; decide, al_ok i1 i69 i3 i4 iz⟩
    · rw [d3]; exact ⟨by show 0 ≤ (3 : Int) ∧ (3 : Int) ≤ 6; decide, by show 0 ≤ (8 : Int) ∧ (8 : Int) ≤ 1000000; decide, al_ok i1 i69 i3 i4 iz⟩
    · rw [d4]; exact ⟨by show 0 ≤ (4 : Int) ∧ (4 : Int) ≤ 6; decide, by show 0 ≤ (8 : Int) ∧ (8 : Int) ≤ 1000000; decide, al_ok i1 i69 i3 i4 it⟩
    · rw [d5]; exact ⟨by show 0 ≤ (5 : Int) ∧ (5 : Int) ≤ 6; decide, by show 0 ≤ (8 : Int) ∧ (8 : Int) ≤ 1000000; decide, al_ok i1 i69 i3 i4 it⟩
  · obtain rfl | rfl | rfl | rfl | rfl | rfl : k = 0 ∨ k = 1 ∨ k = 2 ∨ k = 3 ∨ k = 4 ∨ k = 5 := by omega
    · rw [d1]; rfl
    · rw [d2]; rfl
    · rw [d3]; rfl
    · rw [d4]; rfl
    · rw [d5]; rfl
    · rw [d6]; rfl
theorem dt_done {p : Dp} {m : Mst} {n : Nat} (h : Al p m n) : ((dt p m n).1.n == 6) = true := by
  obtain ⟨k, rfl⟩ : ∃ k, n = k + 1 := ⟨n - 1, by have := h.n8; omega⟩
  rw [h.en k (by omega)]
  simp
theorem al_outc {p : Dp} {m : Mst} {n : Nat} (h : Al p m n) : (if (dt p m n).1.n = 6 then (dt p m n).1.c else 0) = (dt p m n).1.c := if_pos (by have := dt_done h; simpa using this)
theorem kk_q (w : World) (a k : Int) (h : I64 a) (e1 : kd a = k) : Calls Try.prog 19 #[.int .i64 a] w fun e w' => e = .returned (.int .i64 k) ∧ w = w' := kk_p w a k h e1

set_option maxHeartbeats 8000000 in
theorem dcssAlone_c (w : World) (old x there guard : Int) (i1 : I64 old) (i2 : I64 x) (i3 : I64 there) (i4 : I64 guard) :
    Calls Try.prog 5 #[.int .i64 old, .int .i64 x, .int .i64 there, .int .i64 guard] w fun e w' => e = .returned (.bool true) ∧ Kept w w' := by
  obtain ⟨k1, hk1⟩ : ∃ k, kd old = k := ⟨_, rfl⟩
  obtain ⟨k2, hk2⟩ : ∃ k, kd there = k := ⟨_, rfl⟩
  obtain ⟨k3, hk3⟩ : ∃ k, kd x = k := ⟨_, rfl⟩
  have HK1 := hide hk1
  have HK2 := hide hk2
  have HK3 := hide hk3
  have I1 := hide i1
  have I2 := hide i2
  have I3 := hide i3
  have I4 := hide i4
  clear hk1 hk2 hk3 i1 i2 i3 i4
  by_cases h5 : k1 = 5
  · subst h5
    go_enter Try.func5, Try.ntmps5
    go_wp2_with (fail)
    refine (now_new w w 40 (Kept.refl w) (by decide) (by decide)).mono ?_
    rintro e W1 ⟨rfl, h1, -⟩
    have H1 := hide h1
    obtain ⟨b, hb⟩ : ∃ b, w.heap.size = b := ⟨_, rfl⟩
    rw [hb] at H1
    clear h1
    rw [hb]
    clear hb
    go_wp2_with (fail)
    refine (begin_c w W1 _ _ H1.out rfl (by decide)).mono ?_
    rintro e W2 ⟨rfl, h2⟩
    have H2 := hide h2
    rw [kd0_is] at H2
    clear h2 H1
    go_wp2_with (fail)
    refine (kk_q W2 old _ I1.out HK1.out).mono ?_
    rintro e w' ⟨rfl, rfl⟩
    go_wp2_with (fail)
    refine (known_c W2).mono ?_
    rintro e W3 ⟨rfl, k3⟩
    have K3 := hide (H2.out.2.trans k3)
    clear k3
    go_wp2
    go_ret
    exact ⟨rfl, K3.out⟩
  have g1 : (k1 == 5) = false := by simp [h5]
  by_cases h6 : k2 = 5
  · subst h6
    go_enter Try.func5, Try.ntmps5
    go_wp2_with (fail)
    refine (now_new w w 40 (Kept.refl w) (by decide) (by decide)).mono ?_
    rintro e W1 ⟨rfl, h1, -⟩
    have H1 := hide h1
    obtain ⟨b, hb⟩ : ∃ b, w.heap.size = b := ⟨_, rfl⟩
    rw [hb] at H1
    clear h1
    rw [hb]
    clear hb
    go_wp2_with (fail)
    refine (begin_c w W1 _ _ H1.out rfl (by decide)).mono ?_
    rintro e W2 ⟨rfl, h2⟩
    have H2 := hide h2
    rw [kd0_is] at H2
    clear h2 H1
    go_wp2_with (fail)
    refine (kk_q W2 old _ I1.out HK1.out).mono ?_
    rintro e w' ⟨rfl, rfl⟩
    go_wp2_with (fail)
    refine (kk_q W2 there _ I3.out HK2.out).mono ?_
    rintro e w' ⟨rfl, rfl⟩
    go_wp2_with (fail)
    refine (known_c W2).mono ?_
    rintro e W3 ⟨rfl, k3⟩
    have K3 := hide (H2.out.2.trans k3)
    clear k3
    go_wp2
    go_ret
    exact ⟨rfl, K3.out⟩
  have g2 : (k2 == 5) = false := by simp [h6]
  by_cases h7 : k3 = 5
  · subst h7
    go_enter Try.func5, Try.ntmps5
    go_wp2_with (fail)
    refine (now_new w w 40 (Kept.refl w) (by decide) (by decide)).mono ?_
    rintro e W1 ⟨rfl, h1, -⟩
    have H1 := hide h1
    obtain ⟨b, hb⟩ : ∃ b, w.heap.size = b := ⟨_, rfl⟩
    rw [hb] at H1
    clear h1
    rw [hb]
    clear hb
    go_wp2_with (fail)
    refine (begin_c w W1 _ _ H1.out rfl (by decide)).mono ?_
    rintro e W2 ⟨rfl, h2⟩
    have H2 := hide h2
    rw [kd0_is] at H2
    clear h2 H1
    go_wp2_with (fail)
    refine (kk_q W2 old _ I1.out HK1.out).mono ?_
    rintro e w' ⟨rfl, rfl⟩
    go_wp2_with (fail)
    refine (kk_q W2 there _ I3.out HK2.out).mono ?_
    rintro e w' ⟨rfl, rfl⟩
    go_wp2_with (fail)
    refine (kk_q W2 x _ I2.out HK3.out).mono ?_
    rintro e w' ⟨rfl, rfl⟩
    go_wp2_with (fail)
    refine (known_c W2).mono ?_
    rintro e W3 ⟨rfl, k3⟩
    have K3 := hide (H2.out.2.trans k3)
    clear k3
    go_wp2
    go_ret
    exact ⟨rfl, K3.out⟩
  have g3 : (k3 == 5) = false := by simp [h7]
  clear h5 h6 h7
  by_cases h8 : there = old
  · subst h8
    by_cases h9 : guard = 0
    · subst h9
      have q := al_yes (g := 0) (old := there) (x := x) (t := 1) (by decide) I4.out I1.out I2.out
      have AL := hide q.1
      have AC := hide q.2.1
      have A6 : Hid ((dt (Dp.new 3 6 there x) (alM0 0 there 4) 6).2.look 6 = x) := hide (by rw [q.2.2.1]; rfl)
      have A3 := hide q.2.2.2
      have n1 : (there != there) = false := by simp
      clear q
      go_enter Try.func5, Try.ntmps5
      go_wp2_with (fail)
      refine (now_new w w 40 (Kept.refl w) (by decide) (by decide)).mono ?_
      rintro e W1 ⟨rfl, h1, -⟩
      have H1 := hide h1
      obtain ⟨b, hb⟩ : ∃ b, w.heap.size = b := ⟨_, rfl⟩
      rw [hb] at H1
      clear h1
      rw [hb]
      clear hb
      go_wp2_with (fail)
      refine (begin_c w W1 _ _ H1.out rfl (by decide)).mono ?_
      rintro e W2 ⟨rfl, h2⟩
      have H2 := hide h2
      rw [kd0_is] at H2
      clear h2 H1
      go_wp2_with (fail)
      refine (kk_q W2 there _ I1.out HK1.out).mono ?_
      rintro e w' ⟨rfl, rfl⟩
      go_wp2_with (fail)
      refine (kk_q W2 there _ I3.out HK2.out).mono ?_
      rintro e w' ⟨rfl, rfl⟩
      go_wp2_with (fail)
      refine (kk_q W2 x _ I2.out HK3.out).mono ?_
      rintro e w' ⟨rfl, rfl⟩
      go_wp2_with (fail)
      refine (d_write w W2 b _ 6 there ⟨[1, 0, 0, 0, 0, there, 0], 40, 3, 0, 0⟩ H2.out (by simp [Mst.write, Mst.touch, Mst.put, Mst.used, kd0, wrap64])).mono ?_
      rintro e W3 ⟨rfl, h3, -⟩
      have H3 := hide h3
      clear h3 H2 g1 g2 g3
      go_wp2_with (fail)
      refine (d_write w W3 b _ 3 0 (alM0 0 there 4) H3.out (by simp [Mst.write, Mst.touch, Mst.put, Mst.used, alM0, wrap64])).mono ?_
      rintro e W4 ⟨rfl, h4, -⟩
      have H4 := hide h4
      clear h4 H3
      go_wp2_with (fail)
      refine (dp_new W4 3 6 there x).mono ?_
      rintro e W5 ⟨rfl, p5, k5⟩
      have H5 := hide (H4.out.on k5)
      have NF := hide H4.out.2.size
      obtain ⟨f, hf⟩ : ∃ f, W4.heap.size = f := ⟨_, rfl⟩
      have P5 := hide p5
      rw [hf] at P5 NF
      clear p5 k5 H4
      rw [hf]
      clear hf
      obtain ⟨p0, hp0⟩ : ∃ p, Dp.new 3 6 there x = p := ⟨_, rfl⟩
      obtain ⟨m0, hm0⟩ : ∃ m, alM0 0 there 4 = m := ⟨_, rfl⟩
      rw [hp0] at P5 AL AC A6 A3
      rw [hm0] at H5 AL AC A6 A3
      clear hp0 hm0
      go_wp2_with (fail)
      rename World => U0
      go_loopw [12] (fun vn wr => ∃ k : Nat, k < 6 ∧ vn = .int .i64 ((k : Int) + 1) ∧ Hid (Now w wr b (dt p0 m0 k).2) ∧ Hid (DpAt wr f (dt p0 m0 k).1)) (fun vn _ => (20 - intOf vn).toNat)
      case atStart => exact ⟨0, by omega, by simp, H5, P5⟩
      case round =>
        obtain ⟨k, k6, rfl, M, P⟩ := hrel
        clear H5 P5
        have OK := hide (AL.out.ok k k6)
        have j9 : ((k : Int) + 1) < 9 := by omega
        by_cases hk : k + 1 = 6
        · have EN := hide ((AL.out.en k k6).trans (show decide (k + 1 = 6) = true by simp [hk]))
          obtain rfl : k = 5 := by omega
          clear k6 hk
          rename World => wr
          go_wp2_with (fail)
          refine (d_step w wr b _ f _ M.out P.out NF.out OK.out.n OK.out.r OK.out.i64 _ _ true (dt_step p0 m0 _) EN.out).mono ?_
          rintro e X ⟨rfl, m8, p8, -⟩
          have M8 := hide m8
          have P8 := hide p8
          clear m8 p8 M P OK EN
          go_wp2_with (fail)
          refine (known_c X).mono ?_
          rintro e Y ⟨rfl, k9⟩
          have M9 := hide (M8.out.on k9)
          have P9 := hide (P8.out.kept k9)
          clear k9 M8 P8
          go_wp2_with (fail)
          refine (dp_outcome Y f _ P9.out 1 ((al_outc AL.out).trans AC.out)).mono ?_
          rintro e w' ⟨rfl, rfl⟩
          go_wp2_with (fail)
          refine (now_look w Y b _ 6 x M9.out A6.out).mono ?_
          rintro e w' ⟨rfl, rfl⟩
          go_wp2_with (fail)
          refine (now_look w Y b _ 3 0 M9.out A3.out).mono ?_
          rintro e w' ⟨rfl, rfl⟩
          have KX := hide M9.out.2
          clear M9 P9
          go_wp2
          go_ret
          exact ⟨rfl, KX.out⟩
        · have EN := hide ((AL.out.en k k6).trans (show decide (k + 1 = 6) = false by simp [hk]))
          rename World => wr
          go_wp2_with (fail)
          refine (d_step w wr b _ f _ M.out P.out NF.out OK.out.n OK.out.r OK.out.i64 _ _ false (dt_step p0 m0 _) EN.out).mono ?_
          rintro e X ⟨rfl, m8, p8, -⟩
          have M8 := hide m8
          have P8 := hide p8
          clear m8 p8 M P OK EN
          go_wp2
          exact ⟨⟨k + 1, by omega, by simp, M8, P8⟩, by simp only [intOf]; omega⟩
    · have gg : (guard != 0) = true := by simp [h9]
      have q := al_yes (g := guard) (old := there) (x := x) (t := 2) (by simp [Dp.cameZ, h9]) I4.out I1.out I2.out
      have AL := hide q.1
      have AC := hide q.2.1
      have A6 : Hid ((dt (Dp.new 3 6 there x) (alM0 guard there 4) 6).2.look 6 = there) := hide (by rw [q.2.2.1]; rfl)
      have n1 : (there != there) = false := by simp
      clear q h9
      go_enter Try.func5, Try.ntmps5
      go_wp2_with (fail)
      refine (now_new w w 40 (Kept.refl w) (by decide) (by decide)).mono ?_
      rintro e W1 ⟨rfl, h1, -⟩
      have H1 := hide h1
      obtain ⟨b, hb⟩ : ∃ b, w.heap.size = b := ⟨_, rfl⟩
      rw [hb] at H1
      clear h1
      rw [hb]
      clear hb
      go_wp2_with (fail)
      refine (begin_c w W1 _ _ H1.out rfl (by decide)).mono ?_
      rintro e W2 ⟨rfl, h2⟩
      have H2 := hide h2
      rw [kd0_is] at H2
      clear h2 H1
      go_wp2_with (fail)
      refine (kk_q W2 there _ I1.out HK1.out).mono ?_
      rintro e w' ⟨rfl, rfl⟩
      go_wp2_with (fail)
      refine (kk_q W2 there _ I3.out HK2.out).mono ?_
      rintro e w' ⟨rfl, rfl⟩
      go_wp2_with (fail)
      refine (kk_q W2 x _ I2.out HK3.out).mono ?_
      rintro e w' ⟨rfl, rfl⟩
      go_wp2_with (fail)
      refine (d_write w W2 b _ 6 there ⟨[1, 0, 0, 0, 0, there, 0], 40, 3, 0, 0⟩ H2.out (by simp [Mst.write, Mst.touch, Mst.put, Mst.used, kd0, wrap64])).mono ?_
      rintro e W3 ⟨rfl, h3, -⟩
      have H3 := hide h3
      clear h3 H2 g1 g2 g3
      go_wp2_with (fail)
      refine (d_write w W3 b _ 3 guard (alM0 guard there 4) H3.out (by simp [Mst.write, Mst.touch, Mst.put, Mst.used, alM0, wrap64])).mono ?_
      rintro e W4 ⟨rfl, h4, -⟩
      have H4 := hide h4
      clear h4 H3
      go_wp2_with (fail)
      refine (dp_new W4 3 6 there x).mono ?_
      rintro e W5 ⟨rfl, p5, k5⟩
      have H5 := hide (H4.out.on k5)
      have NF := hide H4.out.2.size
      obtain ⟨f, hf⟩ : ∃ f, W4.heap.size = f := ⟨_, rfl⟩
      have P5 := hide p5
      rw [hf] at P5 NF
      clear p5 k5 H4
      rw [hf]
      clear hf
      obtain ⟨p0, hp0⟩ : ∃ p, Dp.new 3 6 there x = p := ⟨_, rfl⟩
      obtain ⟨m0, hm0⟩ : ∃ m, alM0 guard there 4 = m := ⟨_, rfl⟩
      rw [hp0] at P5 AL AC A6
      rw [hm0] at H5 AL AC A6
      clear hp0 hm0
      go_wp2_with (fail)
      rename World => U0
      go_loopw [12] (fun vn wr => ∃ k : Nat, k < 6 ∧ vn = .int .i64 ((k : Int) + 1) ∧ Hid (Now w wr b (dt p0 m0 k).2) ∧ Hid (DpAt wr f (dt p0 m0 k).1)) (fun vn _ => (20 - intOf vn).toNat)
      case atStart => exact ⟨0, by omega, by simp, H5, P5⟩
      case round =>
        obtain ⟨k, k6, rfl, M, P⟩ := hrel
        clear H5 P5
        have OK := hide (AL.out.ok k k6)
        have j9 : ((k : Int) + 1) < 9 := by omega
        by_cases hk : k + 1 = 6
        · have EN := hide ((AL.out.en k k6).trans (show decide (k + 1 = 6) = true by simp [hk]))
          obtain rfl : k = 5 := by omega
          clear k6 hk
          rename World => wr
          go_wp2_with (fail)
          refine (d_step w wr b _ f _ M.out P.out NF.out OK.out.n OK.out.r OK.out.i64 _ _ true (dt_step p0 m0 _) EN.out).mono ?_
          rintro e X ⟨rfl, m8, p8, -⟩
          have M8 := hide m8
          have P8 := hide p8
          clear m8 p8 M P OK EN
          go_wp2_with (fail)
          refine (known_c X).mono ?_
          rintro e Y ⟨rfl, k9⟩
          have M9 := hide (M8.out.on k9)
          have P9 := hide (P8.out.kept k9)
          clear k9 M8 P8
          go_wp2_with (fail)
          refine (dp_outcome Y f _ P9.out 2 ((al_outc AL.out).trans AC.out)).mono ?_
          rintro e w' ⟨rfl, rfl⟩
          go_wp2_with (fail)
          refine (now_look w Y b _ 6 there M9.out A6.out).mono ?_
          rintro e w' ⟨rfl, rfl⟩
          have KX := hide M9.out.2
          clear M9 P9
          go_wp2
          go_ret
          exact ⟨rfl, KX.out⟩
        · have EN := hide ((AL.out.en k k6).trans (show decide (k + 1 = 6) = false by simp [hk]))
          rename World => wr
          go_wp2_with (fail)
          refine (d_step w wr b _ f _ M.out P.out NF.out OK.out.n OK.out.r OK.out.i64 _ _ false (dt_step p0 m0 _) EN.out).mono ?_
          rintro e X ⟨rfl, m8, p8, -⟩
          have M8 := hide m8
          have P8 := hide p8
          clear m8 p8 M P OK EN
          go_wp2
          exact ⟨⟨k + 1, by omega, by simp, M8, P8⟩, by simp only [intOf]; omega⟩
  · have n1 : (old != there) = true := by simp; exact fun e => h8 e.symm
    have q := al_no (g := guard) (x := x) h8 I4.out I3.out I1.out I2.out
    have AL := hide q.1
    have AC := hide q.2.1
    have A6 := hide q.2.2
    clear q h8
    go_enter Try.func5, Try.ntmps5
    go_wp2_with (fail)
    refine (now_new w w 40 (Kept.refl w) (by decide) (by decide)).mono ?_
    rintro e W1 ⟨rfl, h1, -⟩
    have H1 := hide h1
    obtain ⟨b, hb⟩ : ∃ b, w.heap.size = b := ⟨_, rfl⟩
    rw [hb] at H1
    clear h1
    rw [hb]
    clear hb
    go_wp2_with (fail)
    refine (begin_c w W1 _ _ H1.out rfl (by decide)).mono ?_
    rintro e W2 ⟨rfl, h2⟩
    have H2 := hide h2
    rw [kd0_is] at H2
    clear h2 H1
    go_wp2_with (fail)
    refine (kk_q W2 old _ I1.out HK1.out).mono ?_
    rintro e w' ⟨rfl, rfl⟩
    go_wp2_with (fail)
    refine (kk_q W2 there _ I3.out HK2.out).mono ?_
    rintro e w' ⟨rfl, rfl⟩
    go_wp2_with (fail)
    refine (kk_q W2 x _ I2.out HK3.out).mono ?_
    rintro e w' ⟨rfl, rfl⟩
    go_wp2_with (fail)
    refine (d_write w W2 b _ 6 there ⟨[1, 0, 0, 0, 0, there, 0], 40, 3, 0, 0⟩ H2.out (by simp [Mst.write, Mst.touch, Mst.put, Mst.used, kd0, wrap64])).mono ?_
    rintro e W3 ⟨rfl, h3, -⟩
    have H3 := hide h3
    clear h3 H2 g1 g2 g3
    go_wp2_with (fail)
    refine (d_write w W3 b _ 3 guard (alM0 guard there 4) H3.out (by simp [Mst.write, Mst.touch, Mst.put, Mst.used, alM0, wrap64])).mono ?_
    rintro e W4 ⟨rfl, h4, -⟩
    have H4 := hide h4
    clear h4 H3
    go_wp2_with (fail)
    refine (dp_new W4 3 6 old x).mono ?_
    rintro e W5 ⟨rfl, p5, k5⟩
    have H5 := hide (H4.out.on k5)
    have NF := hide H4.out.2.size
    obtain ⟨f, hf⟩ : ∃ f, W4.heap.size = f := ⟨_, rfl⟩
    have P5 := hide p5
    rw [hf] at P5 NF
    clear p5 k5 H4
    rw [hf]
    clear hf
    obtain ⟨p0, hp0⟩ : ∃ p, Dp.new 3 6 old x = p := ⟨_, rfl⟩
    obtain ⟨m0, hm0⟩ : ∃ m, alM0 guard there 4 = m := ⟨_, rfl⟩
    rw [hp0] at P5 AL AC A6
    rw [hm0] at H5 AL AC A6
    clear hp0 hm0
    go_wp2_with (fail)
    rename World => U0
    go_loopw [12] (fun vn wr => ∃ k : Nat, k < 2 ∧ vn = .int .i64 ((k : Int) + 1) ∧ Hid (Now w wr b (dt p0 m0 k).2) ∧ Hid (DpAt wr f (dt p0 m0 k).1)) (fun vn _ => (20 - intOf vn).toNat)
    case atStart => exact ⟨0, by omega, by simp, H5, P5⟩
    case round =>
      obtain ⟨k, k6, rfl, M, P⟩ := hrel
      clear H5 P5
      have OK := hide (AL.out.ok k k6)
      have j9 : ((k : Int) + 1) < 9 := by omega
      by_cases hk : k + 1 = 2
      · have EN := hide ((AL.out.en k k6).trans (show decide (k + 1 = 2) = true by simp [hk]))
        obtain rfl : k = 1 := by omega
        clear k6 hk
        rename World => wr
        go_wp2_with (fail)
        refine (d_step w wr b _ f _ M.out P.out NF.out OK.out.n OK.out.r OK.out.i64 _ _ true (dt_step p0 m0 _) EN.out).mono ?_
        rintro e X ⟨rfl, m8, p8, -⟩
        have M8 := hide m8
        have P8 := hide p8
        clear m8 p8 M P OK EN
        go_wp2_with (fail)
        refine (known_c X).mono ?_
        rintro e Y ⟨rfl, k9⟩
        have M9 := hide (M8.out.on k9)
        have P9 := hide (P8.out.kept k9)
        clear k9 M8 P8
        go_wp2_with (fail)
        refine (dp_outcome Y f _ P9.out 0 ((al_outc AL.out).trans AC.out)).mono ?_
        rintro e w' ⟨rfl, rfl⟩
        go_wp2_with (fail)
        refine (now_look w Y b _ 6 there M9.out A6.out).mono ?_
        rintro e w' ⟨rfl, rfl⟩
        have KX := hide M9.out.2
        clear M9 P9
        go_wp2
        go_ret
        exact ⟨rfl, KX.out⟩
      · have EN := hide ((AL.out.en k k6).trans (show decide (k + 1 = 2) = false by simp [hk]))
        rename World => wr
        go_wp2_with (fail)
        refine (d_step w wr b _ f _ M.out P.out NF.out OK.out.n OK.out.r OK.out.i64 _ _ false (dt_step p0 m0 _) EN.out).mono ?_
        rintro e X ⟨rfl, m8, p8, -⟩
        have M8 := hide m8
        have P8 := hide p8
        clear m8 p8 M P OK EN
        go_wp2
        exact ⟨⟨k + 1, by omega, by simp, M8, P8⟩, by simp only [intOf]; omega⟩
end Go.Proofs.Ytoaicedkepcalaa
