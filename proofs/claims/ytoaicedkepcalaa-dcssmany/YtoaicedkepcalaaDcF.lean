/-
  What the program's frames of chapter 14 (dcss) answer and leave: 'Dp.step' its next access at a memory ('DcP'). No conditions beyond each theorem's own.
-/
import Derived.Test.YtoaicedkepcalaaDcP
namespace Go.Proofs.Ytoaicedkepcalaa
open Go.RowKit
set_option maxRecDepth 20000
attribute [local go_sem] Oper.semAt_some

/-- It lies at f. -/
def DpAt (W : World) (f : Nat) (p : Dp) : Prop := W.heap[f]? = some (.cells #[.int .i64 p.n, .int .i64 p.g, .int .i64 p.s, .int .i64 p.o, .int .i64 p.x, .int .i64 p.r, .int .i64 p.c] 56)
theorem DpAt.turned {W W' : World} {f : Nat} {p : Dp} {R : Nat → Prop} (h : DpAt W f p) (t : Turned R W W') (hR : ¬ R f) : DpAt W' f p := t.heap h hR
theorem DpAt.kept {W W' : World} {f : Nat} {p : Dp} (h : DpAt W f p) (t : Kept W W') : DpAt W' f p := t.heap h id
theorem DpAt.lt {W : World} {f : Nat} {p : Dp} (h : DpAt W f p) : f < W.heap.size := (Array.getElem?_eq_some_iff.1 h).1
theorem DpAt.cells {W : World} {f : Nat} {p : Dp} (h : DpAt W f p) : (W.cell? ⟨f, 0, none⟩ = some (.int .i64 p.n) ∧ W.cell? ⟨f, 1, none⟩ = some (.int .i64 p.g) ∧ W.cell? ⟨f, 2, none⟩ = some (.int .i64 p.s) ∧ W.cell? ⟨f, 3, none⟩ = some (.int .i64 p.o) ∧ W.cell? ⟨f, 4, none⟩ = some (.int .i64 p.x) ∧ W.cell? ⟨f, 5, none⟩ = some (.int .i64 p.r) ∧ W.cell? ⟨f, 6, none⟩ = some (.int .i64 p.c)) ∧ ∀ i, W.frozen? ⟨f, i, none⟩ = false := by
  have hb : W.heap[f]? = _ := h
  simp [World.cell?, World.frozen?, hb]
theorem dp_new (W : World) (g s o x : Int) : Calls Try.prog 9 #[.int .i64 g, .int .i64 s, .int .i64 o, .int .i64 x] W fun e W' => e = .returned (.pointer (some ⟨W.heap.size, 0, none⟩)) ∧ DpAt W' W.heap.size (Dp.new g s o x) ∧ Kept W W' := by
  go_enter Try.func9, Try.ntmps9
  go_wp2
  go_ret
  exact ⟨rfl, heap_new _ _, Turned.alloc _ _ _⟩
theorem dp_done (W : World) (f : Nat) (p : Dp) (h : DpAt W f p) (r : Bool) (e1 : (p.n == 6) = r) : Calls Try.prog 14 #[.pointer (some ⟨f, 0, none⟩)] W fun e W' => e = .returned (.bool r) ∧ W = W' := by
  obtain ⟨⟨c0, _⟩, _⟩ := h.cells
  subst e1
  clear h
  go_enter Try.func14, Try.ntmps14
  go_wp2
  go_ret
  exact ⟨rfl, rfl⟩
theorem dp_rec (W : World) (f : Nat) (p : Dp) (h : DpAt W f p) (r : Int) (e1 : p.r = r) : Calls Try.prog 10 #[.pointer (some ⟨f, 0, none⟩)] W fun e W' => e = .returned (.int .i64 r) ∧ W = W' := by
  obtain ⟨⟨_, _, _, _, _, c5, _⟩, _⟩ := h.cells
  subst e1
  clear h
  go_enter Try.func10, Try.ntmps10
  go_wp2
  go_ret
  exact ⟨rfl, rfl⟩
theorem dp_outcome (W : World) (f : Nat) (p : Dp) (h : DpAt W f p) (r : Int) (e1 : (if p.n = 6 then p.c else 0) = r) : Calls Try.prog 13 #[.pointer (some ⟨f, 0, none⟩)] W fun e W' => e = .returned (.int .i64 r) ∧ W = W' := by
  obtain ⟨⟨_, _, _, _, _, _, c6⟩, _⟩ := h.cells
  have H := hide h
  by_cases hn : p.n = 6
  · rw [if_pos hn] at e1
    subst e1
    have g : (p.n == 6) = true := by simp [hn]
    have G := hide g
    clear h g hn
    go_enter Try.func13, Try.ntmps13
    go_wp2_with (fail)
    refine (dp_done W f p H.out true G.out).mono ?_
    rintro e w' ⟨rfl, rfl⟩
    go_wp2
    go_ret
    exact ⟨rfl, rfl⟩
  · rw [if_neg hn] at e1
    subst e1
    have g : (p.n == 6) = false := by simp [hn]
    have G := hide g
    clear h g hn c6
    go_enter Try.func13, Try.ntmps13
    go_wp2_with (fail)
    refine (dp_done W f p H.out false G.out).mono ?_
    rintro e w' ⟨rfl, rfl⟩
    go_wp2
    go_ret
    exact ⟨rfl, rfl⟩
theorem came_q (W : World) (z : Bool) (r : Int) (e1 : Dp.cameZ z = r) : Calls Try.prog 38 #[.bool z] W fun e W' => e = .returned (.int .i64 r) ∧ W = W' := by
  subst e1
  cases z
  all_goals
    go_enter Try.func38, Try.ntmps38
    go_wp2
    go_ret
    exact ⟨rfl, rfl⟩
theorem dp_word (W : World) (f : Nat) (p : Dp) (h : DpAt W f p) (r : Int) (e1 : p.w = r) : Calls Try.prog 37 #[.pointer (some ⟨f, 0, none⟩)] W fun e W' => e = .returned (.int .i64 r) ∧ W = W' := by
  obtain ⟨⟨_, _, _, _, _, c5, _⟩, _⟩ := h.cells
  have E1 : Hid (Rf.ofZ 5 p.r = r) := hide e1
  clear h e1
  go_enter Try.func37, Try.ntmps37
  go_wp2_with (fail)
  refine (of_q W 5 p.r r E1.out).mono ?_
  rintro e w' ⟨rfl, rfl⟩
  go_wp2
  go_ret
  exact ⟨rfl, rfl⟩
theorem dp_becomes (W : World) (f : Nat) (p : Dp) (h : DpAt W f p) (r : Int) (e1 : p.becomes = r) : Calls Try.prog 40 #[.pointer (some ⟨f, 0, none⟩)] W fun e W' => e = .returned (.int .i64 r) ∧ W = W' := by
  obtain ⟨⟨_, _, _, c3, c4, _, c6⟩, _⟩ := h.cells
  unfold Dp.becomes at e1
  clear h
  obtain ⟨c, hc⟩ : ∃ c, p.c = c := ⟨_, rfl⟩
  rw [hc] at c6 e1
  clear hc
  by_cases h1 : c = 1
  · rw [if_pos h1] at e1
    subst e1 h1
    go_enter Try.func40, Try.ntmps40
    go_wp2
    go_ret
    exact ⟨rfl, rfl⟩
  · rw [if_neg h1] at e1
    subst e1
    have g : (c == 1) = false := by simp [h1]
    go_enter Try.func40, Try.ntmps40
    go_wp2
    go_ret
    exact ⟨rfl, rfl⟩
theorem dp_end (W : World) (f : Nat) (p : Dp) (h : DpAt W f p) (c : Int) : Calls Try.prog 35 #[.pointer (some ⟨f, 0, none⟩), .int .i64 c] W fun e W' => e = .returned (.bool true) ∧ DpAt W' f { p with c := c, n := 6 } ∧ Turned (fun k => k = f) W W' := by
  obtain ⟨⟨c0, c1, c2, c3, c4, c5, c6⟩, df⟩ := h.cells
  have df0 := df 0
  have df6 := df 6
  have H := hide h
  obtain ⟨W2, hW2⟩ : ∃ W2, (W.setCell ⟨f, 6, none⟩ (.int .i64 c)).setCell ⟨f, 0, none⟩ (.int .i64 6) = W2 := ⟨_, rfl⟩
  have HW2 := hide hW2
  clear h df hW2
  go_enter Try.func35, Try.ntmps35
  go_wp2
  go_ret
  rw [HW2.out]
  refine ⟨rfl, ?_, ?_⟩
  · have hb : W.heap[f]? = _ := H.out
    rw [← HW2.out]
    simp [DpAt, World.setCell, Array.getElem?_modify, hb]
  · rw [← HW2.out]
    exact (Turned.setCell (R := fun k => k = f) _ _ _ rfl).trans (Turned.setCell (R := fun k => k = f) _ _ _ rfl) (fun _ e => e) (fun _ _ e => e)
/-- What a frame and its memory are in then. -/
structure DpRan (W : World) (n₀ b : Nat) (v : Value) (f : Nat) (p : Dp) (m : Mst) (v' : Value) (W' : World) : Prop where
  frame : DpAt W' f p
  mem : PMem W' n₀ b v' m
  turned : Turned (fun k => k = f ∨ Foot b v k) W W'
  foot : ∀ k, Foot b v' k → Foot b v k ∨ W.heap.size ≤ k
set_option maxHeartbeats 8000000 in
theorem dp_step (W : World) (n₀ b : Nat) (v : Value) (f : Nat) (p : Dp) (m : Mst) (h : DpAt W f p) (hm : PMem W n₀ b v m) (hn₀ : n₀ ≤ W.heap.size) (hn : 0 ≤ p.n ∧ p.n ≤ 6) (hr : 0 ≤ p.r ∧ p.r ≤ 1000000) (ho : ∀ a, I64 (m.look a)) (hf : ¬ Foot b v f) (p' : Dp) (m' : Mst) (r : Bool) (e1 : p.step m = (p', m')) (e2 : (p'.n == 6) = r) :
    Calls Try.prog 11 #[.pointer (some ⟨f, 0, none⟩), .pointer (some ⟨b, 0, none⟩)] W fun e W' => e = .returned (.bool r) ∧ ∃ v', DpRan W n₀ b v f p' m' v' W' := by
  obtain ⟨⟨c0, c1, c2, c3, c4, c5, c6⟩, fz⟩ := h.cells
  have H := hide h
  have HM := hide hm
  have HO := hide ho
  have HF := hide hf
  have HR := hide e2
  have HN := hide hn₀
  obtain ⟨n1, n2⟩ := hn
  obtain ⟨r1, r2⟩ := hr
  have D0 : ∀ (q : Bool), (p.n == 6) = q → Calls Try.prog 14 #[.pointer (some ⟨f, 0, none⟩)] W fun e W' => e = .returned (.bool q) ∧ W = W' := fun q hq => dp_done W f p h q hq
  unfold Dp.step at e1
  obtain ⟨n, g, s, o, x, rr, c⟩ := p
  simp only at c0 c1 c2 c3 c4 c5 c6 e1 n1 n2 r1 r2 D0
  obtain rfl | rfl | rfl | rfl | rfl | rfl | rfl : n = 0 ∨ n = 1 ∨ n = 2 ∨ n = 3 ∨ n = 4 ∨ n = 5 ∨ n = 6 := by omega
  · have ne : ((0 : Int) == 6) = false := by decide
    simp (config := { decide := true }) only [reduceIte] at e1
    by_cases hfit : m.fits 5 = true
    · rw [if_pos hfit] at e1
      obtain ⟨rfl, rfl⟩ := Prod.mk.inj e1
      obtain ⟨z, hz⟩ : ∃ z, m.next (Dp.ws ⟨0, g, s, o, x, rr, c⟩) = z := ⟨_, rfl⟩
      have HZ := hide hz
      have FIT : Hid (m.fits [g, s, o, x, 0].length = true) := hide hfit
      obtain ⟨V, hV⟩ : ∃ V, W.drew = V := ⟨_, rfl⟩
      have kV : Kept W V := by rw [← hV]; exact Kept.drew _
      obtain ⟨⟨v0, v1, v2, v3, v4, v5, v6⟩, _⟩ := (h.kept kV).cells
      have x1 : ∀ u : Wd (fun U => Turned (Foot b v) V U), u.w.cell? ⟨f, 1, none⟩ = some (.int .i64 g) := fun u => u.ok.cell v1 hf
      have x2 : ∀ u : Wd (fun U => Turned (Foot b v) V U), u.w.cell? ⟨f, 2, none⟩ = some (.int .i64 s) := fun u => u.ok.cell v2 hf
      have x3 : ∀ u : Wd (fun U => Turned (Foot b v) V U), u.w.cell? ⟨f, 3, none⟩ = some (.int .i64 o) := fun u => u.ok.cell v3 hf
      have x4 : ∀ u : Wd (fun U => Turned (Foot b v) V U), u.w.cell? ⟨f, 4, none⟩ = some (.int .i64 x) := fun u => u.ok.cell v4 hf
      have HV := hide hV
      have KV := hide kV
      have FV := hide (h.kept kV)
      have MV := hide (hm.kept kV)
      clear hV kV v0 v1 v2 v3 v4 v5 v6
      clear h hm ho hf e2 hn₀ e1 hfit hz
      go_enter Try.func11, Try.ntmps11
      go_wp2_with (fail)
      refine (D0 false ne).mono ?_
      rintro e w' ⟨rfl, rfl⟩
      clear D0
      go_wp2_with (fail)
      refine region_wide [0, 1, 2, 3, 4, 5, 6, 7, 8, 9, 10, 11, 12, 13, 14, 15, 16, 17, 18, 19, 20, 21, 22, 23] (fun U => Turned (Foot b v) V U) (by kernel_rfl) (by kernel_rfl) (by rw [HV.out]; exact Turned.refl _ _) (fun _ => ?_)
      rw [HV.out]
      repeat (refine pq rfl rfl ?_; go_big_quiet_step (fail); refine wpQuiet_nil ?_)
      refine pl rfl rfl ?_
      gi_wp2_with (fail)
      refine ⟨trivial, ?_⟩
      refine (callsIn_wide.2 (dcss_c V g s o x)).mono ?_
      intro e WF hF
      obtain ⟨fa, fc, rfl, hrd, hc1, hc2, hnew, _, hk⟩ := hF.form
      have MF := hide (MV.out.kept hk)
      have FF := hide (FV.out.kept hk)
      have KF : Hid (Turned (Foot b v) V WF) := hide (hk.mono (fun _ _ e => e.elim))
      have HRD := hide hrd
      have HNB : Hid (∀ ad, fa = some ad → ad.block ≠ b) := hide (fun ad e => by have h1 := hnew ad e; have h2 := (MV.out.lt b (.inl rfl)).2; omega)
      have SZ : Hid (n₀ ≤ WF.heap.size) := hide (Nat.le_trans HN.out (Nat.le_trans KV.out.size hk.size))
      clear hF hrd hc1 hc2 hnew hk
      gi_wp2_with (fail)
      refine ⟨Wd.mem KF.out, ?_⟩
      refine pl rfl rfl ?_
      gi_wp2_with (fail)
      refine ⟨trivial, ?_⟩
      refine (callsIn_wide.2 (make_p WF n₀ b v m fa [g, s, o, x, 0] fc MF.out SZ.out HRD.out (by unfold maxLen; simp) (fun _ => HNB.out))).mono ?_
      rw [FIT.out]
      rw [show m.next [g, s, o, x, 0] = z from HZ.out]
      rintro e W1 ⟨rfl, vv, m1, t1, ft⟩
      have T9 : Hid (Turned (Foot b v) V W1) := hide (KF.out.trans t1 (fun _ e => e) (fun _ _ e => e))
      have M1 := hide m1
      have T1 : Hid (Turned (Foot b v) W W1) := hide (KV.out.then T9.out)
      have F1 := hide (FV.out.turned T9.out HF.out)
      have FT : Hid (∀ k, Foot b vv k → Foot b v k ∨ W.heap.size ≤ k) := hide (fun k hk => (ft k hk).imp id (fun e => Nat.le_trans (Nat.le_trans KV.out.size KF.out.size) e))
      have HF' : Hid (¬ Foot b vv f) := hide (fun e => (FT.out f e).elim HF.out (fun e => by have := H.out.lt; omega))
      clear m1 t1 ft
      gi_wp2_with (fail)
      refine ⟨Wd.mem T9.out, ?_⟩
      repeat (refine pq rfl rfl ?_; go_big_quiet_step (rfl); refine wpQuiet_nil ?_)
      refine perm_done ?_
      clear x1 x2 x3 x4
      obtain ⟨⟨d0, d1, d2, d3, d4, d5, d6⟩, df⟩ := F1.out.cells
      have df0 := df 0
      have df5 := df 5
      simp only at d0 d1 d2 d3 d4 d5 d6
      obtain ⟨W2, hW2⟩ : ∃ W2, (W1.setCell ⟨f, 5, none⟩ (.int .i64 z)).setCell ⟨f, 0, none⟩ (.int .i64 1) = W2 := ⟨_, rfl⟩
      have F2 : DpAt W2 f ⟨1, g, s, o, x, z, c⟩ := by
        have hb : W1.heap[f]? = _ := F1.out
        rw [← hW2]
        simp [DpAt, World.setCell, Array.getElem?_modify, hb]
      have T2 : Turned (fun k => k = f) W1 W2 := by
        rw [← hW2]
        exact (Turned.setCell (R := fun k => k = f) _ _ _ rfl).trans (Turned.setCell (R := fun k => k = f) _ _ _ rfl) (fun _ e => e) (fun _ _ e => e)
      have HF2 := hide F2
      have HT2 := hide T2
      have HW2 := hide hW2
      clear F2 T2 hW2 df
      go_wp2_with (fail)
      rw [HW2.out]
      refine (dp_done W2 f _ HF2.out r (by have := HR.out; simpa using this)).mono ?_
      rintro e W3 ⟨rfl, rfl⟩
      go_wp2
      go_ret
      exact ⟨rfl, vv, by rw [HZ.out]; exact HF2.out, M1.out.turned HT2.out (fun k hk e => HF'.out (by rw [← e]; exact hk)), T1.out.trans HT2.out (fun _ e => .inr e) (fun _ _ e => .inl e), FT.out⟩
    · rw [if_neg hfit] at e1
      obtain ⟨rfl, rfl⟩ := Prod.mk.inj e1
      have HZ : Hid (m.next [g, s, o, x, 0] = 0) := hide (by unfold Mst.next; exact if_neg hfit)
      have FIT : Hid (m.fits [g, s, o, x, 0].length = false) := hide (by simpa using hfit)
      obtain ⟨V, hV⟩ : ∃ V, W.drew = V := ⟨_, rfl⟩
      have kV : Kept W V := by rw [← hV]; exact Kept.drew _
      obtain ⟨⟨v0, v1, v2, v3, v4, v5, v6⟩, _⟩ := (h.kept kV).cells
      have x1 : ∀ u : Wd (fun U => Turned (Foot b v) V U), u.w.cell? ⟨f, 1, none⟩ = some (.int .i64 g) := fun u => u.ok.cell v1 hf
      have x2 : ∀ u : Wd (fun U => Turned (Foot b v) V U), u.w.cell? ⟨f, 2, none⟩ = some (.int .i64 s) := fun u => u.ok.cell v2 hf
      have x3 : ∀ u : Wd (fun U => Turned (Foot b v) V U), u.w.cell? ⟨f, 3, none⟩ = some (.int .i64 o) := fun u => u.ok.cell v3 hf
      have x4 : ∀ u : Wd (fun U => Turned (Foot b v) V U), u.w.cell? ⟨f, 4, none⟩ = some (.int .i64 x) := fun u => u.ok.cell v4 hf
      have HV := hide hV
      have KV := hide kV
      have FV := hide (h.kept kV)
      have MV := hide (hm.kept kV)
      clear hV kV v0 v1 v2 v3 v4 v5 v6
      clear h hm ho hf e2 hn₀ e1 hfit
      go_enter Try.func11, Try.ntmps11
      go_wp2_with (fail)
      refine (D0 false ne).mono ?_
      rintro e w' ⟨rfl, rfl⟩
      clear D0
      go_wp2_with (fail)
      refine region_wide [0, 1, 2, 3, 4, 5, 6, 7, 8, 9, 10, 11, 12, 13, 14, 15, 16, 17, 18, 19, 20, 21, 22, 23] (fun U => Turned (Foot b v) V U) (by kernel_rfl) (by kernel_rfl) (by rw [HV.out]; exact Turned.refl _ _) (fun _ => ?_)
      rw [HV.out]
      repeat (refine pq rfl rfl ?_; go_big_quiet_step (fail); refine wpQuiet_nil ?_)
      refine pl rfl rfl ?_
      gi_wp2_with (fail)
      refine ⟨trivial, ?_⟩
      refine (callsIn_wide.2 (dcss_c V g s o x)).mono ?_
      intro e WF hF
      obtain ⟨fa, fc, rfl, hrd, hc1, hc2, hnew, _, hk⟩ := hF.form
      have MF := hide (MV.out.kept hk)
      have FF := hide (FV.out.kept hk)
      have KF : Hid (Turned (Foot b v) V WF) := hide (hk.mono (fun _ _ e => e.elim))
      have HRD := hide hrd
      have HNB : Hid (∀ ad, fa = some ad → ad.block ≠ b) := hide (fun ad e => by have h1 := hnew ad e; have h2 := (MV.out.lt b (.inl rfl)).2; omega)
      have SZ : Hid (n₀ ≤ WF.heap.size) := hide (Nat.le_trans HN.out (Nat.le_trans KV.out.size hk.size))
      clear hF hrd hc1 hc2 hnew hk
      gi_wp2_with (fail)
      refine ⟨Wd.mem KF.out, ?_⟩
      refine pl rfl rfl ?_
      gi_wp2_with (fail)
      refine ⟨trivial, ?_⟩
      refine (callsIn_wide.2 (make_p WF n₀ b v m fa [g, s, o, x, 0] fc MF.out SZ.out HRD.out (by unfold maxLen; simp) (fun _ => HNB.out))).mono ?_
      rw [FIT.out]
      rw [show m.next [g, s, o, x, 0] = 0 from HZ.out]
      rintro e W1 ⟨rfl, vv, m1, t1, ft⟩
      have T9 : Hid (Turned (Foot b v) V W1) := hide (KF.out.trans t1 (fun _ e => e) (fun _ _ e => e))
      have M1 := hide m1
      have T1 : Hid (Turned (Foot b v) W W1) := hide (KV.out.then T9.out)
      have F1 := hide (FV.out.turned T9.out HF.out)
      have FT : Hid (∀ k, Foot b vv k → Foot b v k ∨ W.heap.size ≤ k) := hide (fun k hk => (ft k hk).imp id (fun e => Nat.le_trans (Nat.le_trans KV.out.size KF.out.size) e))
      have HF' : Hid (¬ Foot b vv f) := hide (fun e => (FT.out f e).elim HF.out (fun e => by have := H.out.lt; omega))
      clear m1 t1 ft
      gi_wp2_with (fail)
      refine ⟨Wd.mem T9.out, ?_⟩
      repeat (refine pq rfl rfl ?_; go_big_quiet_step (rfl); refine wpQuiet_nil ?_)
      refine perm_done ?_
      clear x1 x2 x3 x4
      go_wp2_with (fail)
      refine (dp_end W1 f _ F1.out 3).mono ?_
      rintro e W2 ⟨rfl, f2, t2⟩
      have F2 := hide f2
      have T2 := hide t2
      clear f2 t2
      go_wp2
      go_ret
      exact ⟨by have := HR.out; simpa using this, vv, F2.out, M1.out.turned T2.out (fun k hk e => HF'.out (by rw [← e]; exact hk)), T1.out.trans T2.out (fun _ e => .inr e) (fun _ _ e => .inl e), FT.out⟩
  · have ne : ((1 : Int) == 6) = false := by decide
    simp (config := { decide := true }) only [reduceIte] at e1
    by_cases hd : m.did s o = true
    · rw [if_pos hd] at e1
      obtain ⟨rfl, rfl⟩ := Prod.mk.inj e1
      obtain ⟨me, hme⟩ : ∃ me, Dp.w ⟨1, g, s, o, x, rr, c⟩ = me := ⟨_, rfl⟩
      have HME := hide hme
      have HD : Hid (m.did s o = true) := hide (by simpa using hd)
      obtain ⟨V, hV⟩ : ∃ V, W.drew = V := ⟨_, rfl⟩
      have kV : Kept W V := by rw [← hV]; exact Kept.drew _
      obtain ⟨⟨v0, v1, v2, v3, v4, v5, v6⟩, _⟩ := (h.kept kV).cells
      have x2 : ∀ u : Wd (fun U => Turned (Foot b v) V U), u.w.cell? ⟨f, 2, none⟩ = some (.int .i64 s) := fun u => u.ok.cell v2 hf
      have x3 : ∀ u : Wd (fun U => Turned (Foot b v) V U), u.w.cell? ⟨f, 3, none⟩ = some (.int .i64 o) := fun u => u.ok.cell v3 hf
      have HV := hide hV
      have KV := hide kV
      have FV := hide (h.kept kV)
      have MV := hide (hm.kept kV)
      clear hV kV v0 v1 v2 v3 v4 v5 v6
      have CO : ∀ X, DpAt X f ⟨1, g, s, o, x, rr, c⟩ → Calls Try.prog 37 #[.pointer (some ⟨f, 0, none⟩)] X fun e X' => e = .returned (.int .i64 me) ∧ X = X' := fun X hX => dp_word X f _ hX me HME.out
      clear h hm ho hf e2 hn₀ e1 hd hme
      go_enter Try.func11, Try.ntmps11
      go_wp2_with (fail)
      refine (D0 false ne).mono ?_
      rintro e w' ⟨rfl, rfl⟩
      clear D0
      go_wp2_with (fail)
      refine region_wide [0, 1, 2, 3, 4, 5, 6, 7, 8, 9, 10, 11, 12] (fun U => Turned (Foot b v) V U) (by kernel_rfl) (by kernel_rfl) (by rw [HV.out]; exact Turned.refl _ _) (fun _ => ?_)
      rw [HV.out]
      repeat (refine pq rfl rfl ?_; go_big_quiet_step (fail); refine wpQuiet_nil ?_)
      refine pl rfl rfl ?_
      gi_wp2_with (fail)
      refine ⟨trivial, ?_⟩
      refine (callsIn_wide.2 (CO V FV.out)).mono ?_
      rintro e w' ⟨rfl, rfl⟩
      gi_wp2_with (fail)
      refine ⟨Wd.mem (Turned.refl _ _), ?_⟩
      refine pl rfl rfl ?_
      gi_wp2_with (fail)
      refine ⟨trivial, ?_⟩
      refine (callsIn_wide.2 (cas_p V n₀ b v m s o me MV.out)).mono ?_
      rw [HD.out]
      rintro e W1 ⟨rfl, m1, t1⟩
      have T9 : Hid (Turned (Foot b v) V W1) := hide (t1)
      have M1 := hide m1
      have T1 : Hid (Turned (Foot b v) W W1) := hide (KV.out.then T9.out)
      have F1 := hide (FV.out.turned T9.out HF.out)
      clear m1 t1
      gi_wp2_with (fail)
      refine ⟨Wd.mem T9.out, ?_⟩
      repeat (refine pq rfl rfl ?_; go_big_quiet_step (rfl); refine wpQuiet_nil ?_)
      refine perm_done ?_
      clear x2 x3 CO
      obtain ⟨⟨d0, d1, d2, d3, d4, d5, d6⟩, df⟩ := F1.out.cells
      have df0 := df 0
      simp only at d0 d1 d2 d3 d4 d5 d6
      obtain ⟨W2, hW2⟩ : ∃ W2, W1.setCell ⟨f, 0, none⟩ (.int .i64 2) = W2 := ⟨_, rfl⟩
      have F2 : DpAt W2 f ⟨2, g, s, o, x, rr, c⟩ := by
        have hb : W1.heap[f]? = _ := F1.out
        rw [← hW2]
        simp [DpAt, World.setCell, Array.getElem?_modify, hb]
      have T2 : Turned (fun k => k = f) W1 W2 := by
        rw [← hW2]
        exact Turned.setCell (R := fun k => k = f) _ _ _ rfl
      have HF2 := hide F2
      have HT2 := hide T2
      have HW2 := hide hW2
      clear F2 T2 hW2 df
      go_wp2_with (fail)
      rw [HW2.out]
      refine (dp_done W2 f _ HF2.out r (by have := HR.out; simpa using this)).mono ?_
      rintro e W3 ⟨rfl, rfl⟩
      go_wp2
      go_ret
      exact ⟨rfl, v, HF2.out, by rw [HME.out]; exact M1.out.turned HT2.out (fun k hk e => HF.out (by rw [← e]; exact hk)), T1.out.trans HT2.out (fun _ e => .inr e) (fun _ _ e => .inl e), fun k hk => .inl hk⟩
    · rw [if_neg hd] at e1
      obtain ⟨rfl, rfl⟩ := Prod.mk.inj e1
      obtain ⟨me, hme⟩ : ∃ me, Dp.w ⟨1, g, s, o, x, rr, c⟩ = me := ⟨_, rfl⟩
      have HME := hide hme
      have HD : Hid (m.did s o = false) := hide (by simpa using hd)
      obtain ⟨V, hV⟩ : ∃ V, W.drew = V := ⟨_, rfl⟩
      have kV : Kept W V := by rw [← hV]; exact Kept.drew _
      obtain ⟨⟨v0, v1, v2, v3, v4, v5, v6⟩, _⟩ := (h.kept kV).cells
      have x2 : ∀ u : Wd (fun U => Turned (Foot b v) V U), u.w.cell? ⟨f, 2, none⟩ = some (.int .i64 s) := fun u => u.ok.cell v2 hf
      have x3 : ∀ u : Wd (fun U => Turned (Foot b v) V U), u.w.cell? ⟨f, 3, none⟩ = some (.int .i64 o) := fun u => u.ok.cell v3 hf
      have HV := hide hV
      have KV := hide kV
      have FV := hide (h.kept kV)
      have MV := hide (hm.kept kV)
      clear hV kV v0 v1 v2 v3 v4 v5 v6
      have CO : ∀ X, DpAt X f ⟨1, g, s, o, x, rr, c⟩ → Calls Try.prog 37 #[.pointer (some ⟨f, 0, none⟩)] X fun e X' => e = .returned (.int .i64 me) ∧ X = X' := fun X hX => dp_word X f _ hX me HME.out
      clear h hm ho hf e2 hn₀ e1 hd hme
      go_enter Try.func11, Try.ntmps11
      go_wp2_with (fail)
      refine (D0 false ne).mono ?_
      rintro e w' ⟨rfl, rfl⟩
      clear D0
      go_wp2_with (fail)
      refine region_wide [0, 1, 2, 3, 4, 5, 6, 7, 8, 9, 10, 11, 12] (fun U => Turned (Foot b v) V U) (by kernel_rfl) (by kernel_rfl) (by rw [HV.out]; exact Turned.refl _ _) (fun _ => ?_)
      rw [HV.out]
      repeat (refine pq rfl rfl ?_; go_big_quiet_step (fail); refine wpQuiet_nil ?_)
      refine pl rfl rfl ?_
      gi_wp2_with (fail)
      refine ⟨trivial, ?_⟩
      refine (callsIn_wide.2 (CO V FV.out)).mono ?_
      rintro e w' ⟨rfl, rfl⟩
      gi_wp2_with (fail)
      refine ⟨Wd.mem (Turned.refl _ _), ?_⟩
      refine pl rfl rfl ?_
      gi_wp2_with (fail)
      refine ⟨trivial, ?_⟩
      refine (callsIn_wide.2 (cas_p V n₀ b v m s o me MV.out)).mono ?_
      rw [HD.out]
      rintro e W1 ⟨rfl, m1, t1⟩
      have T9 : Hid (Turned (Foot b v) V W1) := hide (t1)
      have M1 := hide m1
      have T1 : Hid (Turned (Foot b v) W W1) := hide (KV.out.then T9.out)
      have F1 := hide (FV.out.turned T9.out HF.out)
      clear m1 t1
      gi_wp2_with (fail)
      refine ⟨Wd.mem T9.out, ?_⟩
      repeat (refine pq rfl rfl ?_; go_big_quiet_step (rfl); refine wpQuiet_nil ?_)
      refine perm_done ?_
      clear x2 x3 CO
      go_wp2_with (fail)
      refine (dp_end W1 f _ F1.out 0).mono ?_
      rintro e W2 ⟨rfl, f2, t2⟩
      have F2 := hide f2
      have T2 := hide t2
      clear f2 t2
      go_wp2
      go_ret
      exact ⟨by have := HR.out; simpa using this, v, F2.out, by rw [HME.out]; exact M1.out.turned T2.out (fun k hk e => HF.out (by rw [← e]; exact hk)), T1.out.trans T2.out (fun _ e => .inr e) (fun _ _ e => .inl e), fun k hk => .inl hk⟩
  · have ne : ((2 : Int) == 6) = false := by decide
    simp (config := { decide := true }) only [reduceIte] at e1
    obtain ⟨z, hz⟩ : ∃ z, m.look (g) = z := ⟨_, rfl⟩
    rw [hz] at e1
    obtain ⟨rfl, rfl⟩ := Prod.mk.inj e1
    have HZ := hide hz
    obtain ⟨z1, z2⟩ : I64 z := by rw [← hz]; exact ho _
    obtain ⟨t, ht⟩ : ∃ t, (z == 0) = t := ⟨_, rfl⟩
    obtain ⟨y, hy⟩ : ∃ y, Dp.cameZ t = y := ⟨_, rfl⟩
    have HY : Hid (Dp.cameZ (z == 0) = y) := hide (by rw [ht]; exact hy)
    have HY2 := hide hy
    clear h hm ho hf e2 hn₀ e1 hz hy
    go_enter Try.func11, Try.ntmps11
    go_wp2_with (fail)
    refine (D0 false ne).mono ?_
    rintro e w' ⟨rfl, rfl⟩
    clear D0
    go_wp2_with (fail)
    refine (read_p _ n₀ b v m (g) HM.out).mono ?_
    rw [HZ.out]
    rintro e W1 ⟨rfl, m1, t1⟩
    have M1 := hide m1
    have T1 : Hid (Turned (Foot b v) W W1) := hide (t1.mono (fun _ _ e => .inl e))
    have F1 := hide (H.out.turned T1.out HF.out)
    clear m1 t1
    go_wp2_with (fail)
    refine (came_q _ t y HY2.out).mono ?_
    rintro e w' ⟨rfl, rfl⟩
    obtain ⟨⟨d0, d1, d2, d3, d4, d5, d6⟩, df⟩ := F1.out.cells
    have df0 := df 0
    have df6 := df 6
    simp only at d0 d1 d2 d3 d4 d5 d6
    obtain ⟨W2, hW2⟩ : ∃ W2, (W1.setCell ⟨f, 6, none⟩ (.int .i64 y)).setCell ⟨f, 0, none⟩ (.int .i64 3) = W2 := ⟨_, rfl⟩
    have F2 : DpAt W2 f ⟨3, g, s, o, x, rr, y⟩ := by
      have hb : W1.heap[f]? = _ := F1.out
      rw [← hW2]
      simp [DpAt, World.setCell, Array.getElem?_modify, hb]
    have T2 : Turned (fun k => k = f) W1 W2 := by
      rw [← hW2]
      exact (Turned.setCell (R := fun k => k = f) _ _ _ rfl).trans (Turned.setCell (R := fun k => k = f) _ _ _ rfl) (fun _ e => e) (fun _ _ e => e)
    have HF2 := hide F2
    have HT2 := hide T2
    have HW2 := hide hW2
    clear F2 T2 hW2 df
    go_wp2_with (fail)
    rw [HW2.out]
    refine (dp_done W2 f _ HF2.out r (by have := HR.out; simpa using this)).mono ?_
    rintro e W3 ⟨rfl, rfl⟩
    go_wp2
    go_ret
    exact ⟨rfl, v, by rw [HY.out]; exact HF2.out, M1.out.turned HT2.out (fun k hk e => HF.out (by rw [← e]; exact hk)), T1.out.trans HT2.out (fun _ e => .inr e) (fun _ _ e => .inl e), fun k hk => .inl hk⟩
  · have ne : ((3 : Int) == 6) = false := by decide
    simp (config := { decide := true }) only [reduceIte] at e1
    obtain ⟨rfl, rfl⟩ := Prod.mk.inj e1
    obtain ⟨V, hV⟩ : ∃ V, W.drew = V := ⟨_, rfl⟩
    have kV : Kept W V := by rw [← hV]; exact Kept.drew _
    obtain ⟨⟨v0, v1, v2, v3, v4, v5, v6⟩, _⟩ := (h.kept kV).cells
    have x5 : ∀ u : Wd (fun U => Turned (Foot b v) V U), u.w.cell? ⟨f, 5, none⟩ = some (.int .i64 rr) := fun u => u.ok.cell v5 hf
    have x6 : ∀ u : Wd (fun U => Turned (Foot b v) V U), u.w.cell? ⟨f, 6, none⟩ = some (.int .i64 c) := fun u => u.ok.cell v6 hf
    have HV := hide hV
    have KV := hide kV
    have FV := hide (h.kept kV)
    have MV := hide (hm.kept kV)
    clear hV kV v0 v1 v2 v3 v4 v5 v6
    clear h hm ho hf e2 hn₀ e1
    go_enter Try.func11, Try.ntmps11
    go_wp2_with (fail)
    refine (D0 false ne).mono ?_
    rintro e w' ⟨rfl, rfl⟩
    clear D0
    go_wp2_with (fail)
    refine region_wide [0, 1, 2, 3, 4, 5, 6, 7, 8, 9, 10] (fun U => Turned (Foot b v) V U) (by kernel_rfl) (by kernel_rfl) (by rw [HV.out]; exact Turned.refl _ _) (fun _ => ?_)
    rw [HV.out]
    repeat (refine pq rfl rfl ?_; go_big_quiet_step (fail); refine wpQuiet_nil ?_)
    refine pl rfl rfl ?_
    gi_wp2_with (fail)
    refine ⟨trivial, ?_⟩
    refine (callsIn_wide.2 (cas_p V n₀ b v m (rr + 4) 0 c MV.out)).mono ?_
    rintro e W1 ⟨rfl, m1, t1⟩
    have T9 : Hid (Turned (Foot b v) V W1) := hide (t1)
    have M1 := hide m1
    have T1 : Hid (Turned (Foot b v) W W1) := hide (KV.out.then T9.out)
    have F1 := hide (FV.out.turned T9.out HF.out)
    clear m1 t1
    gi_wp2_with (fail)
    refine ⟨Wd.mem T9.out, ?_⟩
    refine perm_done ?_
    clear x5 x6
    obtain ⟨⟨d0, d1, d2, d3, d4, d5, d6⟩, df⟩ := F1.out.cells
    have df0 := df 0
    simp only at d0 d1 d2 d3 d4 d5 d6
    obtain ⟨W2, hW2⟩ : ∃ W2, W1.setCell ⟨f, 0, none⟩ (.int .i64 4) = W2 := ⟨_, rfl⟩
    have F2 : DpAt W2 f ⟨4, g, s, o, x, rr, c⟩ := by
      have hb : W1.heap[f]? = _ := F1.out
      rw [← hW2]
      simp [DpAt, World.setCell, Array.getElem?_modify, hb]
    have T2 : Turned (fun k => k = f) W1 W2 := by
      rw [← hW2]
      exact Turned.setCell (R := fun k => k = f) _ _ _ rfl
    have HF2 := hide F2
    have HT2 := hide T2
    have HW2 := hide hW2
    clear F2 T2 hW2 df
    go_wp2_with (fail)
    rw [HW2.out]
    refine (dp_done W2 f _ HF2.out r (by have := HR.out; simpa using this)).mono ?_
    rintro e W3 ⟨rfl, rfl⟩
    go_wp2
    go_ret
    exact ⟨rfl, v, HF2.out, M1.out.turned HT2.out (fun k hk e => HF.out (by rw [← e]; exact hk)), T1.out.trans HT2.out (fun _ e => .inr e) (fun _ _ e => .inl e), fun k hk => .inl hk⟩
  · have ne : ((4 : Int) == 6) = false := by decide
    simp (config := { decide := true }) only [reduceIte] at e1
    obtain ⟨z, hz⟩ : ∃ z, m.look (rr + 4) = z := ⟨_, rfl⟩
    rw [hz] at e1
    obtain ⟨rfl, rfl⟩ := Prod.mk.inj e1
    have HZ := hide hz
    obtain ⟨z1, z2⟩ : I64 z := by rw [← hz]; exact ho _
    obtain ⟨t, ht⟩ : ∃ t, (z == 1) = t := ⟨_, rfl⟩
    obtain ⟨y, hy⟩ : ∃ y, Dp.cameZ t = y := ⟨_, rfl⟩
    have HY : Hid (Dp.cameZ (z == 1) = y) := hide (by rw [ht]; exact hy)
    have HY2 := hide hy
    clear h hm ho hf e2 hn₀ e1 hz hy
    go_enter Try.func11, Try.ntmps11
    go_wp2_with (fail)
    refine (D0 false ne).mono ?_
    rintro e w' ⟨rfl, rfl⟩
    clear D0
    go_wp2_with (fail)
    refine (read_p _ n₀ b v m (rr + 4) HM.out).mono ?_
    rw [HZ.out]
    rintro e W1 ⟨rfl, m1, t1⟩
    have M1 := hide m1
    have T1 : Hid (Turned (Foot b v) W W1) := hide (t1.mono (fun _ _ e => .inl e))
    have F1 := hide (H.out.turned T1.out HF.out)
    clear m1 t1
    go_wp2_with (fail)
    refine (came_q _ t y HY2.out).mono ?_
    rintro e w' ⟨rfl, rfl⟩
    obtain ⟨⟨d0, d1, d2, d3, d4, d5, d6⟩, df⟩ := F1.out.cells
    have df0 := df 0
    have df6 := df 6
    simp only at d0 d1 d2 d3 d4 d5 d6
    obtain ⟨W2, hW2⟩ : ∃ W2, (W1.setCell ⟨f, 6, none⟩ (.int .i64 y)).setCell ⟨f, 0, none⟩ (.int .i64 5) = W2 := ⟨_, rfl⟩
    have F2 : DpAt W2 f ⟨5, g, s, o, x, rr, y⟩ := by
      have hb : W1.heap[f]? = _ := F1.out
      rw [← hW2]
      simp [DpAt, World.setCell, Array.getElem?_modify, hb]
    have T2 : Turned (fun k => k = f) W1 W2 := by
      rw [← hW2]
      exact (Turned.setCell (R := fun k => k = f) _ _ _ rfl).trans (Turned.setCell (R := fun k => k = f) _ _ _ rfl) (fun _ e => e) (fun _ _ e => e)
    have HF2 := hide F2
    have HT2 := hide T2
    have HW2 := hide hW2
    clear F2 T2 hW2 df
    go_wp2_with (fail)
    rw [HW2.out]
    refine (dp_done W2 f _ HF2.out r (by have := HR.out; simpa using this)).mono ?_
    rintro e W3 ⟨rfl, rfl⟩
    go_wp2
    go_ret
    exact ⟨rfl, v, by rw [HY.out]; exact HF2.out, M1.out.turned HT2.out (fun k hk e => HF.out (by rw [← e]; exact hk)), T1.out.trans HT2.out (fun _ e => .inr e) (fun _ _ e => .inl e), fun k hk => .inl hk⟩
  · have ne : ((5 : Int) == 6) = false := by decide
    simp (config := { decide := true }) only [reduceIte] at e1
    obtain ⟨rfl, rfl⟩ := Prod.mk.inj e1
    obtain ⟨me, hme⟩ : ∃ me, Dp.w ⟨5, g, s, o, x, rr, c⟩ = me := ⟨_, rfl⟩
    have HME := hide hme
    obtain ⟨be, hbe⟩ : ∃ be, Dp.becomes ⟨5, g, s, o, x, rr, c⟩ = be := ⟨_, rfl⟩
    have HBE := hide hbe
    obtain ⟨V, hV⟩ : ∃ V, W.drew = V := ⟨_, rfl⟩
    have kV : Kept W V := by rw [← hV]; exact Kept.drew _
    obtain ⟨⟨v0, v1, v2, v3, v4, v5, v6⟩, _⟩ := (h.kept kV).cells
    have x2 : ∀ u : Wd (fun U => Turned (Foot b v) V U), u.w.cell? ⟨f, 2, none⟩ = some (.int .i64 s) := fun u => u.ok.cell v2 hf
    have HV := hide hV
    have KV := hide kV
    have FV := hide (h.kept kV)
    have MV := hide (hm.kept kV)
    clear hV kV v0 v1 v2 v3 v4 v5 v6
    have CO : ∀ X, DpAt X f ⟨5, g, s, o, x, rr, c⟩ → Calls Try.prog 37 #[.pointer (some ⟨f, 0, none⟩)] X fun e X' => e = .returned (.int .i64 me) ∧ X = X' := fun X hX => dp_word X f _ hX me HME.out
    have CB : ∀ X, DpAt X f ⟨5, g, s, o, x, rr, c⟩ → Calls Try.prog 40 #[.pointer (some ⟨f, 0, none⟩)] X fun e X' => e = .returned (.int .i64 be) ∧ X = X' := fun X hX => dp_becomes X f _ hX be HBE.out
    clear h hm ho hf e2 hn₀ e1 hme hbe
    go_enter Try.func11, Try.ntmps11
    go_wp2_with (fail)
    refine (D0 false ne).mono ?_
    rintro e w' ⟨rfl, rfl⟩
    clear D0
    go_wp2_with (fail)
    refine region_wide [0, 1, 2, 3, 4, 5, 7, 6, 8, 9] (fun U => Turned (Foot b v) V U) (by kernel_rfl) (by kernel_rfl) (by rw [HV.out]; exact Turned.refl _ _) (fun _ => ?_)
    rw [HV.out]
    repeat (refine pq rfl rfl ?_; go_big_quiet_step (fail); refine wpQuiet_nil ?_)
    refine pl rfl rfl ?_
    gi_wp2_with (fail)
    refine ⟨trivial, ?_⟩
    refine (callsIn_wide.2 (CO V FV.out)).mono ?_
    rintro e w' ⟨rfl, rfl⟩
    gi_wp2_with (fail)
    refine ⟨Wd.mem (Turned.refl _ _), ?_⟩
    refine pl rfl rfl ?_
    gi_wp2_with (fail)
    refine ⟨trivial, ?_⟩
    refine (callsIn_wide.2 (CB V FV.out)).mono ?_
    rintro e w' ⟨rfl, rfl⟩
    gi_wp2_with (fail)
    refine ⟨Wd.mem (Turned.refl _ _), ?_⟩
    refine pl rfl rfl ?_
    gi_wp2_with (fail)
    refine ⟨trivial, ?_⟩
    refine (callsIn_wide.2 (cas_p V n₀ b v m s me be MV.out)).mono ?_
    rintro e W1 ⟨rfl, m1, t1⟩
    have T9 : Hid (Turned (Foot b v) V W1) := hide (t1)
    have M1 := hide m1
    have T1 : Hid (Turned (Foot b v) W W1) := hide (KV.out.then T9.out)
    have F1 := hide (FV.out.turned T9.out HF.out)
    clear m1 t1
    gi_wp2_with (fail)
    refine ⟨Wd.mem T9.out, ?_⟩
    refine perm_done ?_
    clear x2 CO CB
    obtain ⟨⟨d0, d1, d2, d3, d4, d5, d6⟩, df⟩ := F1.out.cells
    have df0 := df 0
    simp only at d0 d1 d2 d3 d4 d5 d6
    obtain ⟨W2, hW2⟩ : ∃ W2, W1.setCell ⟨f, 0, none⟩ (.int .i64 6) = W2 := ⟨_, rfl⟩
    have F2 : DpAt W2 f ⟨6, g, s, o, x, rr, c⟩ := by
      have hb : W1.heap[f]? = _ := F1.out
      rw [← hW2]
      simp [DpAt, World.setCell, Array.getElem?_modify, hb]
    have T2 : Turned (fun k => k = f) W1 W2 := by
      rw [← hW2]
      exact Turned.setCell (R := fun k => k = f) _ _ _ rfl
    have HF2 := hide F2
    have HT2 := hide T2
    have HW2 := hide hW2
    clear F2 T2 hW2 df
    go_wp2_with (fail)
    rw [HW2.out]
    refine (dp_done W2 f _ HF2.out r (by have := HR.out; simpa using this)).mono ?_
    rintro e W3 ⟨rfl, rfl⟩
    go_wp2
    go_ret
    exact ⟨rfl, v, HF2.out, by rw [HME.out, HBE.out]; exact M1.out.turned HT2.out (fun k hk e => HF.out (by rw [← e]; exact hk)), T1.out.trans HT2.out (fun _ e => .inr e) (fun _ _ e => .inl e), fun k hk => .inl hk⟩
  · simp (config := { decide := true }) only [reduceIte] at e1
    obtain ⟨rfl, rfl⟩ := Prod.mk.inj e1
    clear h hm ho hf e1 e2 hn₀
    go_enter Try.func11, Try.ntmps11
    go_wp2_with (fail)
    refine (D0 true rfl).mono ?_
    rintro e w' ⟨rfl, rfl⟩
    go_wp2_with (fail)
    refine (D0 r HR.out).mono ?_
    rintro e w' ⟨rfl, rfl⟩
    go_wp2
    go_ret
    exact ⟨rfl, v, H.out, HM.out, Turned.refl _ _, fun k hk => .inl hk⟩
end Go.Proofs.Ytoaicedkepcalaa
