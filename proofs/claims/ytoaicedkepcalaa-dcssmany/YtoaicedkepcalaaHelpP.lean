/-
  What the program's frames of chapter 12 (help) answer and leave: 'Hp' a frame in plain, 'Hp.step' its next access at a memory. No conditions beyond each theorem's own.
-/
import Derived.Test.YtoaicedkepcalaaNow
import Derived.Test.YtoaicedkepcalaaPair
import Derived.Test.YtoaicedkepcalaaHeldT
import Derived.Test.YtoaicedkepcalaaViewP
namespace Go.Proofs.Ytoaicedkepcalaa
open Go.RowKit
set_option maxRecDepth 20000
attribute [local go_sem] Oper.semAt_some

/-- A frame of help: what is next (7: nothing), the Dcss, its Guard, what it would be settled as, its slot, where its word stands, the word. -/
structure Hp where
  n : Int
  a : Int
  g : Int
  o : Int
  s : Int
  p : Int
  w : Int
def Hp.cs (p : Hp) : Array Value := #[.int .i64 p.n, .int .i64 p.a, .int .i64 p.g, .int .i64 p.o, .int .i64 p.s, .int .i64 p.p, .int .i64 p.w]
/-- It lies at f. -/
def HpAt (W : World) (f : Nat) (p : Hp) : Prop := W.heap[f]? = some (.cells #[.int .i64 p.n, .int .i64 p.a, .int .i64 p.g, .int .i64 p.o, .int .i64 p.s, .int .i64 p.p, .int .i64 p.w] 63)
theorem HpAt.turned {W W' : World} {f : Nat} {p : Hp} {R : Nat → Prop} (h : HpAt W f p) (t : Turned R W W') (hR : ¬ R f) : HpAt W' f p := t.heap h hR
theorem HpAt.kept {W W' : World} {f : Nat} {p : Hp} (h : HpAt W f p) (t : Kept W W') : HpAt W' f p := t.heap h id
theorem HpAt.lt {W : World} {f : Nat} {p : Hp} (h : HpAt W f p) : f < W.heap.size := (Array.getElem?_eq_some_iff.1 h).1
theorem HpAt.cells {W : World} {f : Nat} {p : Hp} (h : HpAt W f p) : (W.cell? ⟨f, 0, none⟩ = some (.int .i64 p.n) ∧ W.cell? ⟨f, 1, none⟩ = some (.int .i64 p.a) ∧ W.cell? ⟨f, 2, none⟩ = some (.int .i64 p.g) ∧ W.cell? ⟨f, 3, none⟩ = some (.int .i64 p.o) ∧ W.cell? ⟨f, 4, none⟩ = some (.int .i64 p.s) ∧ W.cell? ⟨f, 5, none⟩ = some (.int .i64 p.p) ∧ W.cell? ⟨f, 6, none⟩ = some (.int .i64 p.w)) ∧ ∀ i, W.frozen? ⟨f, i, none⟩ = false := by
  have hb : W.heap[f]? = _ := h
  simp [World.cell?, World.frozen?, hb]
namespace Hp
def new (a : Int) : Hp := ⟨0, a, 0, 0, 0, 0, 0⟩
def outZ (z : Int) : Int := if z = 0 then 1 else 2
def placeZ (z : Int) : Int := if z = 1 then 3 else 2
/-- The next access. -/
def step (p : Hp) (m : Mst) : Hp × Mst :=
  if p.n = 0 then ({ p with g := m.look p.a, n := 1 }, m.touch p.a)
  else if p.n = 1 then ({ p with o := outZ (m.look p.g), n := 2 }, m.touch p.g)
  else if p.n = 2 then ({ p with n := 3 }, m.cas (p.a + 4) 0 p.o)
  else if p.n = 3 then ({ p with p := placeZ (m.look (p.a + 4)), n := 4 }, m.touch (p.a + 4))
  else if p.n = 4 then ({ p with s := m.look (p.a + 1), n := 5 }, m.touch (p.a + 1))
  else if p.n = 5 then ({ p with w := m.look (p.a + p.p), n := 6 }, m.touch (p.a + p.p))
  else if p.n = 6 then ({ p with n := 7 }, m.cas p.s (Rf.ofZ 5 p.a) p.w)
  else (p, m)
/-- A frame of a Dcss that may be. -/
structure Ok (p : Hp) : Prop where
  n : 0 ≤ p.n ∧ p.n ≤ 7
  a : 0 ≤ p.a ∧ p.a ≤ 1000000
  p : 0 ≤ p.p ∧ p.p ≤ 10
end Hp
theorem hp_new (W : World) (a : Int) : Calls Try.prog 22 #[.int .i64 a] W fun e W' => e = .returned (.pointer (some ⟨W.heap.size, 0, none⟩)) ∧ HpAt W' W.heap.size (Hp.new a) ∧ Kept W W' := by
  go_enter Try.func22, Try.ntmps22
  go_wp2
  go_ret
  exact ⟨rfl, heap_new _ _, Turned.alloc _ _ _⟩
theorem hp_done (W : World) (f : Nat) (p : Hp) (h : HpAt W f p) (r : Bool) (e1 : (p.n == 7) = r) : Calls Try.prog 44 #[.pointer (some ⟨f, 0, none⟩)] W fun e W' => e = .returned (.bool r) ∧ W = W' := by
  obtain ⟨⟨c0, _⟩, _⟩ := h.cells
  subst e1
  clear h
  go_enter Try.func44, Try.ntmps44
  go_wp2
  go_ret
  exact ⟨rfl, rfl⟩
theorem out_q (W : World) (z r : Int) (e1 : Hp.outZ z = r) : Calls Try.prog 45 #[.int .i64 z] W fun e W' => e = .returned (.int .i64 r) ∧ W = W' := by
  subst e1
  unfold Hp.outZ
  by_cases hz : z = 0
  · rw [if_pos hz]
    subst hz
    go_enter Try.func45, Try.ntmps45
    go_wp2
    go_ret
    exact ⟨rfl, rfl⟩
  · rw [if_neg hz]
    have g : (z == 0) = false := by simp [hz]
    go_enter Try.func45, Try.ntmps45
    go_wp2
    go_ret
    exact ⟨rfl, rfl⟩
theorem place_q (W : World) (z r : Int) (e1 : Hp.placeZ z = r) : Calls Try.prog 46 #[.int .i64 z] W fun e W' => e = .returned (.int .i64 r) ∧ W = W' := by
  subst e1
  unfold Hp.placeZ
  by_cases hz : z = 1
  · rw [if_pos hz]
    subst hz
    go_enter Try.func46, Try.ntmps46
    go_wp2
    go_ret
    exact ⟨rfl, rfl⟩
  · rw [if_neg hz]
    have g : (z == 1) = false := by simp [hz]
    go_enter Try.func46, Try.ntmps46
    go_wp2
    go_ret
    exact ⟨rfl, rfl⟩
theorem of_q (W : World) (k a r : Int) (e1 : Rf.ofZ k a = r) : Calls Try.prog 32 #[.int .i64 k, .int .i64 a] W fun e W' => e = .returned (.int .i64 r) ∧ W = W' := by
  subst e1
  refine (Rf.of_c k a W).mono ?_
  rintro e w' ⟨rfl, rfl⟩
  exact ⟨rfl, rfl⟩
/-- What a frame and its memory are in then. -/
structure HpRan (W : World) (n₀ b : Nat) (v : Value) (f : Nat) (p : Hp) (m : Mst) (W' : World) : Prop where
  frame : HpAt W' f p
  mem : PMem W' n₀ b v m
  turned : Turned (fun k => k = f ∨ Foot b v k) W W'
set_option maxHeartbeats 4000000 in
theorem hp_step (W : World) (n₀ b : Nat) (v : Value) (f : Nat) (p : Hp) (m : Mst) (h : HpAt W f p) (hm : PMem W n₀ b v m) (hok : p.Ok) (ho : ∀ a, I64 (m.look a)) (hf : ¬ Foot b v f) (p' : Hp) (m' : Mst) (r : Bool) (e1 : p.step m = (p', m')) (e2 : (p'.n == 7) = r) :
    Calls Try.prog 23 #[.pointer (some ⟨f, 0, none⟩), .pointer (some ⟨b, 0, none⟩)] W fun e W' => e = .returned (.bool r) ∧ HpRan W n₀ b v f p' m' W' := by
  obtain ⟨⟨c0, c1, c2, c3, c4, c5, c6⟩, fz⟩ := h.cells
  have H := hide h
  have HM := hide hm
  have HO := hide ho
  have HF := hide hf
  have HR := hide e2
  obtain ⟨⟨n1, n2⟩, ⟨a1, a2⟩, p1, p2⟩ := hok
  have D0 : ∀ (q : Bool), (p.n == 7) = q → Calls Try.prog 44 #[.pointer (some ⟨f, 0, none⟩)] W fun e W' => e = .returned (.bool q) ∧ W = W' := fun q hq => hp_done W f p h q hq
  unfold Hp.step at e1
  obtain ⟨n, a, g, o, s, q, wd⟩ := p
  simp only at c0 c1 c2 c3 c4 c5 c6 e1 n1 n2 a1 a2 p1 p2 D0
  obtain rfl | rfl | rfl | rfl | rfl | rfl | rfl | rfl : n = 0 ∨ n = 1 ∨ n = 2 ∨ n = 3 ∨ n = 4 ∨ n = 5 ∨ n = 6 ∨ n = 7 := by omega
  · have ne : ((0 : Int) == 7) = false := by decide
    simp (config := { decide := true }) only [reduceIte] at e1
    obtain ⟨z, hz⟩ : ∃ z, m.look (a) = z := ⟨_, rfl⟩
    rw [hz] at e1
    obtain ⟨rfl, rfl⟩ := Prod.mk.inj e1
    have HZ := hide hz
    obtain ⟨z1, z2⟩ : I64 z := by rw [← hz]; exact ho _
    clear h hm ho hf e1 e2 hz
    go_enter Try.func23, Try.ntmps23
    go_wp2_with (fail)
    refine (D0 false ne).mono ?_
    rintro e w' ⟨rfl, rfl⟩
    clear D0
    go_wp2_with (fail)
    refine (read_p _ n₀ b v m (a) HM.out).mono ?_
    rw [HZ.out]
    rintro e W1 ⟨rfl, m1, t1⟩
    have M1 := hide m1
    have T1 : Hid (Turned (Foot b v) W W1) := hide (t1.mono (fun _ _ e => .inl e))
    have F1 := hide (H.out.turned T1.out HF.out)
    clear m1 t1
    obtain ⟨⟨d0, d1, d2, d3, d4, d5, d6⟩, df⟩ := F1.out.cells
    have df0 := df 0
    have df2 := df 2
    simp only at d0 d1 d2 d3 d4 d5 d6
    obtain ⟨W2, hW2⟩ : ∃ W2, (W1.setCell ⟨f, 2, none⟩ (.int .i64 z)).setCell ⟨f, 0, none⟩ (.int .i64 1) = W2 := ⟨_, rfl⟩
    have F2 : HpAt W2 f ⟨1, a, z, o, s, q, wd⟩ := by
      have hb : W1.heap[f]? = _ := F1.out
      rw [← hW2]
      simp [HpAt, World.setCell, Array.getElem?_modify, hb]
    have T2 : Turned (fun k => k = f) W1 W2 := by
      rw [← hW2]
      exact (Turned.setCell (R := fun k => k = f) _ _ _ rfl).trans (Turned.setCell (R := fun k => k = f) _ _ _ rfl) (fun _ e => e) (fun _ _ e => e)
    have HF2 := hide F2
    have HT2 := hide T2
    have HW2 := hide hW2
    clear F2 T2 hW2 df
    go_wp2_with (fail)
    rw [HW2.out]
    refine (hp_done W2 f _ HF2.out r (by have := HR.out; simpa using this)).mono ?_
    rintro e W3 ⟨rfl, rfl⟩
    go_wp2
    go_ret
    exact ⟨rfl, HF2.out, M1.out.turned HT2.out (fun k hk e => HF.out (by rw [← e]; exact hk)), T1.out.trans HT2.out (fun _ e => .inr e) (fun _ _ e => .inl e)⟩
  · have ne : ((1 : Int) == 7) = false := by decide
    simp (config := { decide := true }) only [reduceIte] at e1
    obtain ⟨z, hz⟩ : ∃ z, m.look (g) = z := ⟨_, rfl⟩
    rw [hz] at e1
    obtain ⟨rfl, rfl⟩ := Prod.mk.inj e1
    have HZ := hide hz
    obtain ⟨z1, z2⟩ : I64 z := by rw [← hz]; exact ho _
    obtain ⟨y, hy⟩ : ∃ y, Hp.outZ z = y := ⟨_, rfl⟩
    have HY := hide hy
    clear h hm ho hf e1 e2 hz hy
    go_enter Try.func23, Try.ntmps23
    go_wp2_with (fail)
    refine (D0 false ne).mono ?_
    rintro e w' ⟨rfl, rfl⟩
    clear D0
    go_wp2_with (fail)
    refine (read_p _ n₀ b v m (g) HM.out).mono ?_
    rw [HZ.out]
    rintro e W1 ⟨rfl, m1, t1⟩
    have M1 := hide m1
    have T1 : Hid (Turned (Foot b v) W W1) := hide (t1.mono (fun _ _ e => .inl e))
    have F1 := hide (H.out.turned T1.out HF.out)
    clear m1 t1
    go_wp2_with (fail)
    refine (out_q _ z y HY.out).mono ?_
    rintro e w' ⟨rfl, rfl⟩
    obtain ⟨⟨d0, d1, d2, d3, d4, d5, d6⟩, df⟩ := F1.out.cells
    have df0 := df 0
    have df3 := df 3
    simp only at d0 d1 d2 d3 d4 d5 d6
    obtain ⟨W2, hW2⟩ : ∃ W2, (W1.setCell ⟨f, 3, none⟩ (.int .i64 y)).setCell ⟨f, 0, none⟩ (.int .i64 2) = W2 := ⟨_, rfl⟩
    have F2 : HpAt W2 f ⟨2, a, g, y, s, q, wd⟩ := by
      have hb : W1.heap[f]? = _ := F1.out
      rw [← hW2]
      simp [HpAt, World.setCell, Array.getElem?_modify, hb]
    have T2 : Turned (fun k => k = f) W1 W2 := by
      rw [← hW2]
      exact (Turned.setCell (R := fun k => k = f) _ _ _ rfl).trans (Turned.setCell (R := fun k => k = f) _ _ _ rfl) (fun _ e => e) (fun _ _ e => e)
    have HF2 := hide F2
    have HT2 := hide T2
    have HW2 := hide hW2
    clear F2 T2 hW2 df
    go_wp2_with (fail)
    rw [HW2.out]
    refine (hp_done W2 f _ HF2.out r (by have := HR.out; simpa using this)).mono ?_
    rintro e W3 ⟨rfl, rfl⟩
    go_wp2
    go_ret
    exact ⟨rfl, by rw [HY.out]; exact HF2.out, M1.out.turned HT2.out (fun k hk e => HF.out (by rw [← e]; exact hk)), T1.out.trans HT2.out (fun _ e => .inr e) (fun _ _ e => .inl e)⟩
  · have ne : ((2 : Int) == 7) = false := by decide
    simp (config := { decide := true }) only [reduceIte] at e1
    obtain ⟨rfl, rfl⟩ := Prod.mk.inj e1
    obtain ⟨V, hV⟩ : ∃ V, W.drew = V := ⟨_, rfl⟩
    have kV : Kept W V := by rw [← hV]; exact Kept.drew _
    obtain ⟨⟨v0, v1, v2, v3, v4, v5, v6⟩, _⟩ := (h.kept kV).cells
    have x1 : ∀ u : Wd (fun U => Turned (Foot b v) V U), u.w.cell? ⟨f, 1, none⟩ = some (.int .i64 a) := fun u => u.ok.cell v1 hf
    have x3 : ∀ u : Wd (fun U => Turned (Foot b v) V U), u.w.cell? ⟨f, 3, none⟩ = some (.int .i64 o) := fun u => u.ok.cell v3 hf
    have HV := hide hV
    have KV := hide kV
    have FV := hide (h.kept kV)
    have MV := hide (hm.kept kV)
    clear hV kV v0 v1 v2 v3 v4 v5 v6
    clear h hm ho hf e1 e2
    go_enter Try.func23, Try.ntmps23
    go_wp2_with (fail)
    refine (D0 false ne).mono ?_
    rintro e w' ⟨rfl, rfl⟩
    clear D0
    go_wp2_with (fail)
    refine region_wide [0, 1, 2, 3, 4, 5, 6, 7, 8, 9, 10] (fun U => Turned (Foot b v) V U) (by kernel_rfl) (by kernel_rfl) (by rw [HV.out]; exact Turned.refl _ _) (fun _ => ?_)
    rw [HV.out]
    repeat (refine pq rfl rfl ?_; go_big_quiet_step (fail); refine wpQuiet_nil ?_)
    refine pl rfl rfl ?_
    gi_wp2_with (fail)
    refine ⟨trivial, ?_⟩
    refine (callsIn_wide.2 (cas_p V n₀ b v m (a + 4) 0 o MV.out)).mono ?_
    rintro e W1 ⟨rfl, m1, t1⟩
    have T9 : Hid (Turned (Foot b v) V W1) := hide (t1)
    have M1 := hide m1
    have T1 : Hid (Turned (Foot b v) W W1) := hide (KV.out.then T9.out)
    have F1 := hide (FV.out.turned T9.out HF.out)
    clear m1 t1
    gi_wp2_with (fail)
    refine ⟨Wd.mem T9.out, ?_⟩
    refine perm_done ?_
    clear x1 x3
    obtain ⟨⟨d0, d1, d2, d3, d4, d5, d6⟩, df⟩ := F1.out.cells
    have df0 := df 0
    simp only at d0 d1 d2 d3 d4 d5 d6
    obtain ⟨W2, hW2⟩ : ∃ W2, W1.setCell ⟨f, 0, none⟩ (.int .i64 3) = W2 := ⟨_, rfl⟩
    have F2 : HpAt W2 f ⟨3, a, g, o, s, q, wd⟩ := by
      have hb : W1.heap[f]? = _ := F1.out
      rw [← hW2]
      simp [HpAt, World.setCell, Array.getElem?_modify, hb]
    have T2 : Turned (fun k => k = f) W1 W2 := by
      rw [← hW2]
      exact Turned.setCell (R := fun k => k = f) _ _ _ rfl
    have HF2 := hide F2
    have HT2 := hide T2
    have HW2 := hide hW2
    clear F2 T2 hW2 df
    go_wp2_with (fail)
    rw [HW2.out]
    refine (hp_done W2 f _ HF2.out r (by have := HR.out; simpa using this)).mono ?_
    rintro e W3 ⟨rfl, rfl⟩
    go_wp2
    go_ret
    exact ⟨rfl, HF2.out, M1.out.turned HT2.out (fun k hk e => HF.out (by rw [← e]; exact hk)), T1.out.trans HT2.out (fun _ e => .inr e) (fun _ _ e => .inl e)⟩
  · have ne : ((3 : Int) == 7) = false := by decide
    simp (config := { decide := true }) only [reduceIte] at e1
    obtain ⟨z, hz⟩ : ∃ z, m.look (a + 4) = z := ⟨_, rfl⟩
    rw [hz] at e1
    obtain ⟨rfl, rfl⟩ := Prod.mk.inj e1
    have HZ := hide hz
    obtain ⟨z1, z2⟩ : I64 z := by rw [← hz]; exact ho _
    obtain ⟨y, hy⟩ : ∃ y, Hp.placeZ z = y := ⟨_, rfl⟩
    have HY := hide hy
    clear h hm ho hf e1 e2 hz hy
    go_enter Try.func23, Try.ntmps23
    go_wp2_with (fail)
    refine (D0 false ne).mono ?_
    rintro e w' ⟨rfl, rfl⟩
    clear D0
    go_wp2_with (fail)
    refine (read_p _ n₀ b v m (a + 4) HM.out).mono ?_
    rw [HZ.out]
    rintro e W1 ⟨rfl, m1, t1⟩
    have M1 := hide m1
    have T1 : Hid (Turned (Foot b v) W W1) := hide (t1.mono (fun _ _ e => .inl e))
    have F1 := hide (H.out.turned T1.out HF.out)
    clear m1 t1
    go_wp2_with (fail)
    refine (place_q _ z y HY.out).mono ?_
    rintro e w' ⟨rfl, rfl⟩
    obtain ⟨⟨d0, d1, d2, d3, d4, d5, d6⟩, df⟩ := F1.out.cells
    have df0 := df 0
    have df5 := df 5
    simp only at d0 d1 d2 d3 d4 d5 d6
    obtain ⟨W2, hW2⟩ : ∃ W2, (W1.setCell ⟨f, 5, none⟩ (.int .i64 y)).setCell ⟨f, 0, none⟩ (.int .i64 4) = W2 := ⟨_, rfl⟩
    have F2 : HpAt W2 f ⟨4, a, g, o, s, y, wd⟩ := by
      have hb : W1.heap[f]? = _ := F1.out
      rw [← hW2]
      simp [HpAt, World.setCell, Array.getElem?_modify, hb]
    have T2 : Turned (fun k => k = f) W1 W2 := by
      rw [← hW2]
      exact (Turned.setCell (R := fun k => k = f) _ _ _ rfl).trans (Turned.setCell (R := fun k => k = f) _ _ _ rfl) (fun _ e => e) (fun _ _ e => e)
    have HF2 := hide F2
    have HT2 := hide T2
    have HW2 := hide hW2
    clear F2 T2 hW2 df
    go_wp2_with (fail)
    rw [HW2.out]
    refine (hp_done W2 f _ HF2.out r (by have := HR.out; simpa using this)).mono ?_
    rintro e W3 ⟨rfl, rfl⟩
    go_wp2
    go_ret
    exact ⟨rfl, by rw [HY.out]; exact HF2.out, M1.out.turned HT2.out (fun k hk e => HF.out (by rw [← e]; exact hk)), T1.out.trans HT2.out (fun _ e => .inr e) (fun _ _ e => .inl e)⟩
  · have ne : ((4 : Int) == 7) = false := by decide
    simp (config := { decide := true }) only [reduceIte] at e1
    obtain ⟨z, hz⟩ : ∃ z, m.look (a + 1) = z := ⟨_, rfl⟩
    rw [hz] at e1
    obtain ⟨rfl, rfl⟩ := Prod.mk.inj e1
    have HZ := hide hz
    obtain ⟨z1, z2⟩ : I64 z := by rw [← hz]; exact ho _
    clear h hm ho hf e1 e2 hz
    go_enter Try.func23, Try.ntmps23
    go_wp2_with (fail)
    refine (D0 false ne).mono ?_
    rintro e w' ⟨rfl, rfl⟩
    clear D0
    go_wp2_with (fail)
    refine (read_p _ n₀ b v m (a + 1) HM.out).mono ?_
    rw [HZ.out]
    rintro e W1 ⟨rfl, m1, t1⟩
    have M1 := hide m1
    have T1 : Hid (Turned (Foot b v) W W1) := hide (t1.mono (fun _ _ e => .inl e))
    have F1 := hide (H.out.turned T1.out HF.out)
    clear m1 t1
    obtain ⟨⟨d0, d1, d2, d3, d4, d5, d6⟩, df⟩ := F1.out.cells
    have df0 := df 0
    have df4 := df 4
    simp only at d0 d1 d2 d3 d4 d5 d6
    obtain ⟨W2, hW2⟩ : ∃ W2, (W1.setCell ⟨f, 4, none⟩ (.int .i64 z)).setCell ⟨f, 0, none⟩ (.int .i64 5) = W2 := ⟨_, rfl⟩
    have F2 : HpAt W2 f ⟨5, a, g, o, z, q, wd⟩ := by
      have hb : W1.heap[f]? = _ := F1.out
      rw [← hW2]
      simp [HpAt, World.setCell, Array.getElem?_modify, hb]
    have T2 : Turned (fun k => k = f) W1 W2 := by
      rw [← hW2]
      exact (Turned.setCell (R := fun k => k = f) _ _ _ rfl).trans (Turned.setCell (R := fun k => k = f) _ _ _ rfl) (fun _ e => e) (fun _ _ e => e)
    have HF2 := hide F2
    have HT2 := hide T2
    have HW2 := hide hW2
    clear F2 T2 hW2 df
    go_wp2_with (fail)
    rw [HW2.out]
    refine (hp_done W2 f _ HF2.out r (by have := HR.out; simpa using this)).mono ?_
    rintro e W3 ⟨rfl, rfl⟩
    go_wp2
    go_ret
    exact ⟨rfl, HF2.out, M1.out.turned HT2.out (fun k hk e => HF.out (by rw [← e]; exact hk)), T1.out.trans HT2.out (fun _ e => .inr e) (fun _ _ e => .inl e)⟩
  · have ne : ((5 : Int) == 7) = false := by decide
    simp (config := { decide := true }) only [reduceIte] at e1
    obtain ⟨z, hz⟩ : ∃ z, m.look (a + q) = z := ⟨_, rfl⟩
    rw [hz] at e1
    obtain ⟨rfl, rfl⟩ := Prod.mk.inj e1
    have HZ := hide hz
    obtain ⟨z1, z2⟩ : I64 z := by rw [← hz]; exact ho _
    obtain ⟨V, hV⟩ : ∃ V, W.drew = V := ⟨_, rfl⟩
    have kV : Kept W V := by rw [← hV]; exact Kept.drew _
    obtain ⟨⟨v0, v1, v2, v3, v4, v5, v6⟩, _⟩ := (h.kept kV).cells
    have x1 : ∀ u : Wd (fun U => Turned (Foot b v) V U), u.w.cell? ⟨f, 1, none⟩ = some (.int .i64 a) := fun u => u.ok.cell v1 hf
    have x5 : ∀ u : Wd (fun U => Turned (Foot b v) V U), u.w.cell? ⟨f, 5, none⟩ = some (.int .i64 q) := fun u => u.ok.cell v5 hf
    have HV := hide hV
    have KV := hide kV
    have FV := hide (h.kept kV)
    have MV := hide (hm.kept kV)
    clear hV kV v0 v1 v2 v3 v4 v5 v6
    clear h hm ho hf e1 e2 hz
    go_enter Try.func23, Try.ntmps23
    go_wp2_with (fail)
    refine (D0 false ne).mono ?_
    rintro e w' ⟨rfl, rfl⟩
    clear D0
    go_wp2_with (fail)
    refine region_last [0, 1, 2, 3, 4, 5, 6, 7, 8, 9, 10, 11, 12, 13] 14 (fun U => Turned (Foot b v) V U) (by kernel_rfl) (by kernel_rfl) (by rw [HV.out]; exact Turned.refl _ _) (fun _ => ?_)
    rw [HV.out]
    repeat (refine lq rfl rfl ?_; go_big_quiet_step (fail); refine wpQuiet_nil ?_)
    refine ll rfl rfl ?_
    gi_wp2_with (fail)
    refine ⟨trivial, ?_⟩
    refine (callsIn_wide.2 (read_p V n₀ b v m (a + q) MV.out)).mono ?_
    rw [HZ.out]
    rintro e W1 ⟨rfl, m1, t1⟩
    have T9 : Hid (Turned (Foot b v) V W1) := hide (t1.mono (fun _ _ e => .inl e))
    have M1 := hide m1
    have T1 : Hid (Turned (Foot b v) W W1) := hide (KV.out.then T9.out)
    have F1 := hide (FV.out.turned T9.out HF.out)
    clear m1 t1
    gi_wp2_with (fail)
    refine ⟨Wd.mem T9.out, ?_⟩
    repeat (refine lq rfl rfl ?_; go_big_quiet_step (fail); refine wpQuiet_nil ?_)
    obtain ⟨⟨d0, d1, d2, d3, d4, d5, d6⟩, df⟩ := F1.out.cells
    have df0 := df 0
    have df6 := df 6
    simp only at d0 d1 d2 d3 d4 d5 d6
    obtain ⟨W2, hW2⟩ : ∃ W2, (W1.setCell ⟨f, 6, none⟩ (.int .i64 z)).setCell ⟨f, 0, none⟩ (.int .i64 6) = W2 := ⟨_, rfl⟩
    have F2 : HpAt W2 f ⟨6, a, g, o, s, q, z⟩ := by
      have hb : W1.heap[f]? = _ := F1.out
      rw [← hW2]
      simp [HpAt, World.setCell, Array.getElem?_modify, hb]
    have T2 : Turned (fun k => k = f) W1 W2 := by
      rw [← hW2]
      exact (Turned.setCell (R := fun k => k = f) _ _ _ rfl).trans (Turned.setCell (R := fun k => k = f) _ _ _ rfl) (fun _ e => e) (fun _ _ e => e)
    have HF2 := hide F2
    have HT2 := hide T2
    have HW2 := hide hW2
    clear F2 T2 hW2 df
    clear x1 x5
    refine lz rfl ?_
    gi_wp2
    refine last_done ?_
    go_wp2_with (fail)
    rw [HW2.out]
    refine (hp_done W2 f _ HF2.out r (by have := HR.out; simpa using this)).mono ?_
    rintro e W3 ⟨rfl, rfl⟩
    go_wp2
    go_ret
    exact ⟨rfl, HF2.out, M1.out.turned HT2.out (fun k hk e => HF.out (by rw [← e]; exact hk)), T1.out.trans HT2.out (fun _ e => .inr e) (fun _ _ e => .inl e)⟩
  · have ne : ((6 : Int) == 7) = false := by decide
    simp (config := { decide := true }) only [reduceIte] at e1
    obtain ⟨rfl, rfl⟩ := Prod.mk.inj e1
    obtain ⟨me, hme⟩ : ∃ me, Rf.ofZ 5 a = me := ⟨_, rfl⟩
    have HME := hide hme
    have CO : ∀ X, Calls Try.prog 32 #[.int .i64 5, .int .i64 a] X fun e W' => e = .returned (.int .i64 me) ∧ X = W' := fun X => of_q X 5 a me hme
    obtain ⟨V, hV⟩ : ∃ V, W.drew = V := ⟨_, rfl⟩
    have kV : Kept W V := by rw [← hV]; exact Kept.drew _
    obtain ⟨⟨v0, v1, v2, v3, v4, v5, v6⟩, _⟩ := (h.kept kV).cells
    have x1 : ∀ u : Wd (fun U => Turned (Foot b v) V U), u.w.cell? ⟨f, 1, none⟩ = some (.int .i64 a) := fun u => u.ok.cell v1 hf
    have x4 : ∀ u : Wd (fun U => Turned (Foot b v) V U), u.w.cell? ⟨f, 4, none⟩ = some (.int .i64 s) := fun u => u.ok.cell v4 hf
    have x6 : ∀ u : Wd (fun U => Turned (Foot b v) V U), u.w.cell? ⟨f, 6, none⟩ = some (.int .i64 wd) := fun u => u.ok.cell v6 hf
    have HV := hide hV
    have KV := hide kV
    have FV := hide (h.kept kV)
    have MV := hide (hm.kept kV)
    clear hV kV v0 v1 v2 v3 v4 v5 v6
    clear h hm ho hf e1 e2 hme
    go_enter Try.func23, Try.ntmps23
    go_wp2_with (fail)
    refine (D0 false ne).mono ?_
    rintro e w' ⟨rfl, rfl⟩
    clear D0
    go_wp2_with (fail)
    refine region_wide [0, 1, 2, 3, 4, 5, 6, 7, 8, 10, 11, 12, 13, 9, 14] (fun U => Turned (Foot b v) V U) (by kernel_rfl) (by kernel_rfl) (by rw [HV.out]; exact Turned.refl _ _) (fun _ => ?_)
    rw [HV.out]
    repeat (refine pq rfl rfl ?_; go_big_quiet_step (fail); refine wpQuiet_nil ?_)
    refine pl rfl rfl ?_
    gi_wp2_with (fail)
    refine ⟨trivial, ?_⟩
    refine (callsIn_wide.2 (CO V)).mono ?_
    rintro e w' ⟨rfl, rfl⟩
    gi_wp2_with (fail)
    refine ⟨Wd.mem (Turned.refl _ _), ?_⟩
    refine pl rfl rfl ?_
    gi_wp2_with (fail)
    refine ⟨trivial, ?_⟩
    refine (callsIn_wide.2 (cas_p V n₀ b v m s me wd MV.out)).mono ?_
    rintro e W1 ⟨rfl, m1, t1⟩
    have T9 : Hid (Turned (Foot b v) V W1) := hide (t1)
    have M1 := hide m1
    have T1 : Hid (Turned (Foot b v) W W1) := hide (KV.out.then T9.out)
    have F1 := hide (FV.out.turned T9.out HF.out)
    clear m1 t1
    gi_wp2_with (fail)
    refine ⟨Wd.mem T9.out, ?_⟩
    refine perm_done ?_
    clear x1 x4 x6
    obtain ⟨⟨d0, d1, d2, d3, d4, d5, d6⟩, df⟩ := F1.out.cells
    have df0 := df 0
    simp only at d0 d1 d2 d3 d4 d5 d6
    obtain ⟨W2, hW2⟩ : ∃ W2, W1.setCell ⟨f, 0, none⟩ (.int .i64 7) = W2 := ⟨_, rfl⟩
    have F2 : HpAt W2 f ⟨7, a, g, o, s, q, wd⟩ := by
      have hb : W1.heap[f]? = _ := F1.out
      rw [← hW2]
      simp [HpAt, World.setCell, Array.getElem?_modify, hb]
    have T2 : Turned (fun k => k = f) W1 W2 := by
      rw [← hW2]
      exact Turned.setCell (R := fun k => k = f) _ _ _ rfl
    have HF2 := hide F2
    have HT2 := hide T2
    have HW2 := hide hW2
    clear F2 T2 hW2 df
    go_wp2_with (fail)
    rw [HW2.out]
    refine (hp_done W2 f _ HF2.out r (by have := HR.out; simpa using this)).mono ?_
    rintro e W3 ⟨rfl, rfl⟩
    go_wp2
    go_ret
    exact ⟨rfl, HF2.out, by rw [HME.out]; exact M1.out.turned HT2.out (fun k hk e => HF.out (by rw [← e]; exact hk)), T1.out.trans HT2.out (fun _ e => .inr e) (fun _ _ e => .inl e)⟩
  · simp (config := { decide := true }) only [reduceIte] at e1
    obtain ⟨rfl, rfl⟩ := Prod.mk.inj e1
    clear h hm ho hf e1 e2
    go_enter Try.func23, Try.ntmps23
    go_wp2_with (fail)
    refine (D0 true rfl).mono ?_
    rintro e w' ⟨rfl, rfl⟩
    go_wp2_with (fail)
    refine (D0 r HR.out).mono ?_
    rintro e w' ⟨rfl, rfl⟩
    go_wp2
    go_ret
    exact ⟨rfl, H.out, HM.out, Turned.refl _ _⟩
end Go.Proofs.Ytoaicedkepcalaa
