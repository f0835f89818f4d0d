/-
  What the program's frames of chapter 11 (peek) answer and leave: 'Pk' a frame in plain, 'Pk.step' its next access at a memory. No conditions beyond each theorem's own.
-/
import Derived.Test.YtnjkmmmfhponlaaNow
import Derived.Test.YtnjkmmmfhponlaaViewP
namespace Go.Proofs.Ytnjkmmmfhponlaa
open Go.RowKit
set_option maxRecDepth 20000

theorem kd_q (w : World) (a k : Int) (h : I64 a) (e1 : kd a = k) : Calls Try.prog 29 #[.int .i64 a] w fun e w' => e = .returned (.int .i64 k) ∧ w = w' := by
  subst e1
  refine (Rf.kind_c a h.wf w).mono ?_
  rintro e w' ⟨rfl, rfl⟩
  exact ⟨rfl, rfl⟩
theorem ad_q (w : World) (a k : Int) (h : I64 a) (e1 : ad a = k) : Calls Try.prog 30 #[.int .i64 a] w fun e w' => e = .returned (.int .i64 k) ∧ w = w' := by
  subst e1
  refine (Rf.at_c a h.wf w).mono ?_
  rintro e w' ⟨rfl, rfl⟩
  exact ⟨rfl, rfl⟩
/-- A frame of peek: what is next (4: nothing), the slot, the Dcss, the word. -/
structure Pk where
  n : Int
  s : Int
  d : Int
  w : Int
/-- It lies at f. -/
def PkAt (W : World) (f : Nat) (p : Pk) : Prop := W.heap[f]? = some (.cells #[.int .i64 p.n, .int .i64 p.s, .int .i64 p.d, .int .i64 p.w] 44)
theorem PkAt.turned {W W' : World} {f : Nat} {p : Pk} {R : Nat → Prop} (h : PkAt W f p) (t : Turned R W W') (hR : ¬ R f) : PkAt W' f p := t.heap h hR
theorem PkAt.kept {W W' : World} {f : Nat} {p : Pk} (h : PkAt W f p) (t : Kept W W') : PkAt W' f p := t.heap h id
theorem PkAt.lt {W : World} {f : Nat} {p : Pk} (h : PkAt W f p) : f < W.heap.size := (Array.getElem?_eq_some_iff.1 h).1
theorem PkAt.cells {W : World} {f : Nat} {p : Pk} (h : PkAt W f p) : (W.cell? ⟨f, 0, none⟩ = some (.int .i64 p.n) ∧ W.cell? ⟨f, 1, none⟩ = some (.int .i64 p.s) ∧ W.cell? ⟨f, 2, none⟩ = some (.int .i64 p.d) ∧ W.cell? ⟨f, 3, none⟩ = some (.int .i64 p.w)) ∧ ∀ i, W.frozen? ⟨f, i, none⟩ = false := by
  have hb : W.heap[f]? = _ := h
  simp [World.cell?, World.frozen?, hb]
namespace Pk
def new (s : Int) : Pk := ⟨0, s, 0, 0⟩
def take (p : Pk) (z : Int) : Pk := if kd z = 5 then { p with d := ad z, n := 1 } else { p with w := z, n := 4 }
def choose (p : Pk) (o : Int) : Pk := { p with n := if o = 1 then 2 else 3 }
def fin (p : Pk) (z : Int) : Pk := { p with w := z, n := 4 }
/-- The next access. -/
def step (p : Pk) (m : Mst) : Pk × Mst :=
  if p.n = 0 then (p.take (m.look p.s), m.touch p.s)
  else if p.n = 1 then (p.choose (m.look (wrap64 (p.d + 4))), m.touch (wrap64 (p.d + 4)))
  else if p.n = 2 then (p.fin (m.look (wrap64 (p.d + 3))), m.touch (wrap64 (p.d + 3)))
  else if p.n = 3 then (p.fin (m.look (wrap64 (p.d + 2))), m.touch (wrap64 (p.d + 2)))
  else (p, m)
end Pk
theorem pk_new (W : World) (s : Int) : Calls Try.prog 9 #[.int .i64 s] W fun e W' => e = .returned (.pointer (some ⟨W.heap.size, 0, none⟩)) ∧ PkAt W' W.heap.size (Pk.new s) ∧ Kept W W' := by
  go_enter Try.func9, Try.ntmps9
  go_wp2
  go_ret
  exact ⟨rfl, heap_new _ _, Turned.alloc _ _ _⟩
theorem pk_done (W : World) (f : Nat) (p : Pk) (h : PkAt W f p) (r : Bool) (e1 : (p.n == 4) = r) : Calls Try.prog 19 #[.pointer (some ⟨f, 0, none⟩)] W fun e W' => e = .returned (.bool r) ∧ W = W' := by
  obtain ⟨⟨c0, c1, c2, c3⟩, _⟩ := h.cells
  subst e1
  clear h
  go_enter Try.func19, Try.ntmps19
  go_wp2
  go_ret
  exact ⟨rfl, rfl⟩
theorem pk_word (W : World) (f : Nat) (p : Pk) (h : PkAt W f p) (r : Int) (e1 : p.w = r) : Calls Try.prog 11 #[.pointer (some ⟨f, 0, none⟩)] W fun e W' => e = .returned (.int .i64 r) ∧ W = W' := by
  obtain ⟨⟨c0, c1, c2, c3⟩, _⟩ := h.cells
  subst e1
  clear h
  go_enter Try.func11, Try.ntmps11
  go_wp2
  go_ret
  exact ⟨rfl, rfl⟩
theorem pk_fin (W : World) (f : Nat) (p : Pk) (z : Int) (h : PkAt W f p) : Calls Try.prog 23 #[.pointer (some ⟨f, 0, none⟩), .int .i64 z] W fun e W' => e = .returned (.tuple #[]) ∧ PkAt W' f (p.fin z) ∧ Turned (fun k => k = f) W W' := by
  obtain ⟨⟨c0, c1, c2, c3⟩, fz⟩ := h.cells
  have f0 := fz 0
  have f3 := fz 3
  have H := hide h
  clear h fz
  go_enter Try.func23, Try.ntmps23
  go_wp2
  go_end0
  refine ⟨rfl, ?_, (Turned.setCell (R := fun k => k = f) _ _ _ rfl).trans (Turned.setCell (R := fun k => k = f) _ _ _ rfl) (fun _ e => e) (fun _ _ e => e)⟩
  have hb : W.heap[f]? = _ := H.out
  simp [PkAt, Pk.fin, World.setCell, Array.getElem?_modify, hb]
theorem pk_choose (W : World) (f : Nat) (p : Pk) (z : Int) (h : PkAt W f p) : Calls Try.prog 22 #[.pointer (some ⟨f, 0, none⟩), .int .i64 z] W fun e W' => e = .returned (.tuple #[]) ∧ PkAt W' f (p.choose z) ∧ Turned (fun k => k = f) W W' := by
  obtain ⟨⟨c0, c1, c2, c3⟩, fz⟩ := h.cells
  have f0 := fz 0
  have H := hide h
  clear h fz
  by_cases hz : z = 1
  · subst hz
    go_enter Try.func22, Try.ntmps22
    go_wp2
    go_end0
    refine ⟨rfl, ?_, Turned.setCell (R := fun k => k = f) _ _ _ rfl⟩
    have hb : W.heap[f]? = _ := H.out
    simp [PkAt, Pk.choose, World.setCell, Array.getElem?_modify, hb]
  · have g1 : (z == 1) = false := by simp [hz]
    go_enter Try.func22, Try.ntmps22
    go_wp2
    go_end0
    refine ⟨rfl, ?_, Turned.setCell (R := fun k => k = f) _ _ _ rfl⟩
    have hb : W.heap[f]? = _ := H.out
    simp [PkAt, Pk.choose, World.setCell, Array.getElem?_modify, hb, hz]
theorem pk_take (W : World) (f : Nat) (p : Pk) (z : Int) (h : PkAt W f p) (hz : I64 z) : Calls Try.prog 20 #[.pointer (some ⟨f, 0, none⟩), .int .i64 z] W fun e W' => e = .returned (.tuple #[]) ∧ PkAt W' f (p.take z) ∧ Turned (fun k => k = f) W W' := by
  obtain ⟨k, hk⟩ : ∃ k, kd z = k := ⟨_, rfl⟩
  have HK := hide hk
  have H := hide h
  have HZ := hide hz
  by_cases k5 : k = 5
  · subst k5
    obtain ⟨a, ha⟩ : ∃ a, ad z = a := ⟨_, rfl⟩
    have HA := hide ha
    have HT : Hid (p.take z = { p with d := a, n := 1 }) := hide (by rw [Pk.take, if_pos hk, ha])
    obtain ⟨⟨c0, c1, c2, c3⟩, fz⟩ := h.cells
    have f0 := fz 0
    have f2 := fz 2
    clear h hz hk ha fz
    go_enter Try.func20, Try.ntmps20
    go_wp2_with (fail)
    refine (kd_q _ z 5 HZ.out HK.out).mono ?_
    rintro e w' ⟨rfl, rfl⟩
    go_wp2_with (fail)
    refine (ad_q _ z a HZ.out HA.out).mono ?_
    rintro e w' ⟨rfl, rfl⟩
    go_wp2
    go_end0
    refine ⟨rfl, ?_, (Turned.setCell (R := fun k => k = f) _ _ _ rfl).trans (Turned.setCell (R := fun k => k = f) _ _ _ rfl) (fun _ e => e) (fun _ _ e => e)⟩
    rw [HT.out]
    have hb : W.heap[f]? = _ := H.out
    simp [PkAt, World.setCell, Array.getElem?_modify, hb]
  · have g1 : (k == 5) = false := by simp [k5]
    have g2 : (k != 5) = true := by simp [k5]
    have HT : Hid (p.take z = p.fin z) := hide (by rw [Pk.take, if_neg (by rw [hk]; exact k5)]; rfl)
    clear h hz hk
    go_enter Try.func20, Try.ntmps20
    go_wp2_with (fail)
    refine (kd_q _ z k HZ.out HK.out).mono ?_
    rintro e w' ⟨rfl, rfl⟩
    go_wp2_with (fail)
    refine (pk_fin _ f p z H.out).mono ?_
    rintro e w' ⟨rfl, h1, t1⟩
    have H1 := hide h1
    have T1 := hide t1
    clear h1 t1
    go_wp2
    (try simp only [Exit.inBlock, Exit.then]); refine bodyPost_ret (results_none rfl _ _ _) rfl ?_
    exact ⟨rfl, by rw [HT.out]; exact H1.out, T1.out⟩
/-- What a frame and its memory are in then. -/
structure PkRan (W : World) (n₀ b : Nat) (v : Value) (f : Nat) (p : Pk) (m : Mst) (W' : World) : Prop where
  frame : PkAt W' f p
  mem : PMem W' n₀ b v m
  turned : Turned (fun k => k = f ∨ k = b) W W'
theorem pk_step (W : World) (n₀ b : Nat) (v : Value) (f : Nat) (p : Pk) (m : Mst) (h : PkAt W f p) (hm : PMem W n₀ b v m) (ho : ∀ a, I64 (m.look a)) (hf : ¬ Foot b v f) (p' : Pk) (m' : Mst) (r : Bool) (e1 : p.step m = (p', m')) (e2 : (p'.n == 4) = r) :
    Calls Try.prog 10 #[.pointer (some ⟨f, 0, none⟩), .pointer (some ⟨b, 0, none⟩)] W fun e W' => e = .returned (.bool r) ∧ PkRan W n₀ b v f p' m' W' := by
  obtain ⟨⟨c0, c1, c2, c3⟩, _⟩ := h.cells
  have H := hide h
  have HM := hide hm
  have HO := hide ho
  have HF := hide hf
  have HFB : Hid (f ≠ b) := hide (fun e => hf (.inl e))
  have HR := hide e2
  unfold Pk.step at e1
  obtain ⟨n, sl, d, wd⟩ := p
  simp only at c0 c1 c2 c3 e1
  by_cases n0 : n = 0
  · subst n0
    rw [if_pos rfl] at e1
    obtain ⟨z, hz⟩ : ∃ z, m.look sl = z := ⟨_, rfl⟩
    rw [hz] at e1
    obtain ⟨rfl, rfl⟩ := Prod.mk.inj e1
    have HZ := hide hz
    clear h hm ho hf e1 hz e2
    go_enter Try.func10, Try.ntmps10
    go_wp2_with (fail)
    refine (read_p _ n₀ b v m sl HM.out).mono ?_
    rw [HZ.out]
    rintro e W1 ⟨rfl, m1, t1⟩
    have M1 := hide m1
    have T1 := hide t1
    have F1 := hide (H.out.turned t1 (fun e => HFB.out e))
    clear m1 t1
    go_wp2_with (fail)
    refine (pk_take _ f _ z F1.out (by have := HO.out sl; rw [HZ.out] at this; exact this)).mono ?_
    rintro e W2 ⟨rfl, f2, t2⟩
    have F2 := hide f2
    have M2 := hide (M1.out.turned t2 (fun k hk e => HF.out (by rw [← e]; exact hk)))
    have T2 : Hid (Turned (fun k => k = f ∨ k = b) W W2) := hide (T1.out.trans t2 (fun _ e => .inr e) (fun _ _ e => .inl e))
    clear f2 t2
    go_wp2_with (fail)
    refine (pk_done _ f _ F2.out r HR.out).mono ?_
    rintro e W3 ⟨rfl, rfl⟩
    go_wp2
    go_ret
    exact ⟨rfl, F2.out, M2.out, T2.out⟩
  · rw [if_neg n0] at e1
    have g0 : (n == 0) = false := by simp [n0]
    by_cases n1 : n = 1
    · subst n1
      rw [if_pos rfl] at e1
      obtain ⟨z, hz⟩ : ∃ z, m.look (wrap64 (d + 4)) = z := ⟨_, rfl⟩
      rw [hz] at e1
      obtain ⟨rfl, rfl⟩ := Prod.mk.inj e1
      have HZ := hide hz
      clear h hm ho hf e1 hz e2
      go_enter Try.func10, Try.ntmps10
      go_wp2_with (fail)
      refine (read_p _ n₀ b v m (wrap64 (d + 4)) HM.out).mono ?_
      rw [HZ.out]
      rintro e W1 ⟨rfl, m1, t1⟩
      have M1 := hide m1
      have T1 := hide t1
      have F1 := hide (H.out.turned t1 (fun e => HFB.out e))
      clear m1 t1
      go_wp2_with (fail)
      refine (pk_choose _ f _ z F1.out).mono ?_
      rintro e W2 ⟨rfl, f2, t2⟩
      have F2 := hide f2
      have M2 := hide (M1.out.turned t2 (fun k hk e => HF.out (by rw [← e]; exact hk)))
      have T2 : Hid (Turned (fun k => k = f ∨ k = b) W W2) := hide (T1.out.trans t2 (fun _ e => .inr e) (fun _ _ e => .inl e))
      clear f2 t2
      go_wp2_with (fail)
      refine (pk_done _ f _ F2.out r HR.out).mono ?_
      rintro e W3 ⟨rfl, rfl⟩
      go_wp2
      go_ret
      exact ⟨rfl, F2.out, M2.out, T2.out⟩
    · rw [if_neg n1] at e1
      have g1 : (n == 1) = false := by simp [n1]
      by_cases n2 : n = 2
      · subst n2
        rw [if_pos rfl] at e1
        obtain ⟨z, hz⟩ : ∃ z, m.look (wrap64 (d + 3)) = z := ⟨_, rfl⟩
        rw [hz] at e1
        obtain ⟨rfl, rfl⟩ := Prod.mk.inj e1
        have HZ := hide hz
        clear h hm ho hf e1 hz e2
        go_enter Try.func10, Try.ntmps10
        go_wp2_with (fail)
        refine (read_p _ n₀ b v m (wrap64 (d + 3)) HM.out).mono ?_
        rw [HZ.out]
        rintro e W1 ⟨rfl, m1, t1⟩
        have M1 := hide m1
        have T1 := hide t1
        have F1 := hide (H.out.turned t1 (fun e => HFB.out e))
        clear m1 t1
        go_wp2_with (fail)
        refine (pk_fin _ f _ z F1.out).mono ?_
        rintro e W2 ⟨rfl, f2, t2⟩
        have F2 := hide f2
        have M2 := hide (M1.out.turned t2 (fun k hk e => HF.out (by rw [← e]; exact hk)))
        have T2 : Hid (Turned (fun k => k = f ∨ k = b) W W2) := hide (T1.out.trans t2 (fun _ e => .inr e) (fun _ _ e => .inl e))
        clear f2 t2
        go_wp2_with (fail)
        refine (pk_done _ f _ F2.out r HR.out).mono ?_
        rintro e W3 ⟨rfl, rfl⟩
        go_wp2
        go_ret
        exact ⟨rfl, F2.out, M2.out, T2.out⟩
      · rw [if_neg n2] at e1
        have g2 : (n == 2) = false := by simp [n2]
        by_cases n3 : n = 3
        · subst n3
          rw [if_pos rfl] at e1
          obtain ⟨z, hz⟩ : ∃ z, m.look (wrap64 (d + 2)) = z := ⟨_, rfl⟩
          rw [hz] at e1
          obtain ⟨rfl, rfl⟩ := Prod.mk.inj e1
          have HZ := hide hz
          clear h hm ho hf e1 hz e2
          go_enter Try.func10, Try.ntmps10
          go_wp2_with (fail)
          refine (read_p _ n₀ b v m (wrap64 (d + 2)) HM.out).mono ?_
          rw [HZ.out]
          rintro e W1 ⟨rfl, m1, t1⟩
          have M1 := hide m1
          have T1 := hide t1
          have F1 := hide (H.out.turned t1 (fun e => HFB.out e))
          clear m1 t1
          go_wp2_with (fail)
          refine (pk_fin _ f _ z F1.out).mono ?_
          rintro e W2 ⟨rfl, f2, t2⟩
          have F2 := hide f2
          have M2 := hide (M1.out.turned t2 (fun k hk e => HF.out (by rw [← e]; exact hk)))
          have T2 : Hid (Turned (fun k => k = f ∨ k = b) W W2) := hide (T1.out.trans t2 (fun _ e => .inr e) (fun _ _ e => .inl e))
          clear f2 t2
          go_wp2_with (fail)
          refine (pk_done _ f _ F2.out r HR.out).mono ?_
          rintro e W3 ⟨rfl, rfl⟩
          go_wp2
          go_ret
          exact ⟨rfl, F2.out, M2.out, T2.out⟩
        · rw [if_neg n3] at e1
          have g3 : (n == 3) = false := by simp [n3]
          obtain ⟨rfl, rfl⟩ := Prod.mk.inj e1
          clear h hm ho hf e1 e2
          go_enter Try.func10, Try.ntmps10
          go_wp2_with (fail)
          refine (pk_done _ f _ H.out r HR.out).mono ?_
          rintro e W3 ⟨rfl, rfl⟩
          go_wp2
          go_ret
          exact ⟨rfl, H.out, HM.out, Turned.refl _ _⟩
end Go.Proofs.Ytnjkmmmfhponlaa
