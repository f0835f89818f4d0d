/-
  What 'known' of the statements of chapter 3 answers: true; nothing that lay is turned.
-/
import Derived.Test.YteolopbklmbcmaaPop
namespace Go.Proofs.Yteolopbklmbcmaa
open Go.RowKit

/-- Nothing that lay has turned. -/
abbrev Kept (w w' : World) : Prop := Turned (fun _ => False) w w'

theorem Kept.pushed {t e : TypeId} {n₀ b : Nat} {v : Value} {xs ys : List Value} {wa w w' : World} (hn : wa.heap.size ≤ n₀) (hT : Kept wa w) (h : Stk w t e n₀ b v xs) (hp : Pushed t e n₀ b v ys w w') : ∃ v', Stk w' t e n₀ b v' ys ∧ Kept wa w' := by
  obtain ⟨v', hs, ht, _⟩ := hp
  exact ⟨v', hs, hT.trans ht (fun _ h => h) (fun i hi hf => by have := (h.lt i hf).1; omega)⟩
theorem Kept.popped {t e : TypeId} {n₀ b : Nat} {v : Value} {xs ys : List Value} {wa w w' : World} (hn : wa.heap.size ≤ n₀) (hT : Kept wa w) (h : Stk w t e n₀ b v xs) (hp : Popped t e n₀ b v ys w w') : ∃ v', Stk w' t e n₀ b v' ys ∧ Kept wa w' := by
  obtain ⟨v', hs, ht, _⟩ := hp
  exact ⟨v', hs, hT.trans ht (fun _ h => h) (fun i hi hf => by have := (h.lt i hf).1; omega)⟩
theorem Kept.drewN {wa w : World} (hT : Kept wa w) (k : Nat) : Kept wa (w.drewN k) := hT.trans (Turned.drewN (fun _ => False) w k) (fun _ h => h) (fun _ _ h => h)
theorem Kept.alloc {wa w : World} (hT : Kept wa w) (o : Obj) : Kept wa (w.alloc o) := hT.trans (Turned.alloc (fun _ => False) w o) (fun _ h => h) (fun _ _ h => h)
theorem stk_drewN {w : World} {t e : TypeId} {n₀ b : Nat} {v : Value} {xs : List Value} (h : Stk w t e n₀ b v xs) (k : Nat) : Stk (w.drewN k) t e n₀ b v xs := h.turned (Turned.drewN (fun _ => False) w k) (fun _ _ h => h)

/-- What is no cells is no block of a stack, and lies as it lay behind a Push or a Pop. -/
theorem Stk.far {w : World} {t e : TypeId} {n₀ b : Nat} {v : Value} {xs : List Value} (h : Stk w t e n₀ b v xs) {D : Nat} {o : Obj} (hD : w.heap[D]? = some o) (ho : o.isCells = false) : ¬ Foot b v D := fun hf => by
  rw [h.cells D o hf hD] at ho
  cases ho
theorem Pushed.others {w w' : World} {t e : TypeId} {n₀ b : Nat} {v : Value} {xs ys : List Value} (hp : Pushed t e n₀ b v ys w w') (h : Stk w t e n₀ b v xs) {D : Nat} {o : Obj} (hD : w.heap[D]? = some o) (ho : o.isCells = false) : w'.heap[D]? = some o := by
  obtain ⟨_, _, ht, _⟩ := hp
  exact ht.heap hD (h.far hD ho)
theorem Popped.others {w w' : World} {t e : TypeId} {n₀ b : Nat} {v : Value} {xs ys : List Value} (hp : Popped t e n₀ b v ys w w') (h : Stk w t e n₀ b v xs) {D : Nat} {o : Obj} (hD : w.heap[D]? = some o) (ho : o.isCells = false) : w'.heap[D]? = some o := by
  obtain ⟨_, _, ht, _⟩ := hp
  exact ht.heap hD (h.far hD ho)

/-- A box of another type than the stack's elements lies as it lay. -/
theorem Stk.farBox {w : World} {t e t' : TypeId} {n₀ b B : Nat} {v u : Value} {xs : List Value} (h : Stk w t e n₀ b v xs) (hB : Boxed w B t' u) (hte : t' ≠ e) (hne : B ≠ b) : ¬ Foot b v B := by
  rintro (hf | hf)
  · exact hne hf
  · exact hB.not_row hte h.row hf.symm
theorem Pushed.boxed {w w' : World} {t e t' : TypeId} {n₀ b B : Nat} {v u : Value} {xs ys : List Value} (hp : Pushed t e n₀ b v ys w w') (h : Stk w t e n₀ b v xs) (hB : Boxed w B t' u) (hte : t' ≠ e) (hne : B ≠ b) : Boxed w' B t' u := by
  obtain ⟨_, _, ht, _⟩ := hp
  exact ht.boxed hB (h.farBox hB hte hne)
theorem Popped.boxed {w w' : World} {t e t' : TypeId} {n₀ b B : Nat} {v u : Value} {xs ys : List Value} (hp : Popped t e n₀ b v ys w w') (h : Stk w t e n₀ b v xs) (hB : Boxed w B t' u) (hte : t' ≠ e) (hne : B ≠ b) : Boxed w' B t' u := by
  obtain ⟨_, _, ht, _⟩ := hp
  exact ht.boxed hB (h.farBox hB hte hne)
theorem Pushed.size {w w' : World} {t e : TypeId} {n₀ b : Nat} {v : Value} {ys : List Value} (hp : Pushed t e n₀ b v ys w w') : w.heap.size ≤ w'.heap.size := by
  obtain ⟨_, _, ht, _⟩ := hp
  exact ht.size
theorem Popped.size {w w' : World} {t e : TypeId} {n₀ b : Nat} {v : Value} {ys : List Value} (hp : Popped t e n₀ b v ys w w') : w.heap.size ≤ w'.heap.size := by
  obtain ⟨_, _, ht, _⟩ := hp
  exact ht.size

set_option maxHeartbeats 1000000 in
theorem known_c (w : World) : Calls Try.prog 8 #[] w fun e w' => e = .returned (.bool true) ∧ Kept w w' := by
  have hs0 := Lib.hid (stk_new w 37 3 w.heap.size (Nat.le_refl _))
  have hk0 := Lib.hid (Turned.alloc (fun _ => False) w (.cells #[.slice none 0 0] 37))
  go_enter Try.func8, Try.ntmps8
  go_wp2_with fail
  refine (push_i _ w.heap.size _ _ _ 1 (by simp) (by simp) hs0.out).mono ?_
  rintro e w1 ⟨rfl, hp⟩
  obtain ⟨v1, hs, hk⟩ := Kept.pushed (Nat.le_refl _) hk0.out hs0.out hp
  have hs1 := Lib.hid hs
  have hk1 := Lib.hid hk
  have hz1 := hk.size
  clear hs0 hk0 hp hs hk
  go_wp2_with fail
  refine (push_i _ w.heap.size _ _ _ 2 hz1 (by simp) hs1.out).mono ?_
  rintro e w2 ⟨rfl, hp⟩
  obtain ⟨v2, hs, hk⟩ := Kept.pushed (Nat.le_refl _) hk1.out hs1.out hp
  have hs2 := Lib.hid hs
  have hk2 := Lib.hid hk
  clear hs1 hk1 hp hs hk hz1
  go_wp2_with fail
  refine (top1_i _ w.heap.size _ _ _ 2 hs2.out).mono ?_
  rintro e w3 ⟨rfl, k, rfl⟩
  have hs3 := Lib.hid (stk_drewN hs2.out k)
  have hk3 := Lib.hid (Kept.drewN hk2.out k)
  clear hs2 hk2
  go_wp2_with fail
  refine (pop1_i _ w.heap.size _ _ _ 2 hs3.out).mono ?_
  rintro e w4 ⟨rfl, hp⟩
  obtain ⟨v4, hs, hk⟩ := Kept.popped (Nat.le_refl _) hk3.out hs3.out hp
  have hs4 := Lib.hid hs
  have hk4 := Lib.hid hk
  clear hs3 hk3 hp hs hk
  go_wp2_with fail
  refine (len_i _ w.heap.size _ _ _ hs4.out).mono ?_
  rintro e w5 ⟨rfl, rfl⟩
  go_wp2_with fail
  refine (pop1_i _ w.heap.size _ _ _ 1 hs4.out).mono ?_
  rintro e w6 ⟨rfl, hp⟩
  obtain ⟨v6, hs, hk⟩ := Kept.popped (Nat.le_refl _) hk4.out hs4.out hp
  have hs6 := Lib.hid hs
  have hk6 := Lib.hid hk
  clear hs4 hk4 hp hs hk
  go_wp2_with fail
  refine (pop0_i _ w.heap.size _ _ hs6.out).mono ?_
  rintro e w7 ⟨rfl, rfl⟩
  go_wp2_with fail
  refine (len_i _ w.heap.size _ _ _ hs6.out).mono ?_
  rintro e w8 ⟨rfl, rfl⟩
  go_wp2
  go_ret
  exact ⟨rfl, hk6.out⟩
end Go.Proofs.Yteolopbklmbcmaa
