/-
  Memory: what a step has turned ('Turned R w w'': of the blocks that lay, those of R alone; 'Kept': none), slices of numbers that read ('Reads') and that own their row ('Row'). No number of the program but the types handed in. No conditions beyond each theorem's own.
-/
import Derived.WalkKit
import Derived.WalkSmall
import Derived.Maps.AppendAt
import Derived.OwnWalk
import Derived.Deep.AppendLies
import Derived.OpenShut
namespace Go.Proofs.Ytoaicedkepcalaa
open Go.RowKit

theorem hide {p : Prop} (h : p) : Hid p := h
theorem heap_new (w : World) (o : Obj) : (w.alloc o).heap[w.heap.size]? = some o := by
  show (w.heap.push o)[w.heap.size]? = _
  rw [Array.getElem?_push, if_pos rfl]

/-- Of the blocks that lay, those of R alone may have turned. -/
structure Turned (R : Nat → Prop) (w w' : World) : Prop where
  os : w'.os = w.os
  tape : w'.tape = w.tape
  output : w'.output = w.output
  size : w.heap.size ≤ w'.heap.size
  block : ∀ k, k < w.heap.size → ¬ R k → w'.heap[k]? = w.heap[k]?

namespace Turned
theorem refl (R : Nat → Prop) (w : World) : Turned R w w := ⟨rfl, rfl, rfl, Nat.le_refl _, fun _ _ _ => rfl⟩
theorem trans {R R' R'' : Nat → Prop} {a b c : World} (h : Turned R a b) (k : Turned R' b c) (h1 : ∀ i, R i → R'' i) (h2 : ∀ i, i < a.heap.size → R' i → R'' i) : Turned R'' a c :=
  ⟨k.os.trans h.os, k.tape.trans h.tape, k.output.trans h.output, Nat.le_trans h.size k.size,
   fun i hi hn => (k.block i (Nat.lt_of_lt_of_le hi h.size) (fun e => hn (h2 i hi e))).trans (h.block i hi (fun e => hn (h1 i e)))⟩
theorem mono {R R' : Nat → Prop} {a b : World} (h : Turned R a b) (h1 : ∀ i, i < a.heap.size → R i → R' i) : Turned R' a b :=
  ⟨h.os, h.tape, h.output, h.size, fun i hi hn => h.block i hi (fun e => hn (h1 i hi e))⟩
theorem below {R : Nat → Prop} {B : Nat} {a b : World} (h : Turned R a b) (hB : B ≤ a.heap.size) (hR : ∀ k, R k → B ≤ k) : Below B a b :=
  ⟨h.os, h.tape, h.output, h.size, fun k hk => h.block k (by omega) (fun e => by have := hR k e; omega)⟩
theorem drewN (R : Nat → Prop) (w : World) (n : Nat) : Turned R w (w.drewN n) := ⟨rfl, rfl, rfl, Nat.le_refl _, fun _ _ _ => rfl⟩
theorem alloc (R : Nat → Prop) (w : World) (o : Obj) : Turned R w (w.alloc o) :=
  ⟨rfl, rfl, rfl, by simp, fun k hk _ => Below.heap_alloc w o k hk⟩
theorem setCell (w : World) (a : Addr) (v : Value) {R : Nat → Prop} (h : R a.block) : Turned R w (w.setCell a v) :=
  ⟨rfl, rfl, rfl, Nat.le_of_eq (World.size_setCell ..).symm, fun k _ hn => Below.heap_setCell w a v k (fun e => hn (by rw [e]; exact h))⟩
theorem of_grownBy {w w' : World} {row : Option Nat} {R : Nat → Prop} (h : w.grownBy w' row) (hR : ∀ k, row = some k → R k) : Turned R w w' :=
  ⟨h.os, h.tape, h.output, h.size, fun k hk hn => h.block k hk (fun e => hn (hR k e.symm))⟩
theorem heap {R : Nat → Prop} {a b : World} (h : Turned R a b) {k : Nat} {o : Obj} (hk : a.heap[k]? = some o) (hn : ¬ R k) : b.heap[k]? = some o :=
  (h.block k (Array.getElem?_eq_some_iff.1 hk).1 hn).trans hk
theorem cell {R : Nat → Prop} {a b : World} (h : Turned R a b) {p : Addr} {v : Value} (hc : a.cell? p = some v) (hn : ¬ R p.block) : b.cell? p = some v :=
  (World.cell?_of_block (h.block p.block (World.block_lt_of_cell? a p hc) hn)).trans hc
theorem frozen {R : Nat → Prop} {a b : World} (h : Turned R a b) {p : Addr} (hp : p.block < a.heap.size) (hn : ¬ R p.block) : b.frozen? p = a.frozen? p := World.frozen?_of_block (h.block p.block hp hn)
end Turned

/-- Of what lay nothing has turned. -/
abbrev Kept (w w' : World) : Prop := Turned (fun _ => False) w w'
theorem Kept.refl (w : World) : Kept w w := Turned.refl _ w
theorem Kept.trans {a b c : World} (h : Kept a b) (k : Kept b c) : Kept a c := Turned.trans h k (fun _ e => e) (fun _ _ e => e)
theorem Kept.drew (w : World) : Kept w w.drew := ⟨rfl, rfl, rfl, Nat.le_refl _, fun _ _ _ => rfl⟩
theorem Kept.then {R : Nat → Prop} {a b c : World} (h : Kept a b) (k : Turned R b c) : Turned R a c := Turned.trans h k (fun _ e => e.elim) (fun _ _ e => e)
theorem Kept.behind {R : Nat → Prop} {a b c : World} (h : Turned R a b) (k : Kept b c) : Turned R a c := Turned.trans h k (fun _ e => e) (fun _ _ e => e.elim)

theorem Kept.drewN (w : World) (n : Nat) : Kept w (w.drewN n) := Turned.drewN _ w n
theorem Kept.alloc {a w : World} (h : Kept a w) (o : Obj) : Kept a (w.alloc o) := h.trans (Turned.alloc _ _ _)
theorem Kept.drewN' {a w : World} (h : Kept a w) (n : Nat) : Kept a (w.drewN n) := h.trans (Kept.drewN _ _)
/-- What lay at w0 stays behind a step that turns a later block. -/
theorem Kept.did {w0 w w' : World} {b : Nat} (k : Kept w0 w) (hb : w0.heap.size ≤ b) (h : Turned (fun i => i = b) w w') : Kept w0 w' :=
  Turned.trans k h (fun _ e => e) (fun i hi e => by omega)
theorem Kept.own {w0 w w' : World} {O : Nat → Prop} (k : Kept w0 w) (hb : ∀ i, O i → w0.heap.size ≤ i) (h : Turned O w w') : Kept w0 w' :=
  Turned.trans k h (fun _ e => e) (fun i hi e => by have := hb i e; omega)

/-- A slice value that reads as these numbers. -/
def Reads (w : World) (a : Option Addr) (zs : List Int) : Prop :=
  zs = [] ∨ ∃ bl off, a = some ⟨bl, off, none⟩ ∧ ∀ j z, zs[j]? = some z → w.cell? ⟨bl, off + j, none⟩ = some (.int .i64 z)

theorem Reads.turned {w w' : World} {a : Option Addr} {zs : List Int} {R : Nat → Prop} (h : Reads w a zs) (ht : Turned R w w') (hR : ∀ k, k < w.heap.size → (∃ ad, a = some ad ∧ ad.block = k) → ¬ R k) : Reads w' a zs := by
  rcases h with h | ⟨bl, off, rfl, h⟩
  · exact .inl h
  · refine .inr ⟨bl, off, rfl, fun j z hz => ?_⟩
    have hc := h j z hz
    exact ht.cell hc (hR bl (World.block_lt_of_cell? _ _ hc) ⟨_, rfl, rfl⟩)
theorem Reads.kept {w w' : World} {a : Option Addr} {zs : List Int} (h : Reads w a zs) (ht : Kept w w') : Reads w' a zs := h.turned ht (fun _ _ _ e => e)
/-- One of them, where it lies. -/
theorem Reads.at {w : World} {a : Option Addr} {zs : List Int} (h : Reads w a zs) {j : Nat} {z : Int} (hz : zs[j]? = some z) : ∃ bl off, a = some ⟨bl, off, none⟩ ∧ bl < w.heap.size ∧ w.cell? ⟨bl, off + j, none⟩ = some (.int .i64 z) := by
  rcases h with h | ⟨bl, off, ha, hc⟩
  · rw [h] at hz
    simp at hz
  · exact ⟨bl, off, ha, World.block_lt_of_cell? _ _ (hc j z hz), hc j z hz⟩

/-- Where a slice that has an element lies. -/
theorem Reads.lt {w : World} {a : Option Addr} {zs : List Int} (h : Reads w a zs) (h0 : zs ≠ []) : ∀ ad, a = some ad → ad.block < w.heap.size := fun ad e => by
  obtain ⟨z, hz⟩ : ∃ z, zs[0]? = some z := ⟨_, List.getElem?_eq_getElem (List.length_pos_iff.2 h0)⟩
  obtain ⟨bl, off, h1, h2, _⟩ := h.at hz
  rw [h1] at e
  cases e
  exact h2

/-- What the frame of a proof tells of a slice of numbers that came in. -/
theorem reads_in {w : World} {a : Option Addr} {len cap : Nat} {z : List Int} (h : (a = none ∧ len = 0 ∧ cap = 0 ∧ z = []) ∨
    ∃ x, a = some x ∧ len ≤ cap ∧ cap ≤ maxLen ∧ z.length = cap ∧ (∀ i, i < z.length → w.cell? (x.add i) = some (.int .i64 (z.getD i 0))) ∧ ∀ n ∈ z, (Lit.int .i64 n).wf = true) :
    ∃ zs : List Int, zs.length = len ∧ zs.length ≤ cap ∧ cap ≤ maxLen ∧ Reads w a zs ∧ ∀ n ∈ zs, (Lit.int .i64 n).wf = true := by
  rcases h with ⟨rfl, rfl, rfl, rfl⟩ | ⟨x, rfl, h1, h2, h3, h4, h5⟩
  · exact ⟨[], rfl, Nat.zero_le _, Nat.zero_le _, .inl rfl, by simp⟩
  · refine ⟨z.take len, by rw [List.length_take]; omega, by rw [List.length_take]; omega, h2, ?_, fun n hn => h5 n (List.mem_of_mem_take hn)⟩
    by_cases hl : len = 0
    · subst hl
      exact .inl (by simp)
    · obtain ⟨b, off, rfl, hc⟩ := ints_at h4 (by omega)
      refine .inr ⟨b, off, rfl, fun j y hy => ?_⟩
      obtain ⟨hj, e⟩ := List.getElem?_eq_some_iff.1 hy
      rw [List.length_take] at hj
      rw [hc j (by omega)]
      rw [List.getElem_take] at e
      rw [← e, List.getD_eq_getElem?_getD, List.getElem?_eq_getElem (by omega)]
      rfl

/-- A new block of these numbers. -/
theorem Reads.new (w : World) (t : TypeId) (zs : List Int) : Reads (w.alloc (.cells (zs.map (Value.int .i64)).toArray t)) (some ⟨w.heap.size, 0, none⟩) zs := by
  refine .inr ⟨_, 0, rfl, fun j z hz => ?_⟩
  have hb : (w.alloc (.cells (zs.map (Value.int .i64)).toArray t)).heap[w.heap.size]? = some (.cells (zs.map (Value.int .i64)).toArray t) := heap_new w _
  unfold World.cell?
  rw [hb]
  simp [hz]

/-- These numbers as cells. -/
abbrev cellsOf (zs : List Int) : List Value := zs.map (Value.int .i64)
/-- A slice that owns a row of these numbers, from n₀ on. -/
abbrev Row (w : World) (n₀ : Nat) (e : TypeId) (v : Value) (zs : List Int) : Prop := w.ownsRow n₀ e 1 v zs.length (cellsOf zs)

theorem Row.turned {w w' : World} {n₀ : Nat} {e : TypeId} {v : Value} {zs : List Int} {R : Nat → Prop} (h : Row w n₀ e v zs) (ht : Turned R w w') (hn : ∀ g, n₀ ≤ g → ¬ R g) : Row w' n₀ e v zs := by
  obtain ⟨h1, h2⟩ := h
  refine ⟨h1, ?_⟩
  rcases h2 with h2 | ⟨g, cap, cur, rfl, hg, hh, r⟩
  · exact .inl h2
  · exact .inr ⟨g, cap, cur, rfl, hg, ht.heap hh (hn g hg), r⟩
theorem Row.kept {w w' : World} {n₀ : Nat} {e : TypeId} {v : Value} {zs : List Int} (h : Row w n₀ e v zs) (ht : Kept w w') : Row w' n₀ e v zs := h.turned ht (fun _ _ e => e)
/-- It reads as they are. -/
theorem Row.reads {w : World} {n₀ : Nat} {e : TypeId} {v : Value} {zs : List Int} (h : Row w n₀ e v zs) : ∃ a cap, v = .slice a zs.length cap ∧ Reads w a zs ∧ zs.length ≤ cap ∧ cap ≤ maxLen ∧ ∀ bl off, a = some ⟨bl, off, none⟩ → n₀ ≤ bl := by
  rcases h.2 with ⟨rfl, h0⟩ | ⟨g, cap, cur, rfl, hg, _, hc, hm, _⟩
  · obtain rfl := List.length_eq_zero_iff.1 h0
    exact ⟨none, 0, rfl, .inl rfl, Nat.le_refl _, Nat.zero_le _, fun _ _ e => by cases e⟩
  · refine ⟨_, cap, rfl, .inr ⟨g, 0, rfl, fun j p hp => ?_⟩, hc, hm, fun bl off e => by cases e; exact hg⟩
    have hj := (List.getElem?_eq_some_iff.1 hp).1
    have := h.cellAt j (by omega)
    rw [Nat.zero_add, this]
    simp [hp]
theorem row_new (w : World) (e : TypeId) (zs : List Int) (n₀ : Nat) (h : n₀ ≤ w.heap.size) (hl : zs.length ≤ 5000) : Row (w.alloc (.cells (cellsOf zs).toArray e)) n₀ e (.slice (some ⟨w.heap.size, 0, none⟩) zs.length zs.length) zs :=
  ⟨by simp, .inr ⟨w.heap.size, zs.length, _, rfl, h, heap_new w _, Nat.le_refl _, by unfold maxLen; omega, by simp, by simp; exact List.take_of_length_le (by simp)⟩⟩

/-- One cell of a new block. -/
theorem one_new (w : World) (e : TypeId) (x : Int) : ∀ (j : Nat) (u : Value), [Value.int .i64 x][j]? = some u → (w.alloc (.cells #[.int .i64 x] e)).cell? ((⟨w.heap.size, 0, none⟩ : Addr).add j) = some u := by
  intro j u h
  have hb : (w.alloc (.cells #[.int .i64 x] e)).heap[w.heap.size]? = some (.cells #[.int .i64 x] e) := heap_new w _
  rcases j with _ | j
  · simp at h
    subst h
    unfold World.cell?
    simp only [Addr.add, if_true]
    rw [hb]
    rfl
  · simp at h
/-- Behind an append to a row from n₀ on what lay below n₀ lies as it lay. -/
theorem turned_append {w w1 : World} {n₀ : Nat} {e : TypeId} {v : Value} {zs : List Int} {tmp : Obj} (hr : Row w n₀ e v zs) (hg : (w.alloc tmp).grownBy w1 v.ownBlock) : Turned (fun k => n₀ ≤ k) w w1 :=
  Turned.trans (Turned.alloc (fun _ => False) w tmp) (Turned.of_grownBy (R := fun j => v.ownBlock = some j) hg (fun _ h => h)) (fun _ h => h.elim) (fun i _ h => (hr.lt i h).1)

/-- A goal at which a walk stands. -/
structure Stop (G : Prop) : Prop where
  out : G
end Go.Proofs.Ytoaicedkepcalaa
