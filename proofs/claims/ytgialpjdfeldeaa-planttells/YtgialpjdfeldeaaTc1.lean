/-
  What the proof of YtgialpjdfeldeaaPlantTellsProof goes by, part 1 of 4: contracts and plain facts; each part begins with its own sentence. No conditions beyond each theorem's own.
-/
import Derived.WalkKit
import Derived.WalkSmall
import Derived.Maps.AppendAt
import Derived.OwnWalk
import Derived.Deep.AppendLies
import Derived.OpenShut
import Derived.RangeFuncNested
import Derived.RangeFuncBound
import Derived.RangeFuncLeaves
import Derived.Laws.OwnMore
import Derived.Test.YtgialpjdfeldeaaRows
import Derived.Maps.OwnIn
import Derived.Shelf.Strconv.Itoa0
import Derived.Test.YtgialpjdfeldeaaProg
import Derived.Lib.BitFns
import Derived.Lib.ItoaNum
import Derived.WalkLawsBesides
import Derived.ProofKit
import Derived.LoopTactic
import Derived.BigQuiet
import Derived.Deep.QuietTactic
import Derived.Lib.SliceRun
/-! Memory: what a step has turned ('Turned R w w'': of the blocks that lay, those of R alone; 'Kept': none), slices of numbers that read ('Reads') and that own their row ('Row'). No number of the program but the types handed in. No conditions beyond each theorem's own. -/
namespace Go.Proofs.Ytgialpjdfeldeaa
open Go.RowKit

theorem hide {p : Prop} (h : p) : Hid p := h
theorem heap_new (w : World) (o : Obj) : (w.alloc o).heap[w.heap.size]? = some o := by
  show (w.heap.push o)[w.heap.size]? = _
  rw [Array.getElem?_push, if_pos rfl]

/-- Of the blocks that lay, those of R alone may have turned. -/
structure Turned (R : Nat → Prop) (w w' : World) : Prop where
  os : w'.os = w.os
  tape : w'.tape = w.tape
  output : w'.output = w.output
  size : w.heap.size ≤ w'.heap.size
  block : ∀ k, k < w.heap.size → ¬ R k → w'.heap[k]? = w.heap[k]?

namespace Turned
theorem refl (R : Nat → Prop) (w : World) : Turned R w w := ⟨rfl, rfl, rfl, Nat.le_refl _, fun _ _ _ => rfl⟩
theorem trans {R R' R'' : Nat → Prop} {a b c : World} (h : Turned R a b) (k : Turned R' b c) (h1 : ∀ i, R i → R'' i) (h2 : ∀ i, i < a.heap.size → R' i → R'' i) : Turned R'' a c :=
  ⟨k.os.trans h.os, k.tape.trans h.tape, k.output.trans h.output, Nat.le_trans h.size k.size,
   fun i hi hn => (k.block i (Nat.lt_of_lt_of_le hi h.size) (fun e => hn (h2 i hi e))).trans (h.block i hi (fun e => hn (h1 i e)))⟩
theorem mono {R R' : Nat → Prop} {a b : World} (h : Turned R a b) (h1 : ∀ i, i < a.heap.size → R i → R' i) : Turned R' a b :=
  ⟨h.os, h.tape, h.output, h.size, fun i hi hn => h.block i hi (fun e => hn (h1 i hi e))⟩
theorem below {R : Nat → Prop} {B : Nat} {a b : World} (h : Turned R a b) (hB : B ≤ a.heap.size) (hR : ∀ k, R k → B ≤ k) : Below B a b :=
  ⟨h.os, h.tape, h.output, h.size, fun k hk => h.block k (by omega) (fun e => by have := hR k e; omega)⟩
theorem drewN (R : Nat → Prop) (w : World) (n : Nat) : Turned R w (w.drewN n) := ⟨rfl, rfl, rfl, Nat.le_refl _, fun _ _ _ => rfl⟩
theorem alloc (R : Nat → Prop) (w : World) (o : Obj) : Turned R w (w.alloc o) :=
  ⟨rfl, rfl, rfl, by simp, fun k hk _ => Below.heap_alloc w o k hk⟩
theorem setCell (w : World) (a : Addr) (v : Value) {R : Nat → Prop} (h : R a.block) : Turned R w (w.setCell a v) :=
  ⟨rfl, rfl, rfl, Nat.le_of_eq (World.size_setCell ..).symm, fun k _ hn => Below.heap_setCell w a v k (fun e => hn (by rw [e]; exact h))⟩
theorem of_grownBy {w w' : World} {row : Option Nat} {R : Nat → Prop} (h : w.grownBy w' row) (hR : ∀ k, row = some k → R k) : Turned R w w' :=
  ⟨h.os, h.tape, h.output, h.size, fun k hk hn => h.block k hk (fun e => hn (hR k e.symm))⟩
theorem heap {R : Nat → Prop} {a b : World} (h : Turned R a b) {k : Nat} {o : Obj} (hk : a.heap[k]? = some o) (hn : ¬ R k) : b.heap[k]? = some o :=
  (h.block k (Array.getElem?_eq_some_iff.1 hk).1 hn).trans hk
theorem cell {R : Nat → Prop} {a b : World} (h : Turned R a b) {p : Addr} {v : Value} (hc : a.cell? p = some v) (hn : ¬ R p.block) : b.cell? p = some v :=
  (World.cell?_of_block (h.block p.block (World.block_lt_of_cell? a p hc) hn)).trans hc
theorem frozen {R : Nat → Prop} {a b : World} (h : Turned R a b) {p : Addr} (hp : p.block < a.heap.size) (hn : ¬ R p.block) : b.frozen? p = a.frozen? p := World.frozen?_of_block (h.block p.block hp hn)
end Turned

/-- Of what lay nothing has turned. -/
abbrev Kept (w w' : World) : Prop := Turned (fun _ => False) w w'
theorem Kept.refl (w : World) : Kept w w := Turned.refl _ w
theorem Kept.trans {a b c : World} (h : Kept a b) (k : Kept b c) : Kept a c := Turned.trans h k (fun _ e => e) (fun _ _ e => e)
theorem Kept.drew (w : World) : Kept w w.drew := ⟨rfl, rfl, rfl, Nat.le_refl _, fun _ _ _ => rfl⟩
theorem Kept.then {R : Nat → Prop} {a b c : World} (h : Kept a b) (k : Turned R b c) : Turned R a c := Turned.trans h k (fun _ e => e.elim) (fun _ _ e => e)
theorem Kept.behind {R : Nat → Prop} {a b c : World} (h : Turned R a b) (k : Kept b c) : Turned R a c := Turned.trans h k (fun _ e => e) (fun _ _ e => e.elim)

theorem Kept.drewN (w : World) (n : Nat) : Kept w (w.drewN n) := Turned.drewN _ w n
theorem Kept.alloc {a w : World} (h : Kept a w) (o : Obj) : Kept a (w.alloc o) := h.trans (Turned.alloc _ _ _)
theorem Kept.drewN' {a w : World} (h : Kept a w) (n : Nat) : Kept a (w.drewN n) := h.trans (Kept.drewN _ _)
/-- What lay at w0 stays behind a step that turns a later block. -/
theorem Kept.did {w0 w w' : World} {b : Nat} (k : Kept w0 w) (hb : w0.heap.size ≤ b) (h : Turned (fun i => i = b) w w') : Kept w0 w' :=
  Turned.trans k h (fun _ e => e) (fun i hi e => by omega)
theorem Kept.own {w0 w w' : World} {O : Nat → Prop} (k : Kept w0 w) (hb : ∀ i, O i → w0.heap.size ≤ i) (h : Turned O w w') : Kept w0 w' :=
  Turned.trans k h (fun _ e => e) (fun i hi e => by have := hb i e; omega)

/-- A slice value that reads as these numbers. -/
def Reads (w : World) (a : Option Addr) (zs : List Int) : Prop :=
  zs = [] ∨ ∃ bl off, a = some ⟨bl, off, none⟩ ∧ ∀ j z, zs[j]? = some z → w.cell? ⟨bl, off + j, none⟩ = some (.int .i64 z)

theorem Reads.turned {w w' : World} {a : Option Addr} {zs : List Int} {R : Nat → Prop} (h : Reads w a zs) (ht : Turned R w w') (hR : ∀ k, k < w.heap.size → (∃ ad, a = some ad ∧ ad.block = k) → ¬ R k) : Reads w' a zs := by
  rcases h with h | ⟨bl, off, rfl, h⟩
  · exact .inl h
  · refine .inr ⟨bl, off, rfl, fun j z hz => ?_⟩
    have hc := h j z hz
    exact ht.cell hc (hR bl (World.block_lt_of_cell? _ _ hc) ⟨_, rfl, rfl⟩)
theorem Reads.kept {w w' : World} {a : Option Addr} {zs : List Int} (h : Reads w a zs) (ht : Kept w w') : Reads w' a zs := h.turned ht (fun _ _ _ e => e)
/-- One of them, where it lies. -/
theorem Reads.at {w : World} {a : Option Addr} {zs : List Int} (h : Reads w a zs) {j : Nat} {z : Int} (hz : zs[j]? = some z) : ∃ bl off, a = some ⟨bl, off, none⟩ ∧ bl < w.heap.size ∧ w.cell? ⟨bl, off + j, none⟩ = some (.int .i64 z) := by
  rcases h with h | ⟨bl, off, ha, hc⟩
  · rw [h] at hz
    simp at hz
  · exact ⟨bl, off, ha, World.block_lt_of_cell? _ _ (hc j z hz), hc j z hz⟩

/-- Where a slice that has an element lies. -/
theorem Reads.lt {w : World} {a : Option Addr} {zs : List Int} (h : Reads w a zs) (h0 : zs ≠ []) : ∀ ad, a = some ad → ad.block < w.heap.size := fun ad e => by
  obtain ⟨z, hz⟩ : ∃ z, zs[0]? = some z := ⟨_, List.getElem?_eq_getElem (List.length_pos_iff.2 h0)⟩
  obtain ⟨bl, off, h1, h2, _⟩ := h.at hz
  rw [h1] at e
  cases e
  exact h2

/-- What the frame of a proof tells of a slice of numbers that came in. -/
theorem reads_in {w : World} {a : Option Addr} {len cap : Nat} {z : List Int} (h : (a = none ∧ len = 0 ∧ cap = 0 ∧ z = []) ∨
    ∃ x, a = some x ∧ len ≤ cap ∧ cap ≤ maxLen ∧ z.length = cap ∧ (∀ i, i < z.length → w.cell? (x.add i) = some (.int .i64 (z.getD i 0))) ∧ ∀ n ∈ z, (Lit.int .i64 n).wf = true) :
    ∃ zs : List Int, zs.length = len ∧ zs.length ≤ cap ∧ cap ≤ maxLen ∧ Reads w a zs ∧ ∀ n ∈ zs, (Lit.int .i64 n).wf = true := by
  rcases h with ⟨rfl, rfl, rfl, rfl⟩ | ⟨x, rfl, h1, h2, h3, h4, h5⟩
  · exact ⟨[], rfl, Nat.zero_le _, Nat.zero_le _, .inl rfl, by simp⟩
  · refine ⟨z.take len, by rw [List.length_take]; omega, by rw [List.length_take]; omega, h2, ?_, fun n hn => h5 n (List.mem_of_mem_take hn)⟩
    by_cases hl : len = 0
    · subst hl
      exact .inl (by simp)
    · obtain ⟨b, off, rfl, hc⟩ := ints_at h4 (by omega)
      refine .inr ⟨b, off, rfl, fun j y hy => ?_⟩
      obtain ⟨hj, e⟩ := List.getElem?_eq_some_iff.1 hy
      rw [List.length_take] at hj
      rw [hc j (by omega)]
      rw [List.getElem_take] at e
      rw [← e, List.getD_eq_getElem?_getD, List.getElem?_eq_getElem (by omega)]
      rfl

/-- A new block of these numbers. -/
theorem Reads.new (w : World) (t : TypeId) (zs : List Int) : Reads (w.alloc (.cells (zs.map (Value.int .i64)).toArray t)) (some ⟨w.heap.size, 0, none⟩) zs := by
  refine .inr ⟨_, 0, rfl, fun j z hz => ?_⟩
  have hb : (w.alloc (.cells (zs.map (Value.int .i64)).toArray t)).heap[w.heap.size]? = some (.cells (zs.map (Value.int .i64)).toArray t) := heap_new w _
  unfold World.cell?
  rw [hb]
  simp [hz]

/-- These numbers as cells. -/
abbrev cellsOf (zs : List Int) : List Value := zs.map (Value.int .i64)
/-- A slice that owns a row of these numbers, from n₀ on. -/
abbrev Row (w : World) (n₀ : Nat) (e : TypeId) (v : Value) (zs : List Int) : Prop := w.ownsRow n₀ e 1 v zs.length (cellsOf zs)

theorem Row.turned {w w' : World} {n₀ : Nat} {e : TypeId} {v : Value} {zs : List Int} {R : Nat → Prop} (h : Row w n₀ e v zs) (ht : Turned R w w') (hn : ∀ g, n₀ ≤ g → ¬ R g) : Row w' n₀ e v zs := by
  obtain ⟨h1, h2⟩ := h
  refine ⟨h1, ?_⟩
  rcases h2 with h2 | ⟨g, cap, cur, rfl, hg, hh, r⟩
  · exact .inl h2
  · exact .inr ⟨g, cap, cur, rfl, hg, ht.heap hh (hn g hg), r⟩
theorem Row.kept {w w' : World} {n₀ : Nat} {e : TypeId} {v : Value} {zs : List Int} (h : Row w n₀ e v zs) (ht : Kept w w') : Row w' n₀ e v zs := h.turned ht (fun _ _ e => e)
/-- It reads as they are. -/
theorem Row.reads {w : World} {n₀ : Nat} {e : TypeId} {v : Value} {zs : List Int} (h : Row w n₀ e v zs) : ∃ a cap, v = .slice a zs.length cap ∧ Reads w a zs ∧ zs.length ≤ cap ∧ cap ≤ maxLen ∧ ∀ bl off, a = some ⟨bl, off, none⟩ → n₀ ≤ bl := by
  rcases h.2 with ⟨rfl, h0⟩ | ⟨g, cap, cur, rfl, hg, _, hc, hm, _⟩
  · obtain rfl := List.length_eq_zero_iff.1 h0
    exact ⟨none, 0, rfl, .inl rfl, Nat.le_refl _, Nat.zero_le _, fun _ _ e => by cases e⟩
  · refine ⟨_, cap, rfl, .inr ⟨g, 0, rfl, fun j p hp => ?_⟩, hc, hm, fun bl off e => by cases e; exact hg⟩
    have hj := (List.getElem?_eq_some_iff.1 hp).1
    have := h.cellAt j (by omega)
    rw [Nat.zero_add, this]
    simp [hp]
theorem row_new (w : World) (e : TypeId) (zs : List Int) (n₀ : Nat) (h : n₀ ≤ w.heap.size) (hl : zs.length ≤ 5000) : Row (w.alloc (.cells (cellsOf zs).toArray e)) n₀ e (.slice (some ⟨w.heap.size, 0, none⟩) zs.length zs.length) zs :=
  ⟨by simp, .inr ⟨w.heap.size, zs.length, _, rfl, h, heap_new w _, Nat.le_refl _, by unfold maxLen; omega, by simp, by simp; exact List.take_of_length_le (by simp)⟩⟩

/-- One cell of a new block. -/
theorem one_new (w : World) (e : TypeId) (x : Int) : ∀ (j : Nat) (u : Value), [Value.int .i64 x][j]? = some u → (w.alloc (.cells #[.int .i64 x] e)).cell? ((⟨w.heap.size, 0, none⟩ : Addr).add j) = some u := by
  intro j u h
  have hb : (w.alloc (.cells #[.int .i64 x] e)).heap[w.heap.size]? = some (.cells #[.int .i64 x] e) := heap_new w _
  rcases j with _ | j
  · simp at h
    subst h
    unfold World.cell?
    simp only [Addr.add, if_true]
    rw [hb]
    rfl
  · simp at h
/-- Behind an append to a row from n₀ on what lay below n₀ lies as it lay. -/
theorem turned_append {w w1 : World} {n₀ : Nat} {e : TypeId} {v : Value} {zs : List Int} {tmp : Obj} (hr : Row w n₀ e v zs) (hg : (w.alloc tmp).grownBy w1 v.ownBlock) : Turned (fun k => n₀ ≤ k) w w1 :=
  Turned.trans (Turned.alloc (fun _ => False) w tmp) (Turned.of_grownBy (R := fun j => v.ownBlock = some j) hg (fun _ h => h)) (fun _ h => h.elim) (fun i _ h => (hr.lt i h).1)

/-- A goal at which a walk stands. -/
structure Stop (G : Prop) : Prop where
  out : G
end Go.Proofs.Ytgialpjdfeldeaa

/-! Boxes: blocks of one cell, and objects that are put in a block's place ('Turned.putObj', 'Turned.boxed'). No conditions beyond each theorem's own. -/
namespace Go.Proofs.Ytgialpjdfeldeaa
open Go.RowKit
theorem Turned.putObj (w : World) (l : Nat) (o : Obj) {R : Nat → Prop} (h : R l) : Turned R w (w.putObj l o) :=
  ⟨rfl, rfl, rfl, by simp, fun k _ hn => World.putObj_heap_other (fun e => hn (by rw [e]; exact h))⟩
theorem Turned.boxed {R : Nat → Prop} {a b : World} (h : Turned R a b) {B : Nat} {t : TypeId} {v : Value} (hb : Boxed a B t v) (hn : ¬ R B) : Boxed b B t v := h.heap hb hn
end Go.Proofs.Ytgialpjdfeldeaa

/-! Iterators and the loops over them. 'Iter': what an iterator promises of its rounds, by the blocks that the loop's body holds as its own (O: the body turns those and new ones alone; the iterator turns none of them); 'wp_range': a loop 'for .. := range g' by its iterator's promise, its own invariant and one walk of its body. Conditions: each theorem's own. -/
namespace Go.Proofs.Ytgialpjdfeldeaa
open Go.RowKit

/-- Blocks of O', but for new ones (from n on), are of O. -/
def Sub (O' O : Nat → Prop) (n : Nat) : Prop := ∀ k, O' k → O k ∨ n ≤ k

theorem Sub.refl (O : Nat → Prop) (n : Nat) : Sub O O n := fun _ h => .inl h
theorem Sub.trans {O'' O' O : Nat → Prop} {n m : Nat} (h : Sub O'' O' m) (h' : Sub O' O n) (hnm : n ≤ m) : Sub O'' O n := fun k hk => (h k hk).elim (h' k) (fun e => .inr (Nat.le_trans hnm e))
theorem Turned.sub {O O' : Nat → Prop} {a b c : World} (h : Turned O a b) (h' : Turned O' b c) (hs : Sub O' O a.heap.size) : Turned O a c :=
  h.trans h' (fun _ e => e) (fun i hi e => (hs i e).elim id (fun e' => by omega))

/-- An invariant of a loop: by the blocks that are the body's own, what has come, the world. -/
abbrev Inv (α : Type) := (Nat → Prop) → List α → World → Prop

/-- It speaks of its own blocks alone, and they lie. -/
structure Good {α : Type} (J : Inv α) : Prop where
  abides : ∀ O pre A B, J O pre A → Turned (fun k => ¬ O k) A B → J O pre B
  within : ∀ O pre A, J O pre A → ∀ k, O k → k < A.heap.size

/-- How a round ends: it goes on, or says 'no more'. -/
def RoundEnds {α : Type} (J Jx : Inv α) (O : Nat → Prop) (pre : List α) (A : World) (e : Ending) (B : World) : Prop :=
  ∃ O', Sub O' O A.heap.size ∧ Turned O A B ∧ ((e = .returned (.bool true) ∧ J O' pre B) ∨ (e = .returned (.bool false) ∧ Jx O' pre B))

/-- What an iterator (function g with lb captured) promises at world W, where it goes through xs and reads blocks of R: for whatever loop body keeps off R. -/
def Iter {α : Type} (P : Program) (g : Nat) (lb : Array Value) (encs : α → Array Value) (xs : List α) (R : Nat → Prop) (W : World) : Prop :=
  ∀ (l : Nat) (O₀ : Nat → Prop) (J Jx : Inv α), (∀ k, R k → ¬ O₀ k) → Good J → Good Jx →
    (∀ O pre x rest A, xs = pre ++ x :: rest → Turned O₀ W A → Sub O O₀ W.heap.size → J O pre A → YieldAt Fence.wide 9 P l (encs x) A (RoundEnds J Jx O (pre ++ [x]) A)) →
    J O₀ [] W →
    Calls P g (#[.func (.yield l) #[] #[]] ++ lb) W fun e W' => (∃ v, e = .returned v) ∧ ∃ O', Sub O' O₀ W.heap.size ∧ Turned O₀ W W' ∧ (J O' xs W' ∨ ∃ pre rest, xs = pre ++ rest ∧ Jx O' pre W')

/-- How a loop's body may be left. -/
def BodyEnds {α : Type} (I : Inv α) (Ix : Code → Inv α) (O : Nat → Prop) (pre : List α) (A : World) : Exit → Act → World → Prop
  | .normal, _, B => ∃ O', Sub O' O A.heap.size ∧ Turned O A B ∧ I O' pre B
  | .ret, _, B => ∃ O', Sub O' O A.heap.size ∧ Turned O A B ∧ Ix .ret O' pre B
  | .exit id, _, B => ∃ O', Sub O' O A.heap.size ∧ Turned O A B ∧ Ix (.exit id) O' pre B
  | .goto t, _, B => ∃ O', Sub O' O A.heap.size ∧ Turned O A B ∧ Ix (.goto t) O' pre B
  | .panic _, _, _ => False
  | .outgrown, _, _ => False

/-- The blocks of a loop's body, with the loop's own two (D: deferred calls; D + 1: its record). -/
def With (O : Nat → Prop) (D : Nat) : Nat → Prop := fun k => O k ∨ k = D ∨ k = D + 1

/-- The loop's invariant, as its iterator meets it: the body's, and the loop's own two blocks. -/
def Inner {α : Type} (I : Inv α) (D : Nat) (o : Obj) : Inv α := fun OO pre W =>
  ∃ O, (∀ k, OO k ↔ With O D k) ∧ ¬ O D ∧ ¬ O (D + 1) ∧ I O pre W ∧ W.heap[D + 1]? = some o ∧ W.heap[D]? = some (.deferred (some []))

theorem Inner.good {α : Type} {I : Inv α} (h : Good I) (D : Nat) (o : Obj) : Good (Inner I D o) := by
  constructor
  · rintro OO pre A B ⟨O, e, h1, h2, hi, hl, hd⟩ ht
    have ho : ∀ k, With O D k → k < A.heap.size → B.heap[k]? = A.heap[k]? := fun k hk hlt => ht.block k hlt (fun hn => hn ((e k).2 hk))
    refine ⟨O, e, h1, h2, h.abides O pre A B hi (ht.mono fun k _ hk hn => hk ((e k).2 (.inl hn))), ?_, ?_⟩
    · exact (ho _ (.inr (.inr rfl)) (Array.getElem?_eq_some_iff.1 hl).1).trans hl
    · exact (ho _ (.inr (.inl rfl)) (Array.getElem?_eq_some_iff.1 hd).1).trans hd
  · rintro OO pre A ⟨O, e, _, _, hi, hl, hd⟩ k hk
    rcases (e k).1 hk with hk | rfl | rfl
    · exact h.within O pre A hi k hk
    · exact (Array.getElem?_eq_some_iff.1 hd).1
    · exact (Array.getElem?_eq_some_iff.1 hl).1

theorem Good.ex {α : Type} {β : Type} {I : β → Inv α} (h : ∀ c, Good (I c)) : Good (fun O pre W => ∃ c, I c O pre W) :=
  ⟨fun O pre A B ⟨c, hi⟩ ht => ⟨c, (h c).abides O pre A B hi ht⟩, fun O pre A ⟨c, hi⟩ => (h c).within O pre A hi⟩


/-- **A LOOP OVER AN ITERATOR** (not within another such loop's body): by the iterator's promise, the loop's invariant I (Ix c: where a round has left by the jump c) and one walk of its body. -/
theorem wp_range {P : Program} {α : Type} {n : Nat} {g : Operand} {ps : Array Tmp} {assign body : Code} {Q : Exit → Act → World → Prop} {a : Act} {w : World}
    {gf : Nat} {lb : Array Value} (hg : a.eval g = .func (.func gf) #[] lb) (eg : ∀ args w, (callFunc gf args).run P w = .ok (.enter gf args) w)
    {encs : α → Array Value} {xs : List α} {R : Nat → Prop} (hit : ∀ W, Turned (fun _ => False) w W → Iter P gf lb encs xs R W) (hps : ∀ x, (encs x).size = ps.size)
    (O₀ : Nat → Prop) (I : Inv α) (Ix : Code → Inv α) (hR : ∀ k, R k → k < w.heap.size ∧ ¬ O₀ k) (hI : Good I) (hIx : ∀ c, Good (Ix c)) (h0 : I O₀ [] w) (a₁ : α → Act)
    (hassign : ∀ (l : Nat) (x : α) (W : World) (K : Act → World → Prop), K (a₁ x) W →
      assign.wpIn (Fence.wide.inRound l) 9 P (Exit.then K (fun _ _ _ => False)) { tmps := (ps.zip (encs x)).foldl (fun t (p, v) => t.setIfInBounds p v) a.tmps, defers := [] } W)
    (hbody : ∀ (l : Nat) (O : Nat → Prop) (pre : List α) (x : α) (rest : List α) (W : World), xs = pre ++ x :: rest → Turned O₀ w W → Sub O O₀ w.heap.size → I O pre W →
      body.wpIn (Fence.wide.inRound l) 9 P (BodyEnds I Ix O (pre ++ [x]) W) (a₁ x) W)
    (hdone : ∀ (D : Nat) (O : Nat → Prop) (W : World), w.heap.size ≤ D → ¬ O D → Turned O₀ w W → Sub O O₀ w.heap.size → I O xs W → W.heap[D]? = some (.deferred (some [])) →
      Q .normal { a with defers := { target := .collected D, args := #[] } :: a.defers } W)
    (hstop : ∀ (D : Nat) (O : Nat → Prop) (c : Code) (pre rest : List α) (W : World), w.heap.size ≤ D → ¬ O D → Turned O₀ w W → Sub O O₀ w.heap.size → xs = pre ++ rest → Ix c O pre W → W.heap[D]? = some (.deferred (some [])) →
      c.wpIn Fence.wide n P Q { a with defers := { target := .collected D, args := #[] } :: a.defers } W) :
    (Code.rangeFunc g ps assign body).wpIn Fence.wide n P Q a w := by
  refine wpIn_rangeFunc ?_
  intro fn hfn
  obtain ⟨rec, hrec⟩ : ∃ rec : LoopState → Option Code → Loop, rec = fun st pe => { state := st, pending := pe, fn, tmps := a.tmps, params := ps, assign, body, defers := w.heap.size } := ⟨_, rfl⟩
  obtain ⟨D, hD⟩ : ∃ D, w.heap.size = D := ⟨_, rfl⟩
  obtain ⟨W1, hW1⟩ : ∃ W1, (w.alloc (.deferred (some []))).alloc (.loop (rec .ready none)) = W1 := ⟨_, rfl⟩
  have t1 : Turned (fun _ => False) w W1 := by
    rw [← hW1]
    exact (Turned.alloc _ w _).trans (Turned.alloc _ _ _) (fun _ h => h) (fun _ _ h => h)
  have z1 : W1.heap.size = D + 2 := by rw [← hW1, World.size_alloc, World.size_alloc, hD]
  have hl1 : W1.heap[D + 1]? = some (.loop (rec .ready none)) := by
    rw [← hW1, ← hD]
    have := World.alloc_heap_new (w.alloc (.deferred (some []))) (.loop (rec .ready none))
    rwa [World.size_alloc] at this
  have hd1 : W1.heap[D]? = some (.deferred (some [])) := by
    rw [← hW1, ← hD]
    exact (Below.heap_alloc _ _ _ (by simp)).trans (World.alloc_heap_new w _)
  have w0 : ∀ k, O₀ k → k < D := fun k hk => by rw [← hD]; exact hI.within O₀ [] w h0 k hk
  have hi1 : I O₀ [] W1 := hI.abides O₀ [] w W1 h0 (t1.mono fun _ _ h => h.elim)
  -- what is said of the body's blocks is said from the loop's beginning on
  have back : ∀ {OO : Nat → Prop} {A : World}, Turned OO W1 A → (∀ k, OO k ↔ With O₀ D k) → Turned O₀ w A := fun {OO A} h e =>
    t1.trans h (fun _ h => h.elim) (fun i hi hk => by
      rcases (e i).1 hk with hk | rfl | rfl
      · exact hk
      · omega
      · omega)
  have e0 : ∀ k, With O₀ D k ↔ With O₀ D k := fun _ => Iff.rfl
  refine ⟨D + 1, [{ target := .collected D, args := #[] }], W1, { target := .fn (.func gf) lb, args := #[.func (.yield (D + 1)) #[] #[]] }, W1, gf,
    #[.func (.yield (D + 1)) #[] #[]] ++ lb, W1, ?_, ?_, fun _ _ => trivial, ?_, fun h => by simp [Fence.wide] at h, ?_⟩
  · rw [← hW1, ← hD, hrec]
    exact run_enterLoop_outer _ _ _ _ _
  · simp only [resolve, hg]
    simp [go_sem]
  · simp [invoke, go_sem, eg]
  · have hc := hit W1 t1 (D + 1) (With O₀ D) (Inner I D (.loop (rec .ready none))) (fun OO pre W => ∃ c, Inner (Ix c) D (.loop (rec .done (some c))) OO pre W)
      (fun k hk hO => by
        obtain ⟨hk1, hk2⟩ := hR k hk
        rcases hO with hO | rfl | rfl
        · exact hk2 hO
        · omega
        · omega)
      (Inner.good hI D _) (Good.ex fun c => Inner.good (hIx c) D _) ?_ ⟨O₀, e0, fun h => by have := w0 _ h; omega, fun h => by have := w0 _ h; omega, hi1, hl1, hd1⟩
    · refine callsIn_wide.2 (hc.mono ?_)
      rintro e W2 ⟨⟨v, rfl⟩, OO, hsub, ht, hJ⟩
      have tb := back ht e0
      rcases hJ with ⟨O, e, n1, n2, hi, hl, hd⟩ | ⟨pre, rest, hx, c, O, e, n1, n2, hi, hl, hd⟩
      · obtain ⟨o, hr⟩ : ∃ o, (Instr.endLoop (D + 1)).run P W2 = .ok none (W2.putObj (D + 1) o) := ⟨_, by have := run_endLoop (P := P) hl (by rw [hrec]; simp); rw [hrec] at this; exact this⟩
        have hput : Turned (fun k => k = D + 1) W2 (W2.putObj (D + 1) o) := Turned.putObj _ _ _ rfl
        refine ⟨none, _, hr, ?_⟩
        refine hdone D O _ (by omega) n1 (tb.trans hput (fun _ h => h) (fun i hi h => by omega)) ?_ (hI.abides O xs W2 _ hi (hput.mono fun k _ hk hO => n2 (by rw [← hk]; exact hO))) ((World.putObj_heap_other (by omega)).trans hd)
        intro k hk
        rcases hsub k ((e k).2 (.inl hk)) with (h | rfl | rfl) | h
        · exact .inl h
        · exact (n1 hk).elim
        · exact (n2 hk).elim
        · exact .inr (by omega)
      · obtain ⟨o, hr⟩ : ∃ o, (Instr.endLoop (D + 1)).run P W2 = .ok (some c) (W2.putObj (D + 1) o) := ⟨_, by have := run_endLoop (P := P) hl (by rw [hrec]; simp); rw [hrec] at this; exact this⟩
        have hput : Turned (fun k => k = D + 1) W2 (W2.putObj (D + 1) o) := Turned.putObj _ _ _ rfl
        refine ⟨some c, _, hr, ?_⟩
        refine hstop D O c pre rest _ (by omega) n1 (tb.trans hput (fun _ h => h) (fun i hi h => by omega)) ?_ hx ((hIx c).abides O pre W2 _ hi (hput.mono fun k _ hk hO => n2 (by rw [← hk]; exact hO))) ((World.putObj_heap_other (by omega)).trans hd)
        intro k hk
        rcases hsub k ((e k).2 (.inl hk)) with (h | rfl | rfl) | h
        · exact .inl h
        · exact (n1 hk).elim
        · exact (n2 hk).elim
        · exact .inr (by omega)
    · -- one round
      rintro OO pre x rest A hx tA hsA ⟨O, e, n1, n2, hi, hl, hd⟩
      have hlt : D + 1 < A.heap.size := (Array.getElem?_eq_some_iff.1 hl).1
      have tb := back tA e0
      have sO : Sub O O₀ w.heap.size := fun k hk => by
        rcases hsA k ((e k).2 (.inl hk)) with (h | rfl | rfl) | h
        · exact .inl h
        · exact (n1 hk).elim
        · exact (n2 hk).elim
        · exact .inr (by omega)
      have hy := run_yield (P := P) (args := encs x) hl (by rw [hrec]; exact hps x)
      rw [hrec] at hy
      refine ⟨fn, _, assign, body, hy, roundIn_of_wpIn hfn (hassign _ x A _ ⟨_, run_beginRound hl (by rw [hrec]), ?_⟩)⟩
      clear hy
      obtain ⟨A1, hA1⟩ : ∃ A1, A.putObj (D + 1) (.loop { rec .ready none with state := .busy }) = A1 := ⟨_, rfl⟩
      rw [hA1]
      have hput : Turned (fun k => k = D + 1) A A1 := by rw [← hA1]; exact Turned.putObj _ _ _ rfl
      have hl2 : A1.heap[D + 1]? = some (.loop { rec .ready none with state := .busy }) := by rw [← hA1]; exact World.putObj_heap_same hlt
      have hd2 : A1.heap[D]? = some (.deferred (some [])) := by rw [← hA1]; exact (World.putObj_heap_other (by omega)).trans hd
      have zA : A1.heap.size = A.heap.size := by rw [← hA1]; simp
      have hi2 : I O pre A1 := hI.abides O pre A A1 hi (hput.mono fun k _ hk hO => n2 (by rw [← hk]; exact hO))
      have fin : ∀ (jump : Option Code) (B : World), Turned O A1 B →
          (Instr.endRound (D + 1) jump).run P B = .ok (.bool jump.isNone) (B.putObj (D + 1) (.loop (rec (if jump.isNone then .ready else .done) jump))) ∧
          (B.putObj (D + 1) (.loop (rec (if jump.isNone then .ready else .done) jump))).heap[D + 1]? = some (.loop (rec (if jump.isNone then .ready else .done) jump)) ∧
          (B.putObj (D + 1) (.loop (rec (if jump.isNone then .ready else .done) jump))).heap[D]? = some (.deferred (some [])) ∧
          Turned OO A (B.putObj (D + 1) (.loop (rec (if jump.isNone then .ready else .done) jump))) := fun jump B tB => by
        have hl3 := tB.heap hl2 n2
        have hd3 := tB.heap hd2 n1
        have hr := run_endRound (P := P) jump hl3
        rw [hrec] at hr ⊢
        refine ⟨hr, World.putObj_heap_same (Array.getElem?_eq_some_iff.1 hl3).1, (World.putObj_heap_other (by omega)).trans hd3, ?_⟩
        refine (hput.trans (tB.trans (Turned.putObj (R := fun k => k = D + 1) B (D + 1) _ rfl) (R'' := OO) (fun k hk => (e k).2 (.inl hk)) (fun k _ hk => (e k).2 (.inr (.inr hk)))) (fun k hk => (e k).2 (.inr (.inr hk))) (fun _ _ h => h))
      have fol : ∀ {O' : Nat → Prop} {J' : Inv α} {o : Obj} {B : World} {ys : List α}, Good J' → Sub O' O A1.heap.size → Turned O A1 B → J' O' ys B → (∀ k, O' k → k < B.heap.size) →
          (B.putObj (D + 1) o).heap[D + 1]? = some o → (B.putObj (D + 1) o).heap[D]? = some (.deferred (some [])) → Sub (With O' D) OO A.heap.size ∧ Inner J' D o (With O' D) ys (B.putObj (D + 1) o) := fun {O' J' o B ys} gJ s' tB hj wi q1 q2 => by
        have m1 : ¬ O' D := fun h => (s' D h).elim n1 (fun h' => by omega)
        have m2 : ¬ O' (D + 1) := fun h => (s' (D + 1) h).elim n2 (fun h' => by omega)
        refine ⟨fun k hk => ?_, O', fun _ => Iff.rfl, m1, m2, gJ.abides O' ys B _ hj ((Turned.putObj (R := fun k => k = D + 1) B (D + 1) o rfl).mono fun k _ hk hO => m2 (by rw [← hk]; exact hO)), q1, q2⟩
        rcases hk with hk | rfl | rfl
        · exact (s' k hk).imp (fun h => (e k).2 (.inl h)) (fun h => by omega)
        · exact .inl ((e _).2 (.inr (.inl rfl)))
        · exact .inl ((e _).2 (.inr (.inr rfl)))
      refine wpIn_mono (hbody _ O pre x rest A1 hx (tb.trans hput (fun _ h => h) (fun i hi h => by omega)) sO hi2) ?_
      rintro ex a3 B hp
      cases ex with
      | normal =>
        obtain ⟨O', s', tB, hj⟩ := hp
        obtain ⟨hr, q1, q2, q3⟩ := fin none B tB
        obtain ⟨f1, f2⟩ := fol hI s' tB hj (hI.within _ _ _ hj) q1 q2
        exact ⟨_, _, hr, With O' D, f1, q3, .inl ⟨rfl, f2⟩⟩
      | ret =>
        obtain ⟨O', s', tB, hj⟩ := hp
        obtain ⟨hr, q1, q2, q3⟩ := fin (some .ret) B tB
        obtain ⟨f1, f2⟩ := fol (hIx _) s' tB hj ((hIx _).within _ _ _ hj) q1 q2
        exact ⟨_, _, hr, With O' D, f1, q3, .inr ⟨rfl, _, f2⟩⟩
      | exit id =>
        obtain ⟨O', s', tB, hj⟩ := hp
        obtain ⟨hr, q1, q2, q3⟩ := fin (some (.exit id)) B tB
        obtain ⟨f1, f2⟩ := fol (hIx _) s' tB hj ((hIx _).within _ _ _ hj) q1 q2
        exact ⟨_, _, hr, With O' D, f1, q3, .inr ⟨rfl, _, f2⟩⟩
      | goto t =>
        obtain ⟨O', s', tB, hj⟩ := hp
        obtain ⟨hr, q1, q2, q3⟩ := fin (some (.goto t)) B tB
        obtain ⟨f1, f2⟩ := fol (hIx _) s' tB hj ((hIx _).within _ _ _ hj) q1 q2
        exact ⟨_, _, hr, With O' D, f1, q3, .inr ⟨rfl, _, f2⟩⟩
      | panic ch => exact hp.elim
      | outgrown => exact hp.elim

/-- The same, outside the fence. -/
theorem wp_range' {P : Program} {α : Type} {g : Operand} {ps : Array Tmp} {assign body : Code} {Q : Exit → Act → World → Prop} {a : Act} {w : World}
    {gf : Nat} {lb : Array Value} (hg : a.eval g = .func (.func gf) #[] lb) (eg : ∀ args w, (callFunc gf args).run P w = .ok (.enter gf args) w)
    {encs : α → Array Value} {xs : List α} {R : Nat → Prop} (hit : ∀ W, Turned (fun _ => False) w W → Iter P gf lb encs xs R W) (hps : ∀ x, (encs x).size = ps.size)
    (O₀ : Nat → Prop) (I : Inv α) (Ix : Code → Inv α) (hR : ∀ k, R k → k < w.heap.size ∧ ¬ O₀ k) (hI : Good I) (hIx : ∀ c, Good (Ix c)) (h0 : I O₀ [] w) (a₁ : α → Act)
    (hassign : ∀ (l : Nat) (x : α) (W : World) (K : Act → World → Prop), K (a₁ x) W →
      assign.wpIn (Fence.wide.inRound l) 9 P (Exit.then K (fun _ _ _ => False)) { tmps := (ps.zip (encs x)).foldl (fun t (p, v) => t.setIfInBounds p v) a.tmps, defers := [] } W)
    (hbody : ∀ (l : Nat) (O : Nat → Prop) (pre : List α) (x : α) (rest : List α) (W : World), xs = pre ++ x :: rest → Turned O₀ w W → Sub O O₀ w.heap.size → I O pre W →
      body.wpIn (Fence.wide.inRound l) 9 P (BodyEnds I Ix O (pre ++ [x]) W) (a₁ x) W)
    (hdone : ∀ (D : Nat) (O : Nat → Prop) (W : World), w.heap.size ≤ D → ¬ O D → Turned O₀ w W → Sub O O₀ w.heap.size → I O xs W → W.heap[D]? = some (.deferred (some [])) →
      Q .normal { a with defers := { target := .collected D, args := #[] } :: a.defers } W)
    (hstop : ∀ (D : Nat) (O : Nat → Prop) (c : Code) (pre rest : List α) (W : World), w.heap.size ≤ D → ¬ O D → Turned O₀ w W → Sub O O₀ w.heap.size → xs = pre ++ rest → Ix c O pre W → W.heap[D]? = some (.deferred (some [])) →
      c.wp P Q { a with defers := { target := .collected D, args := #[] } :: a.defers } W) :
    (Code.rangeFunc g ps assign body).wp P Q a w :=
  (wpIn_wide (n := 9)).1 (wp_range hg eg hit hps O₀ I Ix hR hI hIx h0 a₁ hassign hbody hdone (fun D O c pre rest W h1 h2 h3 h4 h5 h6 h7 => wpIn_wide.2 (hstop D O c pre rest W h1 h2 h3 h4 h5 h6 h7)))

/-- A function whose body holds a loop over an iterator, from its body. -/
theorem calls_marks {P : Program} {f : FuncId} {fn : Func} {c : Code} {args : Array Value} {w : World} {Q : Ending → World → Prop}
    (hf : P.funcs[f]? = some fn) (hb : fn.body = some c)
    (h : c.wp P (bodyPostM Fence.wide 9 P fn Q) { tmps := args ++ Array.replicate (fn.ntmps - args.size) undef, defers := [] } w) : Calls P f args w Q :=
  (callsIn_wide (n := 9)).1 (callsIn_of_wp_marks hf hb trivial (wpIn_wide.2 h) rfl)

/-- What lies in a block that is the body's own abides. -/
theorem Boxed.own {O : Nat → Prop} {A A' : World} {B : Nat} {t : TypeId} {u : Value} (h : Boxed A B t u) (hO : O B) (ht : Turned (fun k => ¬ O k) A A') : Boxed A' B t u := ht.boxed h (fun hn => hn hO)

end Go.Proofs.Ytgialpjdfeldeaa

/-! Memories of chapter 7 in plain: a state ('Mst': what the used cells hold, how many there may be, the three counts) and what each call makes of it; and a memory as it lies ('MemAt': a block of five cells, one of which is a slice that owns its row). No number of the program but the types handed in (2: int64). No conditions beyond each theorem's own. -/
namespace Go.Proofs.Ytgialpjdfeldeaa
open Go.RowKit

/-- What a memory is. -/
structure Mst where
  xs : List Int
  size : Int
  count : Int
  odd : Int
  ref : Int

namespace Mst
/-- Is there a used cell at a? -/
def used (s : Mst) (a : Int) : Bool := decide (1 ≤ a) && decide (a ≤ (s.xs.length : Int))
/-- What the cell at a holds. -/
def look (s : Mst) (a : Int) : Int := if s.used a = true then s.xs.getD (a - 1).toNat 0 else 0
/-- An access at a, counted. -/
def touch (s : Mst) (a : Int) : Mst := if s.used a = true then { s with count := wrap64 (s.count + 1) } else { s with count := wrap64 (s.count + 1), odd := wrap64 (s.odd + 1) }
/-- The cell at a holds x. -/
def put (s : Mst) (a x : Int) : Mst := if s.used a = true then { s with xs := s.xs.set (a - 1).toNat x } else s
def write (s : Mst) (a x : Int) : Mst := (s.touch a).put a x
def did (s : Mst) (a old : Int) : Bool := s.used a && (s.look a == old)
def cas (s : Mst) (a old x : Int) : Mst := if s.did a old = true then s.write a x else s.touch a
def add (s : Mst) (a d : Int) : Mst := s.write a (wrap64 (s.look a + d))
/-- Is there room for n cells? -/
def fits (s : Mst) (n : Nat) : Bool := decide (0 < n) && decide ((s.xs.length : Int) + n ≤ s.size)
def make (s : Mst) (ws : List Int) : Mst := if s.fits ws.length = true then { s with count := wrap64 (s.count + 1), xs := s.xs ++ ws } else { s with count := wrap64 (s.count + 1), ref := wrap64 (s.ref + 1) }
/-- The address of the first cell that is made. -/
def next (s : Mst) (ws : List Int) : Int := if s.fits ws.length = true then (s.xs.length : Int) + 1 else 0
/-- As it is made. -/
def new (n : Int) : Mst := ⟨[], n, 0, 0, 0⟩

theorem used_iff {s : Mst} {a : Int} : s.used a = true ↔ 1 ≤ a ∧ a ≤ (s.xs.length : Int) := by simp [used]
theorem used_nat {s : Mst} {a : Int} (h : s.used a = true) : ∃ j : Nat, a = (j : Int) + 1 ∧ j < s.xs.length := by
  obtain ⟨h1, h2⟩ := used_iff.1 h
  exact ⟨(a - 1).toNat, by omega, by omega⟩
theorem used_succ {s : Mst} {j : Nat} (h : j < s.xs.length) : s.used ((j : Int) + 1) = true := used_iff.2 ⟨by omega, by omega⟩
theorem back (j : Nat) : ((j : Int) + 1 - 1).toNat = j := by omega
theorem look_succ {s : Mst} {j : Nat} {z : Int} (h : s.xs[j]? = some z) : s.look ((j : Int) + 1) = z := by
  have hj := (List.getElem?_eq_some_iff.1 h).1
  rw [Mst.look, if_pos (used_succ hj), back, List.getD_eq_getElem?_getD, h]
  rfl
theorem look_none {s : Mst} {a : Int} (h : s.used a = false) : s.look a = 0 := by rw [Mst.look, h]; rfl
theorem touch_xs (s : Mst) (a : Int) : (s.touch a).xs = s.xs := by unfold touch; split <;> rfl
theorem touch_size (s : Mst) (a : Int) : (s.touch a).size = s.size := by unfold touch; split <;> rfl
theorem touch_used (s : Mst) (a c : Int) : (s.touch a).used c = s.used c := by simp [used, touch_xs]
theorem touch_look (s : Mst) (a c : Int) : (s.touch a).look c = s.look c := by simp [Mst.look, touch_used, touch_xs]
theorem put_size (s : Mst) (a x : Int) : (s.put a x).size = s.size := by unfold put; split <;> rfl
theorem put_len (s : Mst) (a x : Int) : (s.put a x).xs.length = s.xs.length := by unfold put; split <;> simp
theorem touch_in {s : Mst} {a : Int} (h : s.used a = true) : s.touch a = { s with count := wrap64 (s.count + 1) } := by rw [touch, if_pos h]
theorem write_in {s : Mst} {j : Nat} (h : j < s.xs.length) (x : Int) : s.write ((j : Int) + 1) x = { s with count := wrap64 (s.count + 1), xs := s.xs.set j x } := by
  have hu := used_succ h
  rw [write, put, touch_used, if_pos hu, touch_in hu, back]
theorem write_out {s : Mst} {a : Int} (h : s.used a = false) (x : Int) : s.write a x = s.touch a := by rw [write, put, touch_used, h]; rfl
theorem did_in {s : Mst} {j : Nat} {z : Int} (h : s.xs[j]? = some z) (old : Int) : s.did ((j : Int) + 1) old = (z == old) := by
  rw [did, used_succ (List.getElem?_eq_some_iff.1 h).1, look_succ h, Bool.true_and]
theorem did_out {s : Mst} {a : Int} (h : s.used a = false) (old : Int) : s.did a old = false := by rw [did, h, Bool.false_and]
end Mst

/-- The blocks of a memory: its box, and the row of the slice that lies there. -/
def Foot (b : Nat) (v : Value) : Nat → Prop := fun k => k = b ∨ v.ownBlock = some k

/-- The box of the program's memory, and of the document's. -/
def layP (v : Value) (n c o r : Int) : Array Value := #[v, .int .i64 n, .int .i64 c, .int .i64 o, .int .i64 r]
def layD (v : Value) (n c o r : Int) : Array Value := #[.int .i64 n, v, .int .i64 c, .int .i64 o, .int .i64 r]

/-- A memory lies at b: a box (of type T) that holds the slice v, which owns a row of its cells; all from n₀ on. -/
structure MemAt (T : TypeId) (lay : Value → Int → Int → Int → Int → Array Value) (w : World) (n₀ b : Nat) (v : Value) (s : Mst) : Prop where
  le : n₀ ≤ b
  box : w.heap[b]? = some (.cells (lay v s.size s.count s.odd s.ref) T)
  row : Row w n₀ 2 v s.xs
  room : (s.xs.length : Int) ≤ s.size
  top : s.size ≤ 65536

namespace MemAt
variable {T : TypeId} {lay : Value → Int → Int → Int → Int → Array Value} {w w' : World} {n₀ b : Nat} {v : Value} {s s' : Mst}
theorem lt (h : MemAt T lay w n₀ b v s) : ∀ k, Foot b v k → n₀ ≤ k ∧ k < w.heap.size := by
  rintro k (rfl | hk)
  · exact ⟨h.le, (Array.getElem?_eq_some_iff.1 h.box).1⟩
  · exact h.row.lt k hk
theorem row_turned (h : MemAt T lay w n₀ b v s) {R : Nat → Prop} (ht : Turned R w w') (hn : ∀ k, v.ownBlock = some k → ¬ R k) : Row w' n₀ 2 v s.xs := by
  obtain ⟨h1, h2⟩ := h.row
  refine ⟨h1, ?_⟩
  rcases h2 with h2 | ⟨g, cap, cur, rfl, hg, hh, r⟩
  · exact .inl h2
  · exact .inr ⟨g, cap, cur, rfl, hg, ht.heap hh (hn g rfl), r⟩
theorem turned (h : MemAt T lay w n₀ b v s) {R : Nat → Prop} (ht : Turned R w w') (hn : ∀ k, Foot b v k → ¬ R k) : MemAt T lay w' n₀ b v s :=
  ⟨h.le, ht.heap h.box (hn b (.inl rfl)), h.row_turned ht (fun k hk => hn k (.inr hk)), h.room, h.top⟩
theorem kept (h : MemAt T lay w n₀ b v s) (ht : Kept w w') : MemAt T lay w' n₀ b v s := h.turned ht (fun _ _ e => e)
theorem low (h : MemAt T lay w n₀ b v s) {m : Nat} (hm : m ≤ n₀) : MemAt T lay w m b v s := by
  refine ⟨Nat.le_trans hm h.le, h.box, ?_, h.room, h.top⟩
  obtain ⟨h1, h2⟩ := h.row
  refine ⟨h1, ?_⟩
  rcases h2 with h2 | ⟨g, cap, cur, rfl, hg, r⟩
  · exact .inl h2
  · exact .inr ⟨g, cap, cur, rfl, Nat.le_trans hm hg, r⟩
theorem not_row (h : MemAt T lay w n₀ b v s) (hT : T ≠ 2) : v.ownBlock ≠ some b := by
  rcases h.row.2 with ⟨rfl, _⟩ | ⟨g, cap, cur, rfl, _, hgb, _⟩
  · simp [Value.ownBlock]
  · intro e'
    obtain rfl : g = b := by simpa [Value.ownBlock] using e'
    have := h.box.symm.trans hgb
    simp at this
    exact hT this.2
/-- Another box, the same row. -/
theorem boxed (h : MemAt T lay w n₀ b v s) (hT : T ≠ 2) (ht : Turned (fun k => k = b) w w') (hb : w'.heap[b]? = some (.cells (lay v s'.size s'.count s'.odd s'.ref) T)) (hx : s'.xs = s.xs) (hs : s'.size = s.size) : MemAt T lay w' n₀ b v s' :=
  ⟨h.le, hb, by rw [hx]; exact h.row_turned ht (fun k hk e => h.not_row hT (by rw [hk, e])), by rw [hx, hs]; exact h.room, by rw [hs]; exact h.top⟩
/-- The slice as it is written out. -/
theorem form (h : MemAt T lay w n₀ b v s) : ∃ a cap, v = .slice a s.xs.length cap ∧ Reads w a s.xs ∧ s.xs.length ≤ cap ∧ cap ≤ maxLen := by
  obtain ⟨a, cap, h1, h2, h3, h4, _⟩ := h.row.reads
  exact ⟨a, cap, h1, h2, h3, h4⟩
theorem len (h : MemAt T lay w n₀ b v s) : s.xs.length ≤ 65536 := by have h1 := h.room; have h2 := h.top; omega
/-- The slice of a memory with a used cell. -/
theorem cell {j : Nat} (h : MemAt T lay w n₀ b v s) (hj : j < s.xs.length) : ∃ g cap z, v = .slice (some ⟨g, 0, none⟩) s.xs.length cap ∧ s.xs[j]? = some z ∧ w.cell? ⟨g, j, none⟩ = some (.int .i64 z) ∧ w.frozen? ⟨g, j, none⟩ = false ∧ g ≠ b ∨ T = 2 := by
  by_cases hT : T = 2
  · exact ⟨0, 0, 0, .inr hT⟩
  have hr := h.row
  have hnr := h.not_row hT
  rcases hr.2 with ⟨rfl, h0⟩ | ⟨g, cap, cur, rfl, hg, _⟩
  · omega
  · refine ⟨g, cap, s.xs[j], .inl ⟨rfl, List.getElem?_eq_getElem hj, ?_, hr.frozenAt j, fun e => hnr (by rw [e]; rfl)⟩⟩
    rw [hr.cellAt j (by omega)]
    simp [hj]
/-- A store into the row. -/
theorem stored {g cap j : Nat} (h : MemAt T lay w n₀ b (.slice (some ⟨g, 0, none⟩) s.xs.length cap) s) (hT : T ≠ 2) (x : Int) :
    MemAt T lay (w.setCell ⟨g, j, none⟩ (.int .i64 x)) n₀ b (.slice (some ⟨g, 0, none⟩) s.xs.length cap) { s with xs := s.xs.set j x } := by
  have hne := h.not_row hT
  obtain ⟨hs, hg⟩ := h.row.stored j (.int .i64 x)
  refine ⟨h.le, (Below.heap_setCell w ⟨g, j, none⟩ _ b (fun e => hne (by show some g = some b; rw [e]))).trans h.box, ?_, by simpa using h.room, h.top⟩
  show World.ownsRow _ n₀ 2 1 _ (s.xs.set j x).length (cellsOf (s.xs.set j x))
  rw [List.length_set]
  have : cellsOf (s.xs.set j x) = (cellsOf s.xs).set j (.int .i64 x) := by simp [cellsOf, List.map_set]
  rw [this]
  exact hs
/-- Behind an append to the row: the box lies as it lay, and is not the new row. -/
theorem appended {w1 : World} {ws : List Int} {g cap m : Nat} (h : MemAt T lay w n₀ b v s) (hT : T ≠ 2) (hm : ws.length = m) (hown : w1.ownsRow n₀ 2 1 (.slice (some ⟨g, 0, none⟩) (s.xs.length + m) cap) (s.xs.length + m) (cellsOf s.xs ++ cellsOf ws)) (hg : w.grownBy w1 v.ownBlock) :
    w1.heap[b]? = some (.cells (lay v s.size s.count s.odd s.ref) T) ∧ g ≠ b ∧ Row w1 n₀ 2 (.slice (some ⟨g, 0, none⟩) (s.xs.length + m) cap) (s.xs ++ ws) := by
  have hb : w1.heap[b]? = some (.cells (lay v s.size s.count s.odd s.ref) T) := (hg.block b (h.lt b (.inl rfl)).2 (fun e => h.not_row hT e.symm)).trans h.box
  refine ⟨hb, ?_, ?_⟩
  · intro e
    subst e
    rcases hown.2 with ⟨h0, _⟩ | ⟨g', cap', cur, h', _, hgb, _⟩
    · cases h0
    · cases h'
      have := hb.symm.trans hgb
      simp at this
      exact hT this.2
  · show World.ownsRow _ n₀ 2 1 _ (s.xs ++ ws).length (cellsOf (s.xs ++ ws))
    rw [List.length_append, hm, cellsOf, List.map_append]
    exact hown
end MemAt

/-- What a call leaves of the memory at b: another state; of what lay, its own blocks alone have turned; a block of it that was none is new. -/
def Does (T : TypeId) (lay : Value → Int → Int → Int → Int → Array Value) (n₀ b : Nat) (v : Value) (s' : Mst) (w w' : World) : Prop :=
  ∃ v', MemAt T lay w' n₀ b v' s' ∧ Turned (Foot b v) w w' ∧ ∀ k, Foot b v' k → Foot b v k ∨ w.heap.size ≤ k
theorem Does.same {T : TypeId} {lay : Value → Int → Int → Int → Int → Array Value} {n₀ b : Nat} {v : Value} {s' : Mst} {w w' : World} (h : MemAt T lay w' n₀ b v s') (t : Turned (Foot b v) w w') : Does T lay n₀ b v s' w w' := ⟨v, h, t, fun _ e => .inl e⟩

/-- A used cell of a memory, where it lies. -/
theorem MemAt.cellAt {T : TypeId} {lay : Value → Int → Int → Int → Int → Array Value} {w : World} {n₀ b : Nat} {v : Value} {s : Mst} {j : Nat} (h : MemAt T lay w n₀ b v s) (hT : T ≠ 2) (hj : j < s.xs.length) : ∃ g cap z, v = .slice (some ⟨g, 0, none⟩) s.xs.length cap ∧ s.xs[j]? = some z ∧ w.cell? ⟨g, j, none⟩ = some (.int .i64 z) ∧ w.frozen? ⟨g, j, none⟩ = false ∧ g ≠ b := by
  obtain ⟨g, cap, z, h' | h'⟩ := h.cell hj
  · exact ⟨g, cap, z, h'⟩
  · exact (hT h').elim

abbrev PMem := MemAt 66 layP
abbrev DMem := MemAt 70 layD

theorem PMem.opened {w : World} {n₀ b : Nat} {v : Value} {s : Mst} (h : PMem w n₀ b v s) : (w.cell? ⟨b, 0, none⟩ = some v ∧ w.cell? ⟨b, 1, none⟩ = some (.int .i64 s.size) ∧ w.cell? ⟨b, 2, none⟩ = some (.int .i64 s.count) ∧ w.cell? ⟨b, 3, none⟩ = some (.int .i64 s.odd) ∧ w.cell? ⟨b, 4, none⟩ = some (.int .i64 s.ref)) ∧ ∀ i, w.frozen? ⟨b, i, none⟩ = false := by
  have hb := h.box
  simp [World.cell?, World.frozen?, hb, layP]
theorem DMem.opened {w : World} {n₀ b : Nat} {v : Value} {s : Mst} (h : DMem w n₀ b v s) : (w.cell? ⟨b, 1, none⟩ = some v ∧ w.cell? ⟨b, 0, none⟩ = some (.int .i64 s.size) ∧ w.cell? ⟨b, 2, none⟩ = some (.int .i64 s.count) ∧ w.cell? ⟨b, 3, none⟩ = some (.int .i64 s.odd) ∧ w.cell? ⟨b, 4, none⟩ = some (.int .i64 s.ref)) ∧ ∀ i, w.frozen? ⟨b, i, none⟩ = false := by
  have hb := h.box
  simp [World.cell?, World.frozen?, hb, layD]

/-- A cell of the box, turned. -/
theorem box_set {w : World} {b i : Nat} {cs : Array Value} {T : TypeId} (x : Value) (h : w.heap[b]? = some (.cells cs T)) : (w.setCell ⟨b, i, none⟩ x).heap[b]? = some (.cells (cs.set! i x) T) := by
  simp [World.setCell, Array.getElem?_modify, h]
end Go.Proofs.Ytgialpjdfeldeaa

/-! Slices of pairs of numbers (api.Spot, api.Pair): how they read ('PReads'), rows of one's own ('PRow'), appends to them, a box that holds one ('Pst', 'Coll'). -/
namespace Go.Proofs.Ytgialpjdfeldeaa
open Go.RowKit

/-- The cells of pairs, one behind the other. -/
def flat : List (Int × Int) → List Value
  | [] => []
  | p :: xs => .int .i64 p.1 :: .int .i64 p.2 :: flat xs
theorem flat_append : (xs ys : List (Int × Int)) → flat (xs ++ ys) = flat xs ++ flat ys
  | [], _ => rfl
  | p :: xs, ys => by simp [flat, flat_append xs ys]
theorem flat_length : (xs : List (Int × Int)) → (flat xs).length = xs.length * 2
  | [] => rfl
  | p :: xs => by simp [flat, flat_length xs]; omega
theorem flat_at : {xs : List (Int × Int)} → {j : Nat} → {p : Int × Int} → xs[j]? = some p → (flat xs)[j * 2]? = some (.int .i64 p.1) ∧ (flat xs)[j * 2 + 1]? = some (.int .i64 p.2)
  | x :: xs, 0, p, h => by
    obtain rfl : x = p := by simpa using h
    exact ⟨rfl, rfl⟩
  | x :: xs, j + 1, p, h => by
    have := flat_at (xs := xs) (j := j) (p := p) (by simpa using h)
    rw [show (j + 1) * 2 = j * 2 + 1 + 1 by omega]
    simpa [flat] using this
theorem flat_of : {xs : List (Int × Int)} → {j : Nat} → {u : Value} → (flat xs)[j]? = some u → ∃ i p, xs[i]? = some p ∧ ((j = i * 2 ∧ u = .int .i64 p.1) ∨ (j = i * 2 + 1 ∧ u = .int .i64 p.2))
  | x :: _, 0, u, h => ⟨0, x, rfl, .inl ⟨rfl, by simpa [flat] using h.symm⟩⟩
  | x :: _, 1, u, h => ⟨0, x, rfl, .inr ⟨rfl, by simpa [flat] using h.symm⟩⟩
  | x :: xs, j + 2, u, h => by
    obtain ⟨i, p, h1, h2⟩ := flat_of (xs := xs) (j := j) (u := u) (by simpa [flat] using h)
    refine ⟨i + 1, p, by simpa using h1, ?_⟩
    rcases h2 with ⟨e, h⟩ | ⟨e, h⟩
    · exact .inl ⟨by omega, h⟩
    · exact .inr ⟨by omega, h⟩
theorem flat_one : (xs : List (Int × Int)) → ∀ u ∈ flat xs, u.oneCell' = true
  | [] => by simp [flat]
  | p :: xs => by
    intro u hu
    simp only [flat, List.mem_cons] at hu
    rcases hu with rfl | rfl | hu
    · rfl
    · rfl
    · exact flat_one xs u hu

/-- A slice value that reads as these pairs. -/
def PReads (w : World) (a : Option Addr) (xs : List (Int × Int)) : Prop :=
  xs = [] ∨ ∃ bl off, a = some ⟨bl, off, none⟩ ∧ ∀ j p, xs[j]? = some p → w.cell? ⟨bl, off + j * 2, none⟩ = some (.int .i64 p.1) ∧ w.cell? ⟨bl, off + (j * 2 + 1), none⟩ = some (.int .i64 p.2)
theorem PReads.turned {w w' : World} {a : Option Addr} {xs : List (Int × Int)} (h : PReads w a xs) {R : Nat → Prop} (ht : Turned R w w') (hR : ∀ k, k < w.heap.size → (∃ ad, a = some ad ∧ ad.block = k) → ¬ R k) : PReads w' a xs := by
  rcases h with h | ⟨bl, off, rfl, h⟩
  · exact .inl h
  · refine .inr ⟨bl, off, rfl, fun j p hp => ?_⟩
    have hc := h j p hp
    have hn := hR bl (World.block_lt_of_cell? _ _ hc.1) ⟨_, rfl, rfl⟩
    exact ⟨ht.cell hc.1 hn, ht.cell hc.2 hn⟩
theorem PReads.kept {w w' : World} {a : Option Addr} {xs : List (Int × Int)} (h : PReads w a xs) (ht : Kept w w') : PReads w' a xs := h.turned ht (fun _ _ _ e => e)
theorem PReads.at {w : World} {a : Option Addr} {xs : List (Int × Int)} (h : PReads w a xs) {j : Nat} {p : Int × Int} (hp : xs[j]? = some p) : ∃ bl off, a = some ⟨bl, off, none⟩ ∧ bl < w.heap.size ∧ w.cell? ⟨bl, off + j * 2, none⟩ = some (.int .i64 p.1) ∧ w.cell? ⟨bl, off + (j * 2 + 1), none⟩ = some (.int .i64 p.2) := by
  rcases h with h | ⟨bl, off, ha, hc⟩
  · rw [h] at hp
    simp at hp
  · exact ⟨bl, off, ha, World.block_lt_of_cell? _ _ (hc j p hp).1, hc j p hp⟩
theorem PReads.news {w : World} {bl off : Nat} {xs : List (Int × Int)} (h : ∀ j p, xs[j]? = some p → w.cell? ⟨bl, off + j * 2, none⟩ = some (.int .i64 p.1) ∧ w.cell? ⟨bl, off + (j * 2 + 1), none⟩ = some (.int .i64 p.2)) :
    ∀ (j : Nat) (u : Value), (flat xs)[j]? = some u → w.cell? ((⟨bl, off, none⟩ : Addr).add j) = some u := by
  intro j u hu
  obtain ⟨i, p, h1, ⟨rfl, rfl⟩ | ⟨rfl, rfl⟩⟩ := flat_of hu
  · rcases i with _ | i
    · simpa [Addr.add] using (h 0 p h1).1
    · exact (h (i + 1) p h1).1
  · exact (h i p h1).2

/-- A slice of pairs that owns its row, from n₀ on. -/
abbrev PRow (w : World) (n₀ : Nat) (E : TypeId) (v : Value) (xs : List (Int × Int)) : Prop := w.ownsRow n₀ E 2 v xs.length (flat xs)
theorem PRow.reads {w : World} {n₀ : Nat} {E : TypeId} {v : Value} {xs : List (Int × Int)} (h : PRow w n₀ E v xs) : ∃ a cap, v = .slice a xs.length cap ∧ PReads w a xs ∧ xs.length ≤ cap ∧ cap ≤ maxLen ∧ (a = none → cap = 0) ∧ ∀ ad, a = some ad → n₀ ≤ ad.block := by
  rcases h.2 with ⟨rfl, h0⟩ | ⟨g, cap, cur, rfl, hg, _, hc, hm, _⟩
  · obtain rfl := List.length_eq_zero_iff.1 h0
    exact ⟨none, 0, rfl, .inl rfl, Nat.le_refl _, Nat.zero_le _, fun _ => rfl, fun _ e => by cases e⟩
  · refine ⟨_, cap, rfl, .inr ⟨g, 0, rfl, fun j p hp => ?_⟩, hc, hm, fun e => (by cases e), fun ad e => by cases e; exact hg⟩
    have hj := (List.getElem?_eq_some_iff.1 hp).1
    rw [Nat.zero_add, Nat.zero_add, h.cellAt (j * 2) (by omega), h.cellAt (j * 2 + 1) (by omega)]
    exact flat_at hp
theorem PRow.turned {w w' : World} {n₀ : Nat} {E : TypeId} {v : Value} {xs : List (Int × Int)} (h : PRow w n₀ E v xs) {R : Nat → Prop} (ht : Turned R w w') (hn : ∀ g, v.ownBlock = some g → ¬ R g) : PRow w' n₀ E v xs := by
  obtain ⟨h1, h2⟩ := h
  refine ⟨h1, ?_⟩
  rcases h2 with h2 | ⟨g, cap, cur, rfl, hg, hh, r⟩
  · exact .inl h2
  · exact .inr ⟨g, cap, cur, rfl, hg, ht.heap hh (hn g rfl), r⟩
theorem PRow.kept {w w' : World} {n₀ : Nat} {E : TypeId} {v : Value} {xs : List (Int × Int)} (h : PRow w n₀ E v xs) (ht : Kept w w') : PRow w' n₀ E v xs := h.turned ht (fun _ _ e => e)
theorem PRow.low {w : World} {n₀ m : Nat} {E : TypeId} {v : Value} {xs : List (Int × Int)} (h : PRow w n₀ E v xs) (hm : m ≤ n₀) : PRow w m E v xs := by
  obtain ⟨h1, h2⟩ := h
  refine ⟨h1, ?_⟩
  rcases h2 with h2 | ⟨g, cap, cur, rfl, hg, r⟩
  · exact .inl h2
  · exact .inr ⟨g, cap, cur, rfl, Nat.le_trans hm hg, r⟩
theorem PRow.nil (w : World) (n₀ : Nat) (E : TypeId) : PRow w n₀ E (.slice none 0 0) [] := ⟨rfl, .inl ⟨rfl, rfl⟩⟩

/-- The type of a slice, S, and of its elements, E: pairs of numbers. -/
structure PT (S E : TypeId) : Prop where
  under : Try.prog.underlying S = some (.slice E)
  info : (Try.prog.info? E).map (fun i => (i.zero, i.size, i.bytes)) = some (some (.agg #[.int .i64 0, .int .i64 0]), 2, 16)
theorem ptP : PT 31 30 := ⟨Try.underlying31, by kernel_rfl⟩

/-- Two cells of a new block. -/
theorem two_cells {w : World} {m : Nat} {x y : Int} {E : TypeId} (h : w.heap[m]? = some (.cells #[.int .i64 x, .int .i64 y] E)) : ∀ (j : Nat) (u : Value), (flat [(x, y)])[j]? = some u → w.cell? ((⟨m, 0, none⟩ : Addr).add j) = some u := by
  refine PReads.news (fun j p hp => ?_)
  rcases j with _ | j
  · simp at hp
    subst hp
    simp [World.cell?, h]
  · simp at hp

section
variable {S E : TypeId} {w : World} {ops : Array Oper} {rest : List Oper} {o : Oper} {a : Act} {Q : Exit → Act → World → Prop}
/-- append of one pair. -/
theorem wpList_append_pair (pt : PT S E) (hgd : o.guard = none) (s x : Operand) (ho : o.op = .call { callee := .builtin .append, args := #[s, x], argTypes := #[S, S] })
    (base : Nat) (v : Value) (xs ys : List (Int × Int)) (hs : a.eval s = v) (hown : PRow w base E v xs) (m : Nat) (p q : Int) (hx : a.eval x = .slice (some ⟨m, 0, none⟩) 1 1) (hc : w.heap[m]? = some (.cells #[.int .i64 p, .int .i64 q] E))
    (hl : xs.length ≤ 1000000) (hbase : base ≤ w.heap.size) (hy : ys = xs ++ [(p, q)])
    (h : ∀ v' w', PRow w' base E v' ys → w.grownBy w' v.ownBlock → (v'.ownBlock = v.ownBlock ∨ v'.ownBlock = some w.heap.size) → wpList Try.prog ops Q rest (a.put o.dst v') w') : wpList Try.prog ops Q (o :: rest) a w := by
  obtain ⟨i0, hi, hz0, hz1, hz2⟩ := info_parts pt.info
  refine wpList_append_own_at w hgd s x S ho base E i0 _ 2 16 pt.under hi hz0 hz1 hz2 rfl (by decide) v xs.length (flat xs) hs hown ⟨m, 0, none⟩ 1 1 (flat [(p, q)]) hx rfl (two_cells hc) (flat_one _) (by unfold maxLen; omega) (by omega) hbase ?_
  intro v' w' h1 h2 _ h4
  refine h v' w' ?_ h2 h4
  rw [hy]
  show World.ownsRow _ _ _ _ _ (xs ++ [(p, q)]).length (flat (xs ++ [(p, q)]))
  rw [List.length_append, flat_append]
  exact h1
theorem wpListIn_append_pair {F : Fence} {nF : Nat} (pt : PT S E) (hgd : o.guard = none) (s x : Operand) (ho : o.op = .call { callee := .builtin .append, args := #[s, x], argTypes := #[S, S] })
    (base : Nat) (v : Value) (xs ys : List (Int × Int)) (hs : a.eval s = v) (hown : PRow w base E v xs) (m : Nat) (p q : Int) (hx : a.eval x = .slice (some ⟨m, 0, none⟩) 1 1) (hc : w.heap[m]? = some (.cells #[.int .i64 p, .int .i64 q] E))
    (hl : xs.length ≤ 1000000) (hbase : base ≤ w.heap.size) (hy : ys = xs ++ [(p, q)])
    (h : ∀ v' w', PRow w' base E v' ys → w.grownBy w' v.ownBlock → (v'.ownBlock = v.ownBlock ∨ v'.ownBlock = some w.heap.size) → wpListIn F nF Try.prog ops Q rest (a.put o.dst v') w') : wpListIn F nF Try.prog ops Q (o :: rest) a w := by
  obtain ⟨i0, hi, hz0, hz1, hz2⟩ := info_parts pt.info
  refine wpListIn_append_own_at w hgd s x S ho base E i0 _ 2 16 pt.under hi hz0 hz1 hz2 rfl (by decide) v xs.length (flat xs) hs hown ⟨m, 0, none⟩ 1 1 (flat [(p, q)]) hx rfl (two_cells hc) (flat_one _) (by unfold maxLen; omega) (by omega) hbase ?_
  intro v' w' h1 h2 _ h4
  refine h v' w' ?_ h2 h4
  rw [hy]
  show World.ownsRow _ _ _ _ _ (xs ++ [(p, q)]).length (flat (xs ++ [(p, q)]))
  rw [List.length_append, flat_append]
  exact h1
/-- append of a slice of pairs. -/
theorem wpList_append_pairs (pt : PT S E) (hgd : o.guard = none) (s x : Operand) (ho : o.op = .call { callee := .builtin .append, args := #[s, x], argTypes := #[S, S] })
    (base : Nat) (v : Value) (xs zs ys : List (Int × Int)) (hs : a.eval s = v) (hown : PRow w base E v xs) (aw : Option Addr) (M cw : Nat) (hM : zs.length = M) (hx : a.eval x = .slice aw M cw) (hr : PReads w aw zs) (h0 : aw = none → cw = 0)
    (hl : xs.length + zs.length ≤ 1000000) (hbase : base ≤ w.heap.size) (hy : ys = xs ++ zs)
    (h : ∀ v' w', PRow w' base E v' ys → w.grownBy w' v.ownBlock → (v'.ownBlock = v.ownBlock ∨ v'.ownBlock = some w.heap.size) → wpList Try.prog ops Q rest (a.put o.dst v') w') : wpList Try.prog ops Q (o :: rest) a w := by
  obtain ⟨i0, hi, hz0, hz1, hz2⟩ := info_parts pt.info
  have fin : ∀ v' w', w'.ownsRow base E 2 v' (xs.length + zs.length) (flat xs ++ flat zs) → PRow w' base E v' ys := fun v' w' h1 => by
    rw [hy]
    show World.ownsRow _ _ _ _ _ (xs ++ zs).length (flat (xs ++ zs))
    rw [List.length_append, flat_append]
    exact h1
  subst hM
  cases aw with
  | none =>
    have e0 : zs = [] := by
      rcases hr with e | ⟨_, _, e, _⟩
      · exact e
      · cases e
    subst e0
    obtain rfl := h0 rfl
    refine wpList_plain hgd fun K hK => ?_
    have hrun := run_append_owned_none (P := Try.prog) (w := w) base S o.type E i0 2 pt.under hi v xs.length (flat xs) hown
    unfold Oper.wp execOp
    simp only [ho, resolve, invoke, builtin, Sem.run_bind, Sem.run_pure, Result.andThen_ok, List.map_toArray, List.map_cons, List.map_nil, hs, hx, List.length_nil, hrun]
    exact hK _ _ (h v w (by rw [hy, List.append_nil]; exact hown) (World.grownBy.refl _ _) (.inl rfl))
  | some ad =>
    by_cases e0 : zs = []
    · subst e0
      exact wpList_append_own_at w hgd s x S ho base E i0 _ 2 16 pt.under hi hz0 hz1 hz2 rfl (by decide) v xs.length (flat xs) hs hown ad 0 cw [] hx rfl (by simp) (by simp) (by simp at hl; unfold maxLen; omega) (by simp at hl; omega) hbase (fun v' w' h1 h2 _ h4 => h v' w' (fin v' w' (by simpa [flat] using h1)) h2 h4)
    · obtain ⟨bl, off, e, hrow⟩ : ∃ bl off, some ad = some ⟨bl, off, none⟩ ∧ ∀ j p, zs[j]? = some p → w.cell? ⟨bl, off + j * 2, none⟩ = some (.int .i64 p.1) ∧ w.cell? ⟨bl, off + (j * 2 + 1), none⟩ = some (.int .i64 p.2) := by
        rcases hr with e | h
        · exact (e0 e).elim
        · exact h
      obtain rfl : ad = ⟨bl, off, none⟩ := Option.some.inj e
      exact wpList_append_own_at w hgd s x S ho base E i0 _ 2 16 pt.under hi hz0 hz1 hz2 rfl (by decide) v xs.length (flat xs) hs hown ⟨bl, off, none⟩ zs.length cw (flat zs) hx (flat_length _) (PReads.news hrow) (flat_one _) (by unfold maxLen; omega) (by omega) hbase (fun v' w' h1 h2 _ h4 => h v' w' (fin v' w' h1) h2 h4)
end
/-- Behind an append to a row that is new since w0, what lay at w0 lies as it lay. -/
theorem pkept_append {w0 w w1 : World} {E : TypeId} {v : Value} {xs : List (Int × Int)} (k : Kept w0 w) (hr : PRow w w0.heap.size E v xs) (hg : w.grownBy w1 v.ownBlock) : Kept w0 w1 :=
  k.own (O := fun j => v.ownBlock = some j) (fun i e => (hr.lt i e).1) (Turned.of_grownBy (R := fun j => v.ownBlock = some j) hg (fun _ h => h))

/-- A box at b that holds a slice of pairs, which owns its row; all from n₀ on. -/
structure Pst (S E : TypeId) (w : World) (n₀ b : Nat) (v : Value) (xs : List (Int × Int)) : Prop where
  le : n₀ ≤ b
  box : Boxed w b S v
  row : PRow w n₀ E v xs
namespace Pst
variable {S E : TypeId} {w w' : World} {n₀ b : Nat} {v : Value} {xs : List (Int × Int)}
theorem turned (h : Pst S E w n₀ b v xs) {R : Nat → Prop} (ht : Turned R w w') (hn : ∀ k, Foot b v k → ¬ R k) : Pst S E w' n₀ b v xs :=
  ⟨h.le, ht.boxed h.box (hn b (.inl rfl)), h.row.turned ht (fun g hg => hn g (.inr hg))⟩
theorem kept (h : Pst S E w n₀ b v xs) (ht : Kept w w') : Pst S E w' n₀ b v xs := h.turned ht (fun _ _ e => e)
theorem lt (h : Pst S E w n₀ b v xs) : ∀ k, Foot b v k → n₀ ≤ k ∧ k < w.heap.size := by
  rintro k (rfl | hk)
  · exact ⟨h.le, h.box.lt⟩
  · exact h.row.lt k hk
end Pst
/-- What collecting one more leaves. -/
def Grew (S E : TypeId) (n₀ b : Nat) (v : Value) (ys : List (Int × Int)) (w w' : World) : Prop :=
  ∃ v', Pst S E w' n₀ b v' ys ∧ Turned (Foot b v) w w' ∧ ∀ k, Foot b v' k → Foot b v k ∨ w.heap.size ≤ k
theorem grew_of {S E : TypeId} {w w1 : World} {n₀ b : Nat} {v v' : Value} {xs ys : List (Int × Int)} {tmp : Obj} (hSE : S ≠ E) (hn : n₀ ≤ w.heap.size) (h : Pst S E w n₀ b v xs)
    (hown : PRow w1 n₀ E v' ys) (hgrow : (w.alloc tmp).grownBy w1 v.ownBlock) (hnew : v'.ownBlock = v.ownBlock ∨ v'.ownBlock = some (w.alloc tmp).heap.size) :
    Boxed w1 b S v ∧ Grew S E n₀ b v ys w (w1.setCell ⟨b, 0, none⟩ v') := by
  obtain ⟨hv1, hv2, hr2, hk2, hb2⟩ := h.box.appended hSE h.row hn h.le hown hgrow
  refine ⟨hv1, v', ⟨h.le, hv2, hr2⟩, ?_, ?_⟩
  · have h1 : Turned (Foot b v) w (w.alloc tmp) := Turned.alloc _ _ _
    have h2 : Turned (Foot b v) (w.alloc tmp) w1 := Turned.of_grownBy hgrow (fun k hk => .inr hk)
    have h3 : Turned (Foot b v) w1 (w1.setCell ⟨b, 0, none⟩ v') := Turned.setCell _ _ _ (.inl rfl)
    exact (h1.trans h2 (fun _ h => h) (fun _ _ h => h)).trans h3 (fun _ h => h) (fun _ _ h => h)
  · rintro k (rfl | hk)
    · exact .inl (.inl rfl)
    · rcases hnew with e | e
      · exact .inl (.inr (by rw [← e]; exact hk))
      · right
        rw [e] at hk
        simp at hk
        omega
/-- The invariant of a loop that collects pairs in a box at b. -/
def Coll (S E : TypeId) (n₀ b : Nat) (f : List (Int × Int) → List (Int × Int)) : Inv (Int × Int) := fun O pre A => ∃ v, (∀ j, O j ↔ Foot b v j) ∧ Pst S E A n₀ b v (f pre)
theorem Coll.good (S E : TypeId) (n₀ b : Nat) (f : List (Int × Int) → List (Int × Int)) : Good (Coll S E n₀ b f) := by
  constructor
  · rintro O pre A B ⟨v, hO, hp⟩ ht
    exact ⟨v, hO, hp.turned ht (fun k hk hn => hn ((hO k).2 hk))⟩
  · rintro O pre A ⟨v, hO, hp⟩ k hk
    exact (hp.lt k ((hO k).1 hk)).2
/-- One more has come. -/
theorem Coll.next {S E : TypeId} {n₀ b : Nat} {f : List (Int × Int) → List (Int × Int)} {O : Nat → Prop} {pre ys : List (Int × Int)} {v : Value} {A A' : World} (hO : ∀ j, O j ↔ Foot b v j) (h : Grew S E n₀ b v ys A A') (e : f pre = ys) :
    ∃ O', Sub O' O A.heap.size ∧ Turned O A A' ∧ Coll S E n₀ b f O' pre A' := by
  obtain ⟨v', hp, ht, hs⟩ := h
  refine ⟨Foot b v', fun k hk => (hs k hk).imp (fun h => (hO k).2 h) id, ht.mono (fun k _ hk => (hO k).2 hk), v', fun _ => Iff.rfl, by rw [e]; exact hp⟩
theorem good_false {α : Type} : Good (fun (_ : Nat → Prop) (_ : List α) (_ : World) => False) := ⟨fun _ _ _ _ h _ => h, fun _ _ _ h => h.elim⟩
end Go.Proofs.Ytgialpjdfeldeaa

/-! What functions of Go's library answer at this program: the library's own contracts (Derived.Shelf), laid at this program's numbers by the guide's lay-shelf.mjs and written plainly by lay-plain.mjs. Conditions: each theorem's own. -/
namespace Go.Proofs.Ytgialpjdfeldeaa
open Go.Shelf
def lays129_ren : Go.Shelf.Ren := ⟨fun | 129 => 112 | n => n, fun | 53 => 115 | 3 => 3 | 4 => 4 | 46 => 111 | 5 => 5 | 9 => 9 | n => n, fun | n => n⟩
theorem lays129 : Go.Proofs.Lays.n129 Try.prog lays129_ren := {
  mixed := by kernel_rfl
  f129 := Try.func112.trans (congrArg some (by kernel_rfl))
  t3 := Try.underlying3
  a3 := Try.isAgg3
  z3 := Try.sizeOf3
  v3 := Try.zeroValue3
  t4 := Try.underlying4
  a4 := Try.isAgg4
  z4 := Try.sizeOf4
  v4 := Try.zeroValue4
  t5 := Try.underlying5
  a5 := Try.isAgg5
  z5 := Try.sizeOf5
  v5 := Try.zeroValue5
  t9 := Try.underlying9
  a9 := Try.isAgg9
  z9 := Try.sizeOf9
  v9 := Try.zeroValue9
  t46 := Try.underlying111
  a46 := Try.isAgg111
  z46 := Try.sizeOf111
  v46 := Try.zeroValue111
  t53 := Try.underlying115
  a53 := Try.isAgg115
  z53 := Try.sizeOf115
  v53 := Try.zeroValue115 }
theorem bits_Len64 (x : Int) (w : World) (h0 : 0 ≤ x) (h1 : x ≤ 18446744073709551615) :
    Calls Try.prog 112 #[.int .u64 x] w fun e w' => e = .returned (.int .i64 (Lib.bitLen x.toNat)) ∧ w' = w := Any.bits_Len64 lays129 x w h0 h1
end Go.Proofs.Ytgialpjdfeldeaa

/-! The plain arithmetic of chapter 2: gaps, shares, roots, digits, sums and products as functions of whole numbers, and what holds of them; no Go in sight. -/
namespace Go.Proofs.Ytgialpjdfeldeaa.Pt
open Go

def gapZ (a b : Int) : Int := if b < a then 0 else b - a
def shareZ (p w n : Int) : Int := if 1 ≤ w ∧ 1 ≤ n ∧ n ≤ 65536 then min p w * n / w else 0
def sqN : Nat → Nat
  | 0 => 0
  | n + 1 => if (sqN n + 1) * (sqN n + 1) ≤ n + 1 then sqN n + 1 else sqN n
def rootZ (n : Int) : Int := (sqN n.toNat : Int)
def bitsZ (n : Int) : Int := (Lib.bitLen n.toNat : Int)
def plusZ (a b : Int) : Int := if 0 ≤ a ∧ 0 ≤ b then min (a + b) 9223372036854775807 else 0
def timesZ (a b : Int) : Int := if 0 ≤ a ∧ 0 ≤ b then min (a * b) 9223372036854775807 else 0

/-! ### Roots -/
theorem sqN_spec (n : Nat) : sqN n * sqN n ≤ n ∧ n < (sqN n + 1) * (sqN n + 1) := by
  induction n with
  | zero => simp [sqN]
  | succ n ih =>
    obtain ⟨h1, h2⟩ := ih
    unfold sqN
    split
    · rename_i h
      refine ⟨h, ?_⟩
      generalize sqN n = r at h1 h2 h
      have e : (r + 1 + 1) * (r + 1 + 1) = (r + 1) * (r + 1) + 2 * r + 3 := by
        simp only [Nat.mul_add, Nat.add_mul]; omega
      omega
    · rename_i h
      exact ⟨by omega, by omega⟩

theorem mul_self_lt {a b : Int} (ha : 0 ≤ a) (h : a < b) : a * a < b * b := by
  have h1 : a * a ≤ a * b := Int.mul_le_mul_of_nonneg_left (by omega) ha
  have h2 : a * b < b * b := Int.mul_lt_mul_of_pos_right h (by omega)
  omega
theorem mul_self_le {a b : Int} (ha : 0 ≤ a) (h : a ≤ b) : a * a ≤ b * b := by
  have h1 : a * a ≤ a * b := Int.mul_le_mul_of_nonneg_left h ha
  have h2 : a * b ≤ b * b := Int.mul_le_mul_of_nonneg_right h (by omega)
  omega
theorem lt_of_self {a b : Int} (hb : 0 ≤ b) (h : a * a < b * b) : a < b := by
  rcases Int.lt_or_le a b with g | g
  · exact g
  · have := mul_self_le hb g
    omega

theorem root_spec {n : Int} (h : 0 ≤ n) : 0 ≤ rootZ n ∧ rootZ n * rootZ n ≤ n ∧ n < (rootZ n + 1) * (rootZ n + 1) := by
  obtain ⟨h1, h2⟩ := sqN_spec n.toNat
  unfold rootZ
  refine ⟨by omega, ?_, ?_⟩
  · rw [← Int.natCast_mul]; omega
  · have e : ((sqN n.toNat : Int) + 1) * ((sqN n.toNat : Int) + 1) = (((sqN n.toNat + 1) * (sqN n.toNat + 1) : Nat) : Int) := by
      rw [Int.natCast_mul, Int.natCast_add]; rfl
    rw [e]; omega
theorem root_unique {n r : Int} (hr : 0 ≤ r) (h1 : r * r ≤ n) (h2 : n < (r + 1) * (r + 1)) : rootZ n = r := by
  have hn : 0 ≤ n := Int.le_trans (Int.mul_nonneg hr hr) h1
  obtain ⟨g0, g1, g2⟩ := root_spec hn
  have a1 := lt_of_self (a := r) (b := rootZ n + 1) (by omega) (by omega)
  have a2 := lt_of_self (a := rootZ n) (b := r + 1) (by omega) (by omega)
  omega
theorem root_none {n : Int} (h : n < 1) : rootZ n = 0 := by
  have e : n.toNat = 0 := by omega
  unfold rootZ
  rw [e]; rfl

/-- d is a power of two up to 2^31 -/
def Pw (d : Int) : Prop := ∃ k : Nat, k ≤ 31 ∧ d = ((2 ^ k : Nat) : Int)
theorem pw_bound {d : Int} (h : Pw d) : 1 ≤ d ∧ d ≤ 2147483648 := by
  obtain ⟨k, hk, rfl⟩ := h
  have h1 : 1 ≤ 2 ^ k := Nat.one_le_two_pow
  have h2 : 2 ^ k ≤ 2 ^ 31 := Nat.pow_le_pow_right (by omega) hk
  omega
theorem pw_half {d : Int} (h : Pw d) : (d = 1 ∧ d / 2 = 0) ∨ (d = 2 * (d / 2) ∧ Pw (d / 2)) := by
  obtain ⟨k, hk, rfl⟩ := h
  cases k with
  | zero => left; decide
  | succ k =>
    right
    have e : ((2 ^ (k + 1) : Nat) : Int) = 2 * ((2 ^ k : Nat) : Int) := by rw [Nat.pow_succ]; omega
    refine ⟨by omega, k, by omega, by omega⟩

def RInv (n r d : Int) : Prop := 0 ≤ r ∧ r * r ≤ n ∧ ((d = 0 ∧ n < (r + 1) * (r + 1)) ∨ (Pw d ∧ n < (r + 2 * d) * (r + 2 * d)))
theorem rinv_bound {n r d : Int} (hn : n ≤ 9223372036854775807) (h : RInv n r d) : 0 ≤ r ∧ r ≤ 3037000499 ∧ 0 ≤ d ∧ d ≤ 2147483648 := by
  obtain ⟨h0, h1, h2⟩ := h
  have a := lt_of_self (a := r) (b := 3037000500) (by omega) (by omega)
  rcases h2 with ⟨rfl, _⟩ | ⟨h2, _⟩
  · omega
  · have := pw_bound h2; omega
theorem rinv_up {n r d : Int} (h : RInv n r d) (hd : 0 < d) (hc : (r + d) * (r + d) ≤ n) : RInv n (r + d) (d / 2) := by
  obtain ⟨h0, h1, h2⟩ := h
  rcases h2 with ⟨rfl, _⟩ | ⟨h2, h3⟩
  · omega
  · refine ⟨by omega, hc, ?_⟩
    have e : r + d + d = r + 2 * d := by omega
    rcases pw_half h2 with ⟨g1, g2⟩ | ⟨g1, g2⟩
    · left
      refine ⟨g2, ?_⟩
      have e1 : r + d + 1 = r + 2 * d := by omega
      rw [e1]; exact h3
    · right
      refine ⟨g2, ?_⟩
      have e1 : r + d + 2 * (d / 2) = r + 2 * d := by omega
      rw [e1]; exact h3
theorem rinv_stay {n r d : Int} (h : RInv n r d) (hd : 0 < d) (hc : n < (r + d) * (r + d)) : RInv n r (d / 2) := by
  obtain ⟨h0, h1, h2⟩ := h
  rcases h2 with ⟨rfl, _⟩ | ⟨h2, h3⟩
  · omega
  · refine ⟨h0, h1, ?_⟩
    rcases pw_half h2 with ⟨g1, g2⟩ | ⟨g1, g2⟩
    · left
      refine ⟨g2, ?_⟩
      rw [← g1]; rw [g1] at hc ⊢; exact hc
    · right
      refine ⟨g2, ?_⟩
      rw [← g1]; exact hc
theorem rinv_end {n r : Int} (h : RInv n r 0) : rootZ n = r := by
  obtain ⟨h0, h1, h2⟩ := h
  rcases h2 with ⟨_, h3⟩ | ⟨h2, h3⟩
  · exact root_unique h0 h1 h3
  · have := pw_bound h2; omega
theorem le_quo {n t : Int} (ht : 0 < t) : t ≤ n / t ↔ t * t ≤ n := Int.le_ediv_iff_mul_le ht

/-! ### Digits -/
theorem bits_spec {n : Int} (h : 1 ≤ n) (h' : n ≤ 9223372036854775807) : ∃ L : Nat, bitsZ n = L ∧ 1 ≤ L ∧ L ≤ 63 ∧ ((2 ^ (L - 1) : Nat) : Int) ≤ n ∧ n < ((2 ^ L : Nat) : Int) := by
  obtain ⟨a, b, c⟩ := Lib.bitLenAux_bounds 64 n.toNat (by omega) (by omega)
  have d := Lib.bitLen_le n.toNat 63 (by omega) (by omega)
  refine ⟨Lib.bitLen n.toNat, rfl, a, d, ?_, ?_⟩
  · have b' : 2 ^ (Lib.bitLen n.toNat - 1) ≤ n.toNat := b
    omega
  · have c' : n.toNat < 2 ^ Lib.bitLen n.toNat := c
    omega
theorem bits_none {n : Int} (h : n < 1) : bitsZ n = 0 := by
  have e : n.toNat = 0 := by omega
  unfold bitsZ
  rw [e]; rfl
theorem bits_le (n : Int) (h' : n ≤ 9223372036854775807) : 0 ≤ bitsZ n ∧ bitsZ n ≤ 63 := by
  have d := Lib.bitLen_le n.toNat 63 (by omega) (by omega)
  unfold bitsZ
  omega
theorem bits_half {n : Int} (h : 0 < n) (h' : n ≤ 9223372036854775807) : bitsZ n = bitsZ (n / 2) + 1 := by
  have e := Lib.bitLen_half n.toNat (by omega) (by omega)
  have e2 : (n / 2).toNat = n.toNat / 2 := by omega
  unfold bitsZ
  rw [e2, e]; omega

theorem root_begin {n : Int} (h : 1 ≤ n) (h' : n ≤ 9223372036854775807) : RInv n 0 ((2 ^ ((bitsZ n - 1) / 2).toNat : Nat) : Int) := by
  obtain ⟨L, e, l1, l2, b1, b2⟩ := bits_spec h h'
  rw [e]
  have e2 : (((L : Int) - 1) / 2).toNat = (L - 1) / 2 := by omega
  rw [e2]
  refine ⟨by omega, by omega, Or.inr ⟨⟨(L - 1) / 2, by omega, rfl⟩, ?_⟩⟩
  have e3 : (0 + 2 * ((2 ^ ((L - 1) / 2) : Nat) : Int)) = ((2 ^ ((L - 1) / 2 + 1) : Nat) : Int) := by
    rw [Nat.pow_succ]; omega
  rw [e3, ← Int.natCast_mul, ← Nat.pow_add]
  have : 2 ^ L ≤ 2 ^ ((L - 1) / 2 + 1 + ((L - 1) / 2 + 1)) := Nat.pow_le_pow_right (by omega) (by omega)
  omega
end Go.Proofs.Ytgialpjdfeldeaa.Pt

/-! What span.Bits, span.Root, the document's Root and ordinatehand.Cut answer, each in one sentence (a contract), for every number that may be handed to them; no world is turned. (Carried from the text of stage 2.) -/
namespace Go.Proofs.Ytgialpjdfeldeaa.Pt
open Go.ChangeShapes Go.WideShapes Go.ChangeAt Go.RowKit

theorem wrap_same {a : Int} (h : -9223372036854775808 ≤ a) (h' : a ≤ 9223372036854775807) : wrap64 a = a := by
  unfold wrap64
  omega

theorem len_c (x : Int) (w : World) (h0 : 0 ≤ x) (h1 : x ≤ 18446744073709551615) :
    Calls Try.prog 112 #[.int .u64 x] w fun e w' => e = .returned (.int .i64 (bitsZ x)) ∧ w = w' :=
  (bits_Len64 x w h0 h1).mono fun _ _ ⟨a, b⟩ => ⟨a, b.symm⟩

theorem bits_c (n : Int) (hn : (Lit.int .i64 n).wf = true) (w : World) :
    Calls Try.prog 109 #[.int .i64 n] w fun e w' => e = .returned (.int .i64 (bitsZ n)) ∧ w = w' := by
  have hn' := bounds_i64 hn
  clear hn
  by_cases c : n < 1
  · rw [bits_none c]
    go_enter Try.func109, Try.ntmps109
    go_wp2
    go_ret
    exact ⟨rfl, rfl⟩
  · go_enter Try.func109, Try.ntmps109
    go_wp2_with (go_at_call 112; refine (len_c _ _ (by omega) (by omega)).mono ?_; rintro e w' ⟨rfl, rfl⟩)
    go_ret
    exact ⟨rfl, rfl⟩

theorem cut_plain (x n : Int) (hn : 0 < n) : x % n = if x.tmod n < 0 then x.tmod n + n else x.tmod n := by
  have e1 := Int.tmod_eq_emod (a := x) (b := n)
  have e2 := Int.emod_nonneg x (show n ≠ 0 by omega)
  have e3 := Int.emod_lt_of_pos x hn
  split <;> split at e1 <;> omega

theorem cut_c (x n : Int) (hn : 0 < n) (hn' : n ≤ 65536) (w : World) :
    Calls Try.prog 19 #[.int .i64 x, .int .i64 n] w fun e w' => e = .returned (.int .i64 (x % n)) ∧ w = w' := by
  have e1 := cut_plain x n hn
  have e2 := Int.emod_nonneg x (show n ≠ 0 by omega)
  have e3 := Int.emod_lt_of_pos x hn
  by_cases c1 : x.tmod n < 0
  · have ee : x % n = wrap64 (x.tmod n + n) := by
      rw [if_pos c1] at e1
      rw [wrap_same] <;> omega
    rw [ee]
    clear ee e1 e2 e3
    go_enter Try.func19, Try.ntmps19
    go_wp2
    go_ret
    exact ⟨rfl, rfl⟩
  · have ee : x % n = x.tmod n := by
      rw [if_neg c1] at e1
      omega
    rw [ee]
    clear ee e1 e2 e3
    go_enter Try.func19, Try.ntmps19
    go_wp2
    go_ret
    exact ⟨rfl, rfl⟩

theorem hide {p : Prop} (h : p) : Hid p := h

theorem pow_cast (k : Nat) : (2 : Int) ^ k = ((2 ^ k : Nat) : Int) := by rw [Int.natCast_pow]; rfl

theorem pow_wrap {k : Nat} (h : k ≤ 62) : wrap64 ((2 : Int) ^ k) = ((2 ^ k : Nat) : Int) := by
  have h1 : 2 ^ k ≤ 2 ^ 62 := Nat.pow_le_pow_right (by omega) h
  have h0 : 1 ≤ 2 ^ k := Nat.one_le_two_pow
  rw [pow_cast, wrap_same (by omega) (by omega)]

theorem ret_int {k : IntKind} {a b : Int} (h : a = b) : Ending.returned (.int k a) = .returned (.int k b) := by rw [h]

theorem digit_none (n : Int) (c : n < 1) (w : World) :
    Calls Try.prog 102 #[.int .i64 n] w fun e w' => e = .returned (.int .i64 0) ∧ w = w' := by
  go_enter Try.func102, Try.ntmps102
  go_wp2
  go_ret
  exact ⟨rfl, rfl⟩

theorem digit_c (n : Int) (hn : (Lit.int .i64 n).wf = true) (c : 1 ≤ n) (w : World) :
    Calls Try.prog 102 #[.int .i64 n] w fun e w' => e = .returned (.int .i64 ((2 ^ ((bitsZ n - 1) / 2).toNat : Nat) : Int)) ∧ w = w' := by
  have hn' := bounds_i64 hn
  have hc := bits_c n hn
  obtain ⟨L, e, l1, l2, b1, b2⟩ := bits_spec c hn'.2
  rw [e] at hc ⊢
  clear e hn b1 b2
  go_enter Try.func102, Try.ntmps102
  go_wp2_with (go_at_call 109; refine (hc _).mono ?_; rintro e w' ⟨rfl, rfl⟩)
  go_ret
  refine ⟨ret_int ?_, rfl⟩
  rw [pow_wrap (by omega)]
  have e : (((L : Int) - 1) / 2).toNat = (L - 1) / 2 := by omega
  rw [e]

theorem root_c (n : Int) (hn : (Lit.int .i64 n).wf = true) (w : World) :
    Calls Try.prog 83 #[.int .i64 n] w fun e w' => e = .returned (.int .i64 (rootZ n)) ∧ w = w' := by
  have hn' := bounds_i64 hn
  by_cases c : n < 1
  · have hc := digit_none n c
    rw [root_none c]
    go_enter Try.func83, Try.ntmps83
    go_wp2_with (go_at_call 102; refine (hc _).mono ?_; rintro e w' ⟨rfl, rfl⟩)
    refine wp_loop_rounds 1 ?_
    rw [rounds_succ]
    go_wp2
    go_ret
    exact ⟨rfl, rfl⟩
  · have hc := digit_c n hn (by omega)
    have HB := hide (root_begin (n := n) (by omega) hn'.2)
    obtain ⟨z, ez⟩ : ∃ z, rootZ n = z := ⟨_, rfl⟩
    have HE := hide ez
    rw [ez]
    generalize ((2 ^ ((bitsZ n - 1) / 2).toNat : Nat) : Int) = d at hc HB
    clear ez hn
    go_enter Try.func83, Try.ntmps83
    go_wp2_with (go_at_call 102; refine (hc _).mono ?_; rintro e w' ⟨rfl, rfl⟩)
    go_loop [3, 4, 5] (fun r d _ => ∃ x y : Int, Hid (RInv n x y) ∧ r = .int .i64 x ∧ d = .int .i64 y) (fun _ d _ => (intOf d).toNat)
    case atStart => exact ⟨0, d, HB, rfl, rfl⟩
    case round =>
      obtain ⟨x, y, H, rfl, rfl⟩ := hrel
      obtain ⟨x0, x1, y0, y1⟩ := rinv_bound hn'.2 H.out
      by_cases f : 0 < y
      · have q := le_quo (n := n) (t := x + y) (by omega)
        by_cases g : (x + y) * (x + y) ≤ n
        · have H2 := hide (rinv_up H.out f g)
          have g' := q.mpr g
          clear q g H HB HE hc
          go_wp2
          go_round
          case rel => exact ⟨x + y, y / 2, H2, rfl, rfl⟩
          case measure => simp [intOf]; omega
        · have H2 := hide (rinv_stay H.out f (by omega))
          have g' : ¬ x + y ≤ n / (x + y) := fun h => g (q.mp h)
          clear q g H HB HE hc
          go_wp2
          go_round
          case rel => exact ⟨x, y / 2, H2, rfl, rfl⟩
          case measure => simp [intOf]; omega
      · obtain rfl : y = 0 := by omega
        have e : x = z := by rw [← HE.out]; exact (rinv_end H.out).symm
        subst e
        clear H HB HE hc
        go_wp2
        go_ret
        exact ⟨rfl, rfl⟩

end Go.Proofs.Ytgialpjdfeldeaa.Pt

/-! The plain arithmetic of chapter 5: degrees, sizes, depths and cells as functions of whole numbers, and what holds of them; no Go in sight. -/
namespace Go.Proofs.Ytgialpjdfeldeaa.Pt
open Go

/-! ### Chapter 5 as functions of whole numbers -/
def degZ (n : Int) : Int := if 2 ≤ n ∧ n ≤ 16384 then max 2 (rootZ n) else 0
def eachZ (n : Int) : Int := n / degZ n
def moreZ (n : Int) : Int := n % degZ n
def sizeZ (n i : Int) : Int := if 0 ≤ i ∧ i < degZ n then (if i < moreZ n then eachZ n + 1 else eachZ n) else 0
def aheadZ (n i : Int) : Int := i * eachZ n + min i (moreZ n)
def fromZ (n i : Int) : Int := if 0 ≤ i ∧ i < degZ n then aheadZ n i else 0
def limZ (n : Int) : Int := if 0 ≤ n ∧ n ≤ 16384 then n / 4 + 2 else 0
def depF : Nat → Int → Int
  | 0, _ => 0
  | f + 1, n => if degZ n = 0 then 0 else 1 + max (depF f (sizeZ n 0)) (depF f (sizeZ n (degZ n - 1)))
def depZ (n : Int) : Int := depF n.toNat n
def celF : Nat → Int → Int
  | 0, n => if n = 0 then 1 else 0
  | f + 1, n => if n < 0 ∨ 16384 < n then 0 else if n < 2 then n + 1 else
      4 + degZ n * 2 + (degZ n - moreZ n) * celF f (eachZ n) + moreZ n * celF f (eachZ n + 1)
def celZ (n : Int) : Int := celF n.toNat n

theorem deg_none {n : Int} (h : n < 2 ∨ 16384 < n) : degZ n = 0 := by
  unfold degZ
  rw [if_neg (by omega)]
theorem deg_some {n : Int} (h : 2 ≤ n) (h' : n ≤ 16384) : degZ n = max 2 (rootZ n) := by
  unfold degZ
  rw [if_pos ⟨h, h'⟩]
theorem root_bound {n : Int} (h : 2 ≤ n) (h' : n ≤ 16384) : 1 ≤ rootZ n ∧ rootZ n ≤ 128 ∧ rootZ n < n := by
  obtain ⟨g0, g1, g2⟩ := root_spec (n := n) (by omega)
  have a := lt_of_self (a := rootZ n) (b := 129) (by omega) (by omega)
  have b : 1 ≤ rootZ n := by
    rcases Int.lt_or_le (rootZ n) 1 with k | k
    · have e : rootZ n = 0 := by omega
      rw [e] at g2; omega
    · exact k
  refine ⟨b, by omega, ?_⟩
  rcases Int.lt_or_le (rootZ n) 2 with k | k
  · omega
  · have c : rootZ n * 2 ≤ rootZ n * rootZ n := Int.mul_le_mul_of_nonneg_left k (by omega)
    omega
theorem deg_bound {n : Int} (h : 2 ≤ n) (h' : n ≤ 16384) : 2 ≤ degZ n ∧ degZ n ≤ 128 ∧ degZ n ≤ n := by
  have := root_bound h h'
  rw [deg_some h h']
  omega
theorem deg_nat (n : Int) : 0 ≤ degZ n ∧ degZ n ≤ 128 := by
  by_cases c : 2 ≤ n ∧ n ≤ 16384
  · have := deg_bound c.1 c.2; omega
  · rw [deg_none (by omega)]; omega
theorem deg_zero {n : Int} (h' : n ≤ 16384) : degZ n = 0 ↔ n < 2 := by
  constructor
  · intro e
    rcases Int.lt_or_le n 2 with k | k
    · exact k
    · have := deg_bound k h'; omega
  · intro k; exact deg_none (Or.inl k)
theorem deg_pos {n : Int} (h : 0 < degZ n) : 2 ≤ n ∧ n ≤ 16384 := by
  by_cases c : 2 ≤ n ∧ n ≤ 16384
  · exact c
  · rw [deg_none (by omega)] at h; omega

theorem split_eq {n : Int} (h : 0 < degZ n) : degZ n * eachZ n + moreZ n = n ∧ 0 ≤ moreZ n ∧ moreZ n < degZ n := by
  unfold eachZ moreZ
  have a := Int.mul_ediv_add_emod n (degZ n)
  have b := Int.emod_nonneg n (show degZ n ≠ 0 by omega)
  have c := Int.emod_lt_of_pos n h
  omega
theorem each_bound {n : Int} (h : 0 < degZ n) : 1 ≤ eachZ n ∧ eachZ n < n ∧ eachZ n ≤ 8192 ∧ (0 < moreZ n → eachZ n + 1 < n) := by
  obtain ⟨h1, h2⟩ := deg_pos h
  obtain ⟨d1, d2, d3⟩ := deg_bound h1 h2
  obtain ⟨s1, s2, s3⟩ := split_eq h
  have a : 1 ≤ eachZ n := by
    unfold eachZ
    exact (Int.le_ediv_iff_mul_le h).mpr (by omega)
  have b : 2 * eachZ n ≤ degZ n * eachZ n := Int.mul_le_mul_of_nonneg_right d1 (by omega)
  omega
theorem size_none {n i : Int} (h : i < 0 ∨ degZ n ≤ i) : sizeZ n i = 0 := by
  unfold sizeZ
  rw [if_neg (by omega)]
theorem size_more {n i : Int} (h0 : 0 ≤ i) (h1 : i < degZ n) (h : i < moreZ n) : sizeZ n i = eachZ n + 1 := by
  unfold sizeZ
  rw [if_pos ⟨h0, h1⟩, if_pos h]
theorem size_each {n i : Int} (h0 : 0 ≤ i) (h1 : i < degZ n) (h : moreZ n ≤ i) : sizeZ n i = eachZ n := by
  unfold sizeZ
  rw [if_pos ⟨h0, h1⟩, if_neg (by omega)]
theorem size_cases {n i : Int} (h0 : 0 ≤ i) (h1 : i < degZ n) : (i < moreZ n ∧ sizeZ n i = eachZ n + 1) ∨ (moreZ n ≤ i ∧ sizeZ n i = eachZ n) := by
  rcases Int.lt_or_le i (moreZ n) with k | k
  · exact Or.inl ⟨k, size_more h0 h1 k⟩
  · exact Or.inr ⟨k, size_each h0 h1 k⟩
theorem size_bound {n i : Int} (h0 : 0 ≤ i) (h1 : i < degZ n) : 1 ≤ sizeZ n i ∧ sizeZ n i < n := by
  obtain ⟨e1, e2, e3, e4⟩ := each_bound (n := n) (by omega)
  rcases size_cases h0 h1 with ⟨k, e⟩ | ⟨k, e⟩ <;> rw [e]
  · have := e4 (by omega); omega
  · omega
theorem size_last {n : Int} (h : 0 < degZ n) : sizeZ n (degZ n - 1) = eachZ n := by
  obtain ⟨s1, s2, s3⟩ := split_eq h
  exact size_each (by omega) (by omega) (by omega)
theorem size_first {n : Int} (h : 0 < degZ n) : (0 < moreZ n ∧ sizeZ n 0 = eachZ n + 1) ∨ (moreZ n = 0 ∧ sizeZ n 0 = eachZ n) := by
  obtain ⟨s1, s2, s3⟩ := split_eq h
  rcases size_cases (n := n) (i := 0) (by omega) (by omega) with ⟨k, e⟩ | ⟨k, e⟩
  · exact Or.inl ⟨by omega, e⟩
  · exact Or.inr ⟨by omega, e⟩
theorem size_le (n i : Int) : 0 ≤ sizeZ n i ∧ sizeZ n i ≤ 16384 := by
  by_cases c : 0 ≤ i ∧ i < degZ n
  · have := size_bound c.1 c.2
    have := deg_pos (n := n) (by omega)
    omega
  · rw [size_none (by omega)]; omega

/-! ### From: the parts ahead -/
theorem ahead_zero {n : Int} (h : 0 < degZ n) : aheadZ n 0 = 0 := by
  have := split_eq h
  unfold aheadZ
  omega
theorem ahead_step {n i : Int} (h0 : 0 ≤ i) (h1 : i < degZ n) : aheadZ n (i + 1) = aheadZ n i + sizeZ n i := by
  have e : (i + 1) * eachZ n = i * eachZ n + eachZ n := by rw [Int.add_mul, Int.one_mul]
  unfold aheadZ
  rw [e]
  rcases size_cases h0 h1 with ⟨k, e⟩ | ⟨k, e⟩ <;> rw [e] <;> omega
theorem ahead_end {n : Int} (h : 0 < degZ n) : aheadZ n (degZ n) = n := by
  obtain ⟨s1, s2, s3⟩ := split_eq h
  unfold aheadZ
  omega
theorem ahead_bound {n i : Int} (h0 : 0 ≤ i) (h1 : i ≤ degZ n) (h : 0 < degZ n) : 0 ≤ i * eachZ n ∧ i * eachZ n ≤ 16384 ∧ 0 ≤ aheadZ n i ∧ aheadZ n i ≤ 16384 := by
  obtain ⟨s1, s2, s3⟩ := split_eq h
  have d := deg_pos h
  obtain ⟨e1, e2, e3, e4⟩ := each_bound h
  have a : 0 ≤ i * eachZ n := Int.mul_nonneg h0 (by omega)
  have b : i * eachZ n ≤ degZ n * eachZ n := Int.mul_le_mul_of_nonneg_right h1 (by omega)
  unfold aheadZ
  omega
theorem from_none {n i : Int} (h : i < 0 ∨ degZ n ≤ i) : fromZ n i = 0 := by
  unfold fromZ
  rw [if_neg (by omega)]
theorem from_some {n i : Int} (h0 : 0 ≤ i) (h1 : i < degZ n) : fromZ n i = aheadZ n i := by
  unfold fromZ
  rw [if_pos ⟨h0, h1⟩]

/-! ### Depth -/
theorem depF_more (f : Nat) : ∀ n : Int, n.toNat ≤ f → depF f n = depF n.toNat n := by
  induction f using Nat.strongRecOn with
  | _ f ih =>
    intro n hn
    have key : ∀ g : Nat, n.toNat ≤ g → (∀ m : Int, m.toNat < n.toNat → depF (g - 1) m = depZ m) → depF g n = if degZ n = 0 then 0 else 1 + max (depZ (sizeZ n 0)) (depZ (sizeZ n (degZ n - 1))) := by
      intro g hg hm
      cases g with
      | zero =>
        have e : degZ n = 0 := deg_none (by omega)
        rw [e]; rfl
      | succ g =>
        unfold depF
        by_cases c : degZ n = 0
        · rw [if_pos c, if_pos c]
        · have d := deg_nat n
          have p := deg_pos (n := n) (by omega)
          have b1 := size_bound (n := n) (i := 0) (by omega) (by omega)
          have b2 := size_bound (n := n) (i := degZ n - 1) (by omega) (by omega)
          rw [if_neg c, if_neg c]
          have m1 := hm (sizeZ n 0) (by omega)
          have m2 := hm (sizeZ n (degZ n - 1)) (by omega)
          simp only [Nat.add_sub_cancel] at m1 m2
          rw [m1, m2]
    rcases Nat.lt_or_ge n.toNat f with k | k
    · rw [key f hn (fun m hm => ih (f - 1) (by omega) m (by omega)), key n.toNat (Nat.le_refl _) (fun m hm => ih (n.toNat - 1) (by omega) m (by omega))]
    · have : n.toNat = f := by omega
      rw [this]
theorem dep_eq (n : Int) : depZ n = if degZ n = 0 then 0 else 1 + max (depZ (sizeZ n 0)) (depZ (sizeZ n (degZ n - 1))) := by
  by_cases c : degZ n = 0
  · rw [if_pos c]
    unfold depZ
    cases h : n.toNat with
    | zero => rfl
    | succ f => unfold depF; rw [if_pos c]
  · have d := deg_nat n
    have p := deg_pos (n := n) (by omega)
    have b1 := size_bound (n := n) (i := 0) (by omega) (by omega)
    have b2 := size_bound (n := n) (i := degZ n - 1) (by omega) (by omega)
    rw [if_neg c]
    obtain ⟨f, hf⟩ : ∃ f, n.toNat = f + 1 := ⟨n.toNat - 1, by omega⟩
    have e : depZ n = depF (f + 1) n := by unfold depZ; rw [hf]
    rw [e]
    unfold depF
    rw [if_neg c, depF_more f _ (by omega), depF_more f _ (by omega)]
    rfl
theorem dep_none {n : Int} (h : n < 2 ∨ 16384 < n) : depZ n = 0 := by
  rw [dep_eq, if_pos (deg_none h)]
theorem dep_some {n : Int} (h : 0 < degZ n) : depZ n = 1 + max (depZ (sizeZ n 0)) (depZ (eachZ n)) := by
  rw [dep_eq, if_neg (by omega), size_last h]
theorem dep_nat (n : Int) : 0 ≤ depZ n ∧ depZ n ≤ max 0 n := by
  suffices H : ∀ (f : Nat) (n : Int), n.toNat ≤ f → 0 ≤ depZ n ∧ depZ n ≤ max 0 n from H n.toNat n (Nat.le_refl _)
  intro f
  induction f with
  | zero => intro n hn; rw [dep_none (by omega)]; omega
  | succ f ih =>
    intro n hn
    by_cases c : degZ n = 0
    · rw [dep_eq, if_pos c]; omega
    · have d := deg_nat n
      have p := deg_pos (n := n) (by omega)
      have b1 := size_bound (n := n) (i := 0) (by omega) (by omega)
      have b2 := each_bound (n := n) (by omega)
      have i1 := ih (sizeZ n 0) (by omega)
      have i2 := ih (eachZ n) (by omega)
      rw [dep_some (by omega)]
      omega
theorem dep_le (n : Int) : depZ n ≤ 16384 := by
  by_cases c : n < 2 ∨ 16384 < n
  · rw [dep_none c]; omega
  · have := dep_nat n; omega

/-- the deepest of the first i parts -/
def mxZ (n i : Int) : Int := if i ≤ 0 then 0 else if i ≤ moreZ n then depZ (sizeZ n 0) else max (depZ (sizeZ n 0)) (depZ (eachZ n))
theorem mx_zero (n : Int) : mxZ n 0 = 0 := rfl
theorem mx_step {n i : Int} (h0 : 0 ≤ i) (h1 : i < degZ n) : mxZ n (i + 1) = max (mxZ n i) (depZ (sizeZ n i)) := by
  have k0 := dep_nat (sizeZ n 0)
  have k1 := dep_nat (eachZ n)
  have f := size_first (n := n) (by omega)
  unfold mxZ
  rw [if_neg (by omega)]
  by_cases c : i = 0
  · subst c
    rw [if_pos (Int.le_refl 0)]
    rcases f with ⟨f1, f2⟩ | ⟨f1, f2⟩
    · rw [if_pos (by omega)]; omega
    · rw [if_neg (by omega), f2]; omega
  · rw [if_neg (by omega : ¬ i ≤ 0)]
    rcases size_cases h0 h1 with ⟨k, e⟩ | ⟨k, e⟩
    · rw [if_pos (by omega), if_pos (by omega), e]
      rcases f with ⟨f1, f2⟩ | ⟨f1, f2⟩
      · rw [f2]; omega
      · omega
    · rw [if_neg (by omega), e]
      by_cases g : i ≤ moreZ n
      · rw [if_pos g]
      · rw [if_neg g]; omega
theorem mx_end {n : Int} (h : 0 < degZ n) : mxZ n (degZ n) = max (depZ (sizeZ n 0)) (depZ (eachZ n)) := by
  have := split_eq h
  unfold mxZ
  rw [if_neg (by omega), if_neg (by omega)]
theorem mx_bound (n i : Int) : 0 ≤ mxZ n i ∧ mxZ n i ≤ 16384 := by
  have k0 := dep_nat (sizeZ n 0)
  have k1 := dep_nat (eachZ n)
  have k2 := dep_le (sizeZ n 0)
  have k3 := dep_le (eachZ n)
  unfold mxZ
  split
  · omega
  · split <;> omega
theorem dep_mx {n : Int} (h : 0 < degZ n) : depZ n = 1 + mxZ n (degZ n) := by
  rw [dep_some h, mx_end h]

/-! ### Cells -/
theorem celF_more (f : Nat) : ∀ n : Int, n.toNat ≤ f → celF f n = celF n.toNat n := by
  induction f using Nat.strongRecOn with
  | _ f ih =>
    intro n hn
    have key : ∀ g : Nat, n.toNat ≤ g → (∀ m : Int, m.toNat < n.toNat → celF (g - 1) m = celZ m) → celF g n = if n < 0 ∨ 16384 < n then 0 else if n < 2 then n + 1 else
      4 + degZ n * 2 + (degZ n - moreZ n) * celZ (eachZ n) + (if moreZ n = 0 then 0 else moreZ n * celZ (eachZ n + 1)) := by
      intro g hg hm
      cases g with
      | zero =>
        unfold celF
        by_cases c : n = 0
        · rw [if_pos c, if_neg (by omega), if_pos (by omega), c]; rfl
        · rw [if_neg c, if_pos (by omega)]
      | succ g =>
        unfold celF
        by_cases c : n < 0 ∨ 16384 < n
        · rw [if_pos c, if_pos c]
        · by_cases c2 : n < 2
          · rw [if_neg c, if_neg c, if_pos c2, if_pos c2]
          · rw [if_neg c, if_neg c, if_neg c2, if_neg c2]
            have d := deg_bound (n := n) (by omega) (by omega)
            obtain ⟨e1, e2, e3, e4⟩ := each_bound (n := n) (by omega)
            have m1 := hm (eachZ n) (by omega)
            simp only [Nat.add_sub_cancel] at m1
            rw [m1]
            by_cases c3 : moreZ n = 0
            · rw [if_pos c3, c3, Int.zero_mul]
            · have s := split_eq (n := n) (by omega)
              have := e4 (by omega)
              have m2 := hm (eachZ n + 1) (by omega)
              simp only [Nat.add_sub_cancel] at m2
              rw [if_neg c3, m2]
    rcases Nat.lt_or_ge n.toNat f with k | k
    · rw [key f hn (fun m hm => ih (f - 1) (by omega) m (by omega)), key n.toNat (Nat.le_refl _) (fun m hm => ih (n.toNat - 1) (by omega) m (by omega))]
    · have : n.toNat = f := by omega
      rw [this]
theorem cel_none {n : Int} (h : n < 0 ∨ 16384 < n) : celZ n = 0 := by
  unfold celZ
  cases k : n.toNat with
  | zero => unfold celF; rw [if_neg (by omega)]
  | succ f => unfold celF; rw [if_pos h]
theorem cel_few {n : Int} (h : 0 ≤ n) (h' : n < 2) : celZ n = n + 1 := by
  unfold celZ
  cases k : n.toNat with
  | zero => unfold celF; rw [if_pos (by omega)]; omega
  | succ f => unfold celF; rw [if_neg (by omega), if_pos (by omega)]
theorem cel_some {n : Int} (h : 0 < degZ n) : celZ n = 4 + degZ n * 2 + (degZ n - moreZ n) * celZ (eachZ n) + moreZ n * celZ (eachZ n + 1) := by
  have p := deg_pos h
  obtain ⟨e1, e2, e3, e4⟩ := each_bound h
  obtain ⟨f, hf⟩ : ∃ f, n.toNat = f + 1 := ⟨n.toNat - 1, by omega⟩
  have e : celZ n = celF (f + 1) n := by unfold celZ; rw [hf]
  rw [e]
  unfold celF
  rw [if_neg (by omega), if_neg (by omega), celF_more f _ (by omega), show celF (eachZ n).toNat (eachZ n) = celZ (eachZ n) from rfl]
  by_cases c3 : moreZ n = 0
  · rw [c3, Int.zero_mul, Int.zero_mul]
  · have s := split_eq h
    have := e4 (by omega)
    rw [celF_more f _ (by omega)]
    rfl
theorem cel_bound {n : Int} (h : 1 ≤ n) : 0 ≤ celZ n ∧ celZ n ≤ 10 * n - 8 := by
  suffices H : ∀ (f : Nat) (n : Int), 1 ≤ n → n.toNat ≤ f → 0 ≤ celZ n ∧ celZ n ≤ 10 * n - 8 from H n.toNat n h (Nat.le_refl _)
  intro f
  induction f with
  | zero => intro n h hn; omega
  | succ f ih =>
    intro n h hn
    by_cases c : 16384 < n
    · rw [cel_none (Or.inr c)]; omega
    · by_cases c2 : n < 2
      · rw [cel_few (by omega) c2]; omega
      · have d := deg_bound (n := n) (by omega) (by omega)
        obtain ⟨e1, e2, e3, e4⟩ := each_bound (n := n) (by omega)
        obtain ⟨s1, s2, s3⟩ := split_eq (n := n) (by omega)
        have i1 := ih (eachZ n) (by omega) (by omega)
        have a1 : 0 ≤ (degZ n - moreZ n) * celZ (eachZ n) := Int.mul_nonneg (by omega) (by omega)
        have a2 : (degZ n - moreZ n) * celZ (eachZ n) ≤ (degZ n - moreZ n) * (10 * eachZ n - 8) := Int.mul_le_mul_of_nonneg_left (by omega) (by omega)
        have a3 : 0 ≤ moreZ n * celZ (eachZ n + 1) ∧ moreZ n * celZ (eachZ n + 1) ≤ moreZ n * (10 * (eachZ n + 1) - 8) := by
          by_cases c3 : moreZ n = 0
          · rw [c3, Int.zero_mul, Int.zero_mul]; omega
          · have := e4 (by omega)
            have i2 := ih (eachZ n + 1) (by omega) (by omega)
            exact ⟨Int.mul_nonneg (by omega) (by omega), Int.mul_le_mul_of_nonneg_left (by omega) (by omega)⟩
        have a4 : (degZ n - moreZ n) * (10 * eachZ n - 8) = 10 * (degZ n * eachZ n) - 8 * degZ n - 10 * (moreZ n * eachZ n) + 8 * moreZ n := by
          simp only [Int.sub_mul, Int.mul_sub, Int.mul_left_comm _ (10 : Int)]
          omega
        have a5 : moreZ n * (10 * (eachZ n + 1) - 8) = 10 * (moreZ n * eachZ n) + 2 * moreZ n := by
          have : 10 * (eachZ n + 1) - 8 = 10 * eachZ n + 2 := by omega
          rw [this, Int.mul_add, Int.mul_left_comm]
          omega
        rw [cel_some (by omega)]
        omega
theorem cel_nat (n : Int) : 0 ≤ celZ n ∧ celZ n ≤ 163832 := by
  by_cases c : n < 0 ∨ 16384 < n
  · rw [cel_none c]; omega
  · by_cases c2 : n < 2
    · rw [cel_few (by omega) c2]; omega
    · have := cel_bound (n := n) (by omega); omega

/-- the cells of the first i parts -/
def csZ (n i : Int) : Int := if i ≤ moreZ n then i * celZ (eachZ n + 1) else moreZ n * celZ (eachZ n + 1) + (i - moreZ n) * celZ (eachZ n)
theorem cs_zero {n : Int} (h : 0 < degZ n) : csZ n 0 = 0 := by
  have := split_eq h
  unfold csZ
  rw [if_pos (by omega), Int.zero_mul]
theorem cs_step {n i : Int} (h0 : 0 ≤ i) (h1 : i < degZ n) : csZ n (i + 1) = csZ n i + celZ (sizeZ n i) := by
  unfold csZ
  rcases size_cases h0 h1 with ⟨k, e⟩ | ⟨k, e⟩
  · rw [if_pos (by omega), if_pos (by omega), e, Int.add_mul, Int.one_mul]
  · rw [if_neg (by omega), e]
    by_cases g : i ≤ moreZ n
    · have : i = moreZ n := by omega
      have e2 : i + 1 - moreZ n = 1 := by omega
      rw [if_pos g, e2, Int.one_mul, this]
    · have e2 : i + 1 - moreZ n = (i - moreZ n) + 1 := by omega
      rw [if_neg g, e2, Int.add_mul, Int.one_mul]
      omega
theorem cs_end {n : Int} (h : 0 < degZ n) : celZ n = 4 + degZ n * 2 + csZ n (degZ n) := by
  have := split_eq h
  unfold csZ
  rw [if_neg (by omega), cel_some h]
  omega
theorem cs_nat {n i : Int} (h : 0 < degZ n) (h0 : 0 ≤ i) (h1 : i ≤ degZ n) : 0 ≤ csZ n i ∧ csZ n i ≤ 41940992 := by
  have k0 := cel_nat (eachZ n)
  have k1 := cel_nat (eachZ n + 1)
  have d := deg_nat n
  have m := split_eq h
  unfold csZ
  split
  · have a : 0 ≤ i * celZ (eachZ n + 1) := Int.mul_nonneg h0 k1.1
    have b : i * celZ (eachZ n + 1) ≤ 128 * 163832 := Int.mul_le_mul (by omega) k1.2 k1.1 (by omega)
    omega
  · have a : 0 ≤ moreZ n * celZ (eachZ n + 1) := Int.mul_nonneg (by omega) k1.1
    have b : moreZ n * celZ (eachZ n + 1) ≤ 128 * 163832 := Int.mul_le_mul (by omega) k1.2 k1.1 (by omega)
    have a' : 0 ≤ (i - moreZ n) * celZ (eachZ n) := Int.mul_nonneg (by omega) k0.1
    have b' : (i - moreZ n) * celZ (eachZ n) ≤ 128 * 163832 := Int.mul_le_mul (by omega) k0.2 k0.1 (by omega)
    omega
end Go.Proofs.Ytgialpjdfeldeaa.Pt

/-! Plain arithmetic of chapter 5: an ideal tree is shallow, and the examples of the chapter; no Go in sight. -/
namespace Go.Proofs.Ytgialpjdfeldeaa.Pt
open Go

/-! ### An ideal tree is shallow -/
theorem first_le {n S : Int} (h : 0 < degZ n) (hS : n ≤ degZ n * S) : sizeZ n 0 ≤ S ∧ eachZ n ≤ S := by
  obtain ⟨s1, s2, s3⟩ := split_eq h
  have a : eachZ n ≤ S := by
    rcases Int.lt_or_le S (eachZ n) with k | k
    · have : degZ n * (S + 1) ≤ degZ n * eachZ n := Int.mul_le_mul_of_nonneg_left (by omega) (by omega)
      rw [Int.mul_add] at this
      omega
    · exact k
  rcases size_first h with ⟨f1, f2⟩ | ⟨f1, f2⟩
  · refine ⟨?_, a⟩
    rw [f2]
    rcases Int.lt_or_le (eachZ n) S with k | k
    · omega
    · have : degZ n * S ≤ degZ n * eachZ n := Int.mul_le_mul_of_nonneg_left (by omega) (by omega)
      omega
  · rw [f2]; exact ⟨a, a⟩
theorem dep_up {n S B : Int} (hB : 0 ≤ B) (hS : 0 < degZ n → n ≤ degZ n * S) (hm : ∀ m : Int, m ≤ S → depZ m ≤ B) : depZ n ≤ 1 + B := by
  have d := deg_nat n
  by_cases c : degZ n = 0
  · rw [dep_eq, if_pos c]; omega
  · obtain ⟨a, b⟩ := first_le (n := n) (S := S) (by omega) (hS (by omega))
    have a' := hm _ a
    have b' := hm _ b
    rw [dep_some (by omega)]
    omega
theorem wide {n K : Int} (h : 2 ≤ n) (h' : n ≤ 16384) (hK : 2 ≤ K) (hn : n ≤ (K - 1) * K) : n ≤ degZ n * K := by
  obtain ⟨r1, r2, r3⟩ := root_bound h h'
  obtain ⟨g0, g1, g2⟩ := root_spec (n := n) (by omega)
  obtain ⟨d1, d2, d3⟩ := deg_bound h h'
  have dr : rootZ n ≤ degZ n := by rw [deg_some h h']; omega
  have a : rootZ n * K ≤ degZ n * K := Int.mul_le_mul_of_nonneg_right dr (by omega)
  rcases Int.lt_or_le (rootZ n) (K - 1) with k | k
  · have b : rootZ n * (rootZ n + 2) ≤ rootZ n * K := Int.mul_le_mul_of_nonneg_left (by omega) (by omega)
    have c : (rootZ n + 1) * (rootZ n + 1) = rootZ n * (rootZ n + 2) + 1 := by
      simp only [Int.add_mul, Int.mul_add]; omega
    omega
  · have b : (K - 1) * K ≤ rootZ n * K := Int.mul_le_mul_of_nonneg_right (by omega) (by omega)
    omega
theorem dep_1 (m : Int) (h : m ≤ 1) : depZ m ≤ 0 := by rw [dep_none (by omega)]; omega
theorem dep_2 (m : Int) (h : m ≤ 2) : depZ m ≤ 1 := dep_up (S := 1) (B := 0) (by omega) (fun d => by have := deg_pos d; have := deg_bound this.1 this.2; omega) dep_1
theorem dep_4 (m : Int) (h : m ≤ 4) : depZ m ≤ 2 := dep_up (S := 2) (B := 1) (by omega) (fun d => by have := deg_pos d; have := deg_bound this.1 this.2; omega) dep_2
theorem dep_12 (m : Int) (h : m ≤ 12) : depZ m ≤ 3 := dep_up (S := 4) (B := 2) (by omega) (fun d => by have := deg_pos d; exact wide this.1 this.2 (by omega) (by omega)) dep_4
theorem dep_132 (m : Int) (h : m ≤ 132) : depZ m ≤ 4 := dep_up (S := 12) (B := 3) (by omega) (fun d => by have := deg_pos d; exact wide this.1 this.2 (by omega) (by omega)) dep_12
theorem dep_all (m : Int) : depZ m ≤ 5 := dep_up (S := 132) (B := 4) (by omega) (fun d => by have := deg_pos d; exact wide this.1 this.2 (by omega) (by omega)) dep_132
theorem bits_ge {n : Int} (k : Nat) (h : ((2 ^ k : Nat) : Int) ≤ n) (h' : n ≤ 9223372036854775807) : (k : Int) + 1 ≤ bitsZ n := by
  have p : 1 ≤ 2 ^ k := Nat.one_le_two_pow
  obtain ⟨L, e, l1, l2, b1, b2⟩ := bits_spec (n := n) (by omega) h'
  rw [e]
  rcases Nat.lt_or_ge k L with g | g
  · omega
  · have : 2 ^ L ≤ 2 ^ k := Nat.pow_le_pow_right (by omega) g
    omega
theorem shallow {n : Int} (h : 2 ≤ n) (h' : n ≤ 16384) : 1 ≤ depZ n ∧ depZ n ≤ 1 + bitsZ (bitsZ n) := by
  have d := deg_bound h h'
  refine ⟨?_, ?_⟩
  · rw [dep_some (by omega)]
    have := dep_nat (eachZ n)
    omega
  · have b0 := bits_le n (by omega)
    by_cases c : n < 8
    · have a := dep_12 n (by omega)
      have b := bits_ge (n := n) 1 (by omega) (by omega)
      have e := bits_ge (n := bitsZ n) 1 (by omega) (by omega)
      omega
    · by_cases c2 : n < 128
      · have a := dep_132 n (by omega)
        have b := bits_ge (n := n) 3 (by omega) (by omega)
        have e := bits_ge (n := bitsZ n) 2 (by omega) (by omega)
        omega
      · have a := dep_all n
        have b := bits_ge (n := n) 7 (by omega) (by omega)
        have e := bits_ge (n := bitsZ n) 3 (by omega) (by omega)
        omega

/-! ### The chapter's examples -/
theorem deg_is {n r : Int} (h : 2 ≤ n) (h' : n ≤ 16384) (hr : 0 ≤ r) (h1 : r * r ≤ n) (h2 : n < (r + 1) * (r + 1)) : degZ n = max 2 r := by
  rw [deg_some h h', root_unique hr h1 h2]
theorem deg_2 : degZ 2 = 2 := deg_is (r := 1) (by decide) (by decide) (by decide) (by decide) (by decide)
theorem deg_3 : degZ 3 = 2 := deg_is (r := 1) (by decide) (by decide) (by decide) (by decide) (by decide)
theorem deg_4 : degZ 4 = 2 := deg_is (r := 2) (by decide) (by decide) (by decide) (by decide) (by decide)
theorem deg_8 : degZ 8 = 2 := deg_is (r := 2) (by decide) (by decide) (by decide) (by decide) (by decide)
theorem deg_9 : degZ 9 = 3 := deg_is (r := 3) (by decide) (by decide) (by decide) (by decide) (by decide)
theorem deg_11 : degZ 11 = 3 := deg_is (r := 3) (by decide) (by decide) (by decide) (by decide) (by decide)
theorem deg_16 : degZ 16 = 4 := deg_is (r := 4) (by decide) (by decide) (by decide) (by decide) (by decide)
theorem deg_100 : degZ 100 = 10 := deg_is (r := 10) (by decide) (by decide) (by decide) (by decide) (by decide)
theorem deg_full : degZ 16384 = 128 := deg_is (r := 128) (by decide) (by decide) (by decide) (by decide) (by decide)
theorem size_11_0 : sizeZ 11 0 = 4 := by simp [sizeZ, eachZ, moreZ, deg_11]
theorem size_11_2 : sizeZ 11 2 = 3 := by simp [sizeZ, eachZ, moreZ, deg_11]
theorem size_11_3 : sizeZ 11 3 = 0 := size_none (Or.inr (by rw [deg_11]; decide))
theorem from_11_2 : fromZ 11 2 = 8 := by simp [fromZ, aheadZ, eachZ, moreZ, deg_11]
theorem dep_is_0 : depZ 0 = 0 := dep_none (by decide)
theorem dep_is_1 : depZ 1 = 0 := dep_none (by decide)
theorem dep_is_2 : depZ 2 = 1 := by rw [dep_eq]; simp [sizeZ, eachZ, moreZ, deg_2, dep_is_1]
theorem dep_is_3 : depZ 3 = 2 := by rw [dep_eq]; simp [sizeZ, eachZ, moreZ, deg_3, dep_is_1, dep_is_2]; rfl
theorem dep_is_4 : depZ 4 = 2 := by rw [dep_eq]; simp [sizeZ, eachZ, moreZ, deg_4, dep_is_2]
theorem dep_is_16 : depZ 16 = 3 := by rw [dep_eq]; simp [sizeZ, eachZ, moreZ, deg_16, dep_is_4]
theorem cel_is_0 : celZ 0 = 1 := rfl
theorem cel_is_1 : celZ 1 = 2 := rfl
theorem cel_is_2 : celZ 2 = 12 := by rw [cel_some (by rw [deg_2]; decide)]; simp [eachZ, moreZ, deg_2, cel_is_1]
theorem cel_is_3 : celZ 3 = 22 := by rw [cel_some (by rw [deg_3]; decide)]; simp [eachZ, moreZ, deg_3, cel_is_1, cel_is_2]
end Go.Proofs.Ytgialpjdfeldeaa.Pt

/-! What part.may, part.Degree, part.isPart, part.Limit and the document's Degree, Limit and Size answer, each in one sentence (a contract), for every number that may be handed to them. -/
namespace Go.Proofs.Ytgialpjdfeldeaa.Pt
open Go.ChangeShapes Go.WideShapes Go.ChangeAt Go.RowKit

theorem may_yes (n : Int) (h : 0 ≤ n) (h' : n ≤ 16384) (w : World) :
    Calls Try.prog 54 #[.int .i64 n] w fun e w' => e = .returned (.bool true) ∧ w = w' := by
  go_enter Try.func54, Try.ntmps54
  go_wp2
  go_ret
  exact ⟨rfl, rfl⟩
theorem may_no (n : Int) (h : n < 0 ∨ 16384 < n) (w : World) :
    Calls Try.prog 54 #[.int .i64 n] w fun e w' => e = .returned (.bool false) ∧ w = w' := by
  rcases h with h | h
  · go_enter Try.func54, Try.ntmps54
    go_wp2
    go_ret
    exact ⟨rfl, rfl⟩
  · go_enter Try.func54, Try.ntmps54
    go_wp2
    go_ret
    exact ⟨congrArg (fun b => Ending.returned (.bool b)) (decide_eq_false (by omega)), rfl⟩

theorem deg_c (n : Int) (hn : (Lit.int .i64 n).wf = true) (w : World) :
    Calls Try.prog 55 #[.int .i64 n] w fun e w' => e = .returned (.int .i64 (degZ n)) ∧ w = w' := by
  have hn' := bounds_i64 hn
  by_cases c : n < 0 ∨ 16384 < n
  · have hc := may_no n c
    rw [deg_none (by omega)]
    clear hn
    go_enter Try.func55, Try.ntmps55
    go_wp2_with (go_at_call 54; refine (hc _).mono ?_; rintro e w' ⟨rfl, rfl⟩)
    go_ret
    exact ⟨rfl, rfl⟩
  · have hc := may_yes n (by omega) (by omega)
    by_cases c2 : n < 2
    · rw [deg_none (by omega)]
      clear hn
      go_enter Try.func55, Try.ntmps55
      go_wp2_with (go_at_call 54; refine (hc _).mono ?_; rintro e w' ⟨rfl, rfl⟩)
      go_ret
      exact ⟨rfl, rfl⟩
    · have hr := root_c n hn
      have b := root_bound (n := n) (by omega) (by omega)
      rw [deg_some (by omega) (by omega)]
      obtain ⟨r, er⟩ : ∃ r, rootZ n = r := ⟨_, rfl⟩
      rw [er] at hr b ⊢
      clear hn er
      go_enter Try.func55, Try.ntmps55
      go_wp2_with (first | (go_at_call 54; refine (hc _).mono ?_; rintro e w' ⟨rfl, rfl⟩) | (go_at_call 83; refine (hr _).mono ?_; rintro e w' ⟨rfl, rfl⟩))
      go_ret
      exact ⟨rfl, rfl⟩

theorem lim_c (n : Int) (hn : (Lit.int .i64 n).wf = true) (w : World) :
    Calls Try.prog 92 #[.int .i64 n] w fun e w' => e = .returned (.int .i64 (limZ n)) ∧ w = w' := by
  have hn' := bounds_i64 hn
  clear hn
  by_cases c : n < 0 ∨ 16384 < n
  · have hc := may_no n c
    have e : limZ n = 0 := by unfold limZ; rw [if_neg (by omega)]
    rw [e]
    clear e
    go_enter Try.func92, Try.ntmps92
    go_wp2_with (go_at_call 54; refine (hc _).mono ?_; rintro e w' ⟨rfl, rfl⟩)
    go_ret
    exact ⟨rfl, rfl⟩
  · have hc := may_yes n (by omega) (by omega)
    have e : limZ n = n / 4 + 2 := by unfold limZ; rw [if_pos (by omega)]
    rw [e]
    clear e
    go_enter Try.func92, Try.ntmps92
    go_wp2_with (go_at_call 54; refine (hc _).mono ?_; rintro e w' ⟨rfl, rfl⟩)
    go_ret
    exact ⟨rfl, rfl⟩
theorem part_c (n i : Int) (hn : (Lit.int .i64 n).wf = true) (w : World) :
    Calls Try.prog 98 #[.int .i64 n, .int .i64 i] w fun e w' => e = .returned (.bool (decide (0 ≤ i ∧ i < degZ n))) ∧ w = w' := by
  have hd := deg_c n hn
  have d := deg_nat n
  obtain ⟨z, ez⟩ : ∃ z, degZ n = z := ⟨_, rfl⟩
  rw [ez] at hd d ⊢
  clear hn ez
  by_cases c : i < 0
  · have e : decide (0 ≤ i ∧ i < z) = false := decide_eq_false (by omega)
    rw [e]
    clear e
    go_enter Try.func98, Try.ntmps98
    go_wp2
    go_ret
    exact ⟨rfl, rfl⟩
  · by_cases c2 : i < z
    · have e : decide (0 ≤ i ∧ i < z) = true := decide_eq_true (by omega)
      rw [e]
      clear e
      go_enter Try.func98, Try.ntmps98
      go_wp2_with (go_at_call 55; refine (hd _).mono ?_; rintro e w' ⟨rfl, rfl⟩)
      go_ret
      exact ⟨rfl, rfl⟩
    · have e : decide (0 ≤ i ∧ i < z) = false := decide_eq_false (by omega)
      rw [e]
      clear e
      go_enter Try.func98, Try.ntmps98
      go_wp2_with (go_at_call 55; refine (hd _).mono ?_; rintro e w' ⟨rfl, rfl⟩)
      go_ret
      exact ⟨congrArg (fun b => Ending.returned (.bool b)) (decide_eq_false (by omega)), rfl⟩
end Go.Proofs.Ytgialpjdfeldeaa.Pt

/-! What part.Size, part.From and the document's Size answer, each in one sentence (a contract), for every number that may be handed to them; the world is turned by draws alone. -/
namespace Go.Proofs.Ytgialpjdfeldeaa.Pt
open Go.ChangeShapes Go.WideShapes Go.ChangeAt Go.RowKit

theorem deg_s (n : Int) (hn : (Lit.int .i64 n).wf = true) (w : World) :
    Calls Try.prog 55 #[.int .i64 n] w fun e w' => e = .returned (.int .i64 (degZ n)) ∧ w' = w :=
  (deg_c n hn w).mono fun _ _ ⟨a, b⟩ => ⟨a, b.symm⟩

theorem size_c (n i : Int) (hn : (Lit.int .i64 n).wf = true) (w : World) :
    Calls Try.prog 66 #[.int .i64 n, .int .i64 i] w fun e w' => e = .returned (.int .i64 (sizeZ n i)) ∧ ∃ k, w' = w.drewN k := by
  have hp := part_c n i hn
  have hd := deg_s n hn
  have d := deg_nat n
  by_cases c : 0 ≤ i ∧ i < degZ n
  · rw [decide_eq_true c] at hp
    have p := deg_pos (n := n) (by omega)
    have eb := each_bound (n := n) (by omega)
    have sp := split_eq (n := n) (by omega)
    have e1 : n / degZ n = eachZ n := rfl
    have e2 : n % degZ n = moreZ n := rfl
    by_cases c2 : i < moreZ n
    · rw [size_more c.1 c.2 c2]
      generalize eachZ n = q at *
      generalize moreZ n = m at *
      generalize degZ n = z at *
      clear sp hn
      go_enter Try.func66, Try.ntmps66
      go_wp2_with (go_at_call 98; refine (hp _).mono ?_; rintro e w' ⟨rfl, rfl⟩)
      go_quiet (first | (go_at_call 55; refine Calls.quiet_of_same (hd _)))
      go_wp2
      go_ret
      exact ⟨rfl, _, rfl⟩
    · rw [size_each c.1 c.2 (by omega)]
      generalize eachZ n = q at *
      generalize moreZ n = m at *
      generalize degZ n = z at *
      clear sp hn
      go_enter Try.func66, Try.ntmps66
      go_wp2_with (go_at_call 98; refine (hp _).mono ?_; rintro e w' ⟨rfl, rfl⟩)
      go_quiet (first | (go_at_call 55; refine Calls.quiet_of_same (hd _)))
      go_wp2
      go_ret
      exact ⟨ret_int e1, _, rfl⟩
  · rw [decide_eq_false c] at hp
    rw [size_none (by omega)]
    clear hn
    go_enter Try.func66, Try.ntmps66
    go_wp2_with (go_at_call 98; refine (hp _).mono ?_; rintro e w' ⟨rfl, rfl⟩)
    go_ret
    exact ⟨rfl, 0, rfl⟩

theorem from_c (n i : Int) (hn : (Lit.int .i64 n).wf = true) (w : World) :
    Calls Try.prog 99 #[.int .i64 n, .int .i64 i] w fun e w' => e = .returned (.int .i64 (fromZ n i)) ∧ ∃ k, w' = w.drewN k := by
  have hp := part_c n i hn
  have hd := deg_s n hn
  have d := deg_nat n
  by_cases c : 0 ≤ i ∧ i < degZ n
  · rw [decide_eq_true c] at hp
    have p := deg_pos (n := n) (by omega)
    have eb := each_bound (n := n) (by omega)
    have sp := split_eq (n := n) (by omega)
    have ab := ahead_bound (n := n) (i := i) (by omega) (by omega) (by omega)
    have e1 : n / degZ n = eachZ n := rfl
    have e2 : n % degZ n = moreZ n := rfl
    have e3 : wrap64 (i * eachZ n) = i * eachZ n := wrap_same (by omega) (by omega)
    rw [from_some c.1 c.2]
    unfold aheadZ at *
    generalize eachZ n = q at *
    generalize moreZ n = m at *
    generalize degZ n = z at *
    obtain ⟨u, hu⟩ : ∃ u, i * q = u := ⟨_, rfl⟩
    rw [hu] at ab ⊢
    have e4 : wrap64 (i * q) = u := by rw [e3, hu]
    clear sp hn e3 hu
    go_enter Try.func99, Try.ntmps99
    go_wp2_with (go_at_call 98; refine (hp _).mono ?_; rintro e w' ⟨rfl, rfl⟩)
    go_quiet (first | (go_at_call 55; refine Calls.quiet_of_same (hd _)))
    go_wp2
    go_ret
    exact ⟨rfl, _, rfl⟩
  · rw [decide_eq_false c] at hp
    rw [from_none (by omega)]
    clear hn
    go_enter Try.func99, Try.ntmps99
    go_wp2_with (go_at_call 98; refine (hp _).mono ?_; rintro e w' ⟨rfl, rfl⟩)
    go_ret
    exact ⟨rfl, 0, rfl⟩

end Go.Proofs.Ytgialpjdfeldeaa.Pt

/-! The parts of a list of pairs (chapter 5), where they lie; part's From and Size, that turn nothing. No conditions beyond each theorem's own. -/
namespace Go.Proofs.Ytgialpjdfeldeaa
open Go.RowKit

def partL (ps : List (Int × Int)) (i : Int) : List (Int × Int) := (ps.drop (Pt.fromZ ps.length i).toNat).take (Pt.sizeZ ps.length i).toNat
theorem part_in {n i : Int} (h0 : 0 ≤ i) (h1 : i < Pt.degZ n) : 0 ≤ Pt.fromZ n i ∧ 1 ≤ Pt.sizeZ n i ∧ Pt.fromZ n i + Pt.sizeZ n i ≤ n := by
  have hp : 0 < Pt.degZ n := by omega
  rw [Pt.from_some h0 h1, ← Pt.ahead_step h0 h1]
  have hb := Pt.ahead_bound h0 (by omega) hp
  have hs := Pt.size_bound h0 h1
  refine ⟨hb.2.2.1, hs.1, ?_⟩
  have mono : ∀ k : Nat, i + 1 + k ≤ Pt.degZ n → Pt.aheadZ n (i + 1) ≤ Pt.aheadZ n (i + 1 + k) := by
    intro k
    induction k with
    | zero => intro _; simp
    | succ k ih =>
      intro hk
      have h2 := ih (by omega)
      have h3 := Pt.ahead_step (n := n) (i := i + 1 + k) (by omega) (by omega)
      have h4 := Pt.size_bound (n := n) (i := i + 1 + k) (by omega) (by omega)
      rw [show i + 1 + ((k + 1 : Nat) : Int) = i + 1 + k + 1 by omega, h3]
      omega
  have := mono (Pt.degZ n - (i + 1)).toNat (by omega)
  rw [show i + 1 + (((Pt.degZ n - (i + 1)).toNat : Nat) : Int) = Pt.degZ n by omega, Pt.ahead_end hp] at this
  exact this
theorem PReads.sub {w : World} {bl off : Nat} {ps : List (Int × Int)} (h : PReads w (some ⟨bl, off, none⟩) ps) (i m : Nat) : PReads w (some ⟨bl, off + i * 2, none⟩) ((ps.drop i).take m) := by
  rcases h with h | ⟨bl', off', e, h⟩
  · subst h; exact .inl (by simp)
  · cases e
    refine .inr ⟨bl, off + i * 2, rfl, fun j p hp => ?_⟩
    have hp' : ps[i + j]? = some p := by
      rw [List.getElem?_take] at hp
      split at hp
      · rwa [List.getElem?_drop] at hp
      · cases hp
    have := h (i + j) p hp'
    rw [show off + (i + j) * 2 = off + i * 2 + j * 2 by omega, show off + ((i + j) * 2 + 1) = off + i * 2 + (j * 2 + 1) by omega] at this
    exact this

theorem from_k (n i r : Int) (hn : (Lit.int .i64 n).wf = true) (e1 : Pt.fromZ n i = r) (w : World) : Calls Try.prog 99 #[.int .i64 n, .int .i64 i] w fun e w' => e = .returned (.int .i64 r) ∧ Kept w w' := by
  refine (Pt.from_c n i hn w).mono ?_
  rw [e1]
  rintro e w' ⟨rfl, k, rfl⟩
  exact ⟨rfl, Kept.drewN _ _⟩
theorem size_k (n i r : Int) (hn : (Lit.int .i64 n).wf = true) (e1 : Pt.sizeZ n i = r) (w : World) : Calls Try.prog 66 #[.int .i64 n, .int .i64 i] w fun e w' => e = .returned (.int .i64 r) ∧ Kept w w' := by
  refine (Pt.size_c n i hn w).mono ?_
  rw [e1]
  rintro e w' ⟨rfl, k, rfl⟩
  exact ⟨rfl, Kept.drewN _ _⟩

end Go.Proofs.Ytgialpjdfeldeaa

/-! What the accesses of the program's memory answer, and what they turn, at a memory as it lies (PMem). -/
namespace Go.Proofs.Ytgialpjdfeldeaa
open Go.RowKit

/-- The box behind a count. -/
theorem count_p {w : World} {n₀ b : Nat} {v : Value} {s : Mst} (h : PMem w n₀ b v s) (c : Int) : PMem (w.setCell ⟨b, 2, none⟩ (.int .i64 c)) n₀ b v { s with count := c } :=
  h.boxed (by decide) (Turned.setCell _ _ _ rfl) (by rw [box_set _ h.box]; rfl) rfl rfl
theorem odd_p {w : World} {n₀ b : Nat} {v : Value} {s : Mst} (h : PMem w n₀ b v s) (c : Int) : PMem (w.setCell ⟨b, 3, none⟩ (.int .i64 c)) n₀ b v { s with odd := c } :=
  h.boxed (by decide) (Turned.setCell _ _ _ rfl) (by rw [box_set _ h.box]; rfl) rfl rfl
theorem ref_p {w : World} {n₀ b : Nat} {v : Value} {s : Mst} (h : PMem w n₀ b v s) (c : Int) : PMem (w.setCell ⟨b, 4, none⟩ (.int .i64 c)) n₀ b v { s with ref := c } :=
  h.boxed (by decide) (Turned.setCell _ _ _ rfl) (by rw [box_set _ h.box]; rfl) rfl rfl

theorem isUsed_p (w : World) (n₀ b : Nat) (v : Value) (s : Mst) (a : Int) (u : Bool) (h : PMem w n₀ b v s) (hu : s.used a = u) :
    Calls Try.prog 82 #[.pointer (some ⟨b, 0, none⟩), .int .i64 a] w fun e w' => e = .returned (.bool u) ∧ w = w' := by
  obtain ⟨⟨c0, _⟩, _⟩ := h.opened
  obtain ⟨a0, cap, rfl, _⟩ := h.form
  subst hu
  clear h
  by_cases h1 : 1 ≤ a
  · go_enter Try.func82, Try.ntmps82
    go_wp2
    go_ret
    exact ⟨congrArg (fun b => Ending.returned (.bool b)) (by simp [Mst.used, h1]), rfl⟩
  · go_enter Try.func82, Try.ntmps82
    go_wp2
    go_ret
    exact ⟨congrArg (fun b => Ending.returned (.bool b)) (by simp [Mst.used]; omega), rfl⟩

/-- At -/
theorem look_p (w : World) (n₀ b : Nat) (v : Value) (s : Mst) (a : Int) (h : PMem w n₀ b v s) :
    Calls Try.prog 56 #[.pointer (some ⟨b, 0, none⟩), .int .i64 a] w fun e w' => e = .returned (.int .i64 (s.look a)) ∧ w = w' := by
  have c0 := h.opened.1.1
  have hl := h.len
  have H := hide h
  cases hu : s.used a with
  | true =>
    obtain ⟨j, rfl, hj⟩ := Mst.used_nat hu
    obtain ⟨g, cap, z, rfl, hz, hc, _, hgb⟩ := h.cellAt (by decide) hj
    rw [Mst.look_succ hz]
    have HU := hide hu
    have i1 : (j : Int) < (s.xs.length : Int) := by omega
    clear hu h hz
    go_enter Try.func56, Try.ntmps56
    go_wp2_with (fail)
    refine (isUsed_p _ n₀ b _ _ _ true H.out HU.out).mono ?_
    rintro e w' ⟨rfl, rfl⟩
    go_wp2
    go_ret
    exact ⟨rfl, rfl⟩
  | false =>
    rw [Mst.look_none hu]
    have HN : ¬ (1 ≤ a ∧ a ≤ (s.xs.length : Int)) := fun e => by rw [Mst.used_iff.2 e] at hu; cases hu
    obtain ⟨a0, cap, rfl, _⟩ := h.form
    clear h
    clear HN
    go_enter Try.func56, Try.ntmps56
    go_wp2_with (fail)
    refine (isUsed_p _ n₀ b _ _ _ false H.out hu).mono ?_
    rintro e w' ⟨rfl, rfl⟩
    go_wp2
    go_ret
    exact ⟨rfl, rfl⟩

/-- What a store into the row leaves. -/
theorem put_p {w w1 : World} {n₀ b g cap j : Nat} {s : Mst} (hj : j < s.xs.length) (h : PMem w1 n₀ b (.slice (some ⟨g, 0, none⟩) s.xs.length cap) (s.touch ((j : Int) + 1))) (t : Turned (fun k => k = b) w w1) (x : Int) :
    PMem (w1.setCell ⟨g, j, none⟩ (.int .i64 x)) n₀ b (.slice (some ⟨g, 0, none⟩) s.xs.length cap) (s.write ((j : Int) + 1) x) ∧ Turned (Foot b (.slice (some ⟨g, 0, none⟩) s.xs.length cap)) w (w1.setCell ⟨g, j, none⟩ (.int .i64 x)) := by
  rw [Mst.write_in hj]
  rw [Mst.touch_in (Mst.used_succ hj)] at h
  exact ⟨MemAt.stored (T := 66) (s := { s with count := wrap64 (s.count + 1) }) h (by decide) x, t.trans (Turned.setCell (R := Foot b (.slice (some ⟨g, 0, none⟩) s.xs.length cap)) w1 ⟨g, j, none⟩ _ (.inr rfl)) (fun _ e => .inl e) (fun _ _ e => e)⟩
theorem touched_p {w w1 : World} {b : Nat} {v : Value} (t : Turned (fun k => k = b) w w1) : Turned (Foot b v) w w1 := t.mono (fun _ _ e => .inl e)

/-- New, of a size that may be. -/
theorem new_p (w : World) (n : Int) (h0 : 1 ≤ n) (h1 : n ≤ 65536) :
    Calls Try.prog 9 #[.int .i64 n] w fun e w' => e = .returned (.tuple #[.pointer (some ⟨w.heap.size, 0, none⟩), .int .i64 0]) ∧ PMem w' w.heap.size w.heap.size (.slice none 0 0) (Mst.new n) ∧ Kept w w' ∧ w.heap.size < w'.heap.size := by
  have HN : Hid (PMem (w.alloc (.cells (layP (.slice none 0 0) n 0 0 0) 66)) w.heap.size w.heap.size (.slice none 0 0) (Mst.new n)) := hide ⟨Nat.le_refl _, heap_new w _, World.ownsRow_nil _ _ _ _, by show (0 : Int) ≤ n; omega, h1⟩
  go_enter Try.func9, Try.ntmps9
  go_wp2
  go_ret2
  exact ⟨rfl, HN.out, Turned.alloc _ _ _, by simp⟩
/-- New, of one that may not. -/
theorem new0_p (w : World) (n : Int) (h : ¬ (1 ≤ n ∧ n ≤ 65536)) :
    Calls Try.prog 9 #[.int .i64 n] w fun e w' => e = .returned (.tuple #[.pointer none, .int .i64 1]) ∧ w = w' := by
  by_cases h0 : 1 ≤ n
  · have h1 : 65536 < n := by omega
    clear h
    go_enter Try.func9, Try.ntmps9
    go_wp2
    go_ret2
    exact ⟨rfl, rfl⟩
  · have h1 : n < 1 := by omega
    clear h
    go_enter Try.func9, Try.ntmps9
    go_wp2
    go_ret2
    exact ⟨rfl, rfl⟩
end Go.Proofs.Ytgialpjdfeldeaa

/-! What Make of the program's memory answers, and what it turns, at a memory as it lies (PMem). -/
namespace Go.Proofs.Ytgialpjdfeldeaa
open Go.RowKit
set_option maxRecDepth 20000

theorem info2_p : (Try.prog.info? 2).map (fun i => (i.zero, i.size, i.bytes)) = some (some (.int .i64 0), 1, 8) := by kernel_rfl

/-- The store of the longer slice into the box. -/
theorem slice_p {w : World} {n₀ b : Nat} {v v' : Value} {s : Mst} {ys : List Int} (hle : n₀ ≤ b) (hb : w.heap[b]? = some (.cells (layP v s.size s.count s.odd s.ref) 66)) (hr : Row w n₀ 2 v' ys) (hne : v'.ownBlock ≠ some b) (h1 : (ys.length : Int) ≤ s.size) (h2 : s.size ≤ 65536) :
    PMem (w.setCell ⟨b, 0, none⟩ v') n₀ b v' { s with xs := ys } := by
  refine ⟨hle, by rw [box_set _ hb]; rfl, ?_, h1, h2⟩
  obtain ⟨r1, r2⟩ := hr
  refine ⟨r1, ?_⟩
  rcases r2 with r2 | ⟨g, cap, cur, rfl, hg, hh, r⟩
  · exact .inl r2
  · exact .inr ⟨g, cap, cur, rfl, hg, (Below.heap_setCell w ⟨b, 0, none⟩ _ g (fun e => hne (by rw [e]; rfl))).trans hh, r⟩

/-- What a Make leaves, behind its append. -/
theorem made_p {w w0 w1 : World} {n₀ b g cap m : Nat} {v : Value} {s : Mst} {ws : List Int} (h : PMem w0 n₀ b v s) (t : Turned (fun k => k = b) w w0) (hm : ws.length = m) (hfit : (s.xs.length : Int) + m ≤ s.size)
    (hown : w1.ownsRow n₀ 2 1 (.slice (some ⟨g, 0, none⟩) (s.xs.length + m) cap) (s.xs.length + m) (cellsOf s.xs ++ cellsOf ws)) (hg : w0.grownBy w1 v.ownBlock) (hat : v.ownBlock = some g ∨ g = w0.heap.size) :
    Does 66 layP n₀ b v { s with xs := s.xs ++ ws } w (w1.setCell ⟨b, 0, none⟩ (.slice (some ⟨g, 0, none⟩) (s.xs.length + m) cap)) := by
  obtain ⟨hb, hne, hr⟩ := h.appended (by decide) hm hown hg
  refine ⟨_, slice_p h.le hb hr (fun e => hne (by simpa [Value.ownBlock] using e)) (by rw [List.length_append, hm]; exact_mod_cast hfit) h.top, ?_, ?_⟩
  · exact (t.trans (Turned.of_grownBy (R := Foot b v) hg (fun k hk => .inr hk)) (fun _ e => .inl e) (fun _ _ e => e)).trans (Turned.setCell (R := Foot b v) w1 ⟨b, 0, none⟩ _ (.inl rfl)) (fun _ e => e) (fun _ _ e => e)
  · rintro k (rfl | hk)
    · exact .inl (.inl rfl)
    · obtain rfl : g = k := by simpa [Value.ownBlock] using hk
      rcases hat with e | e
      · exact .inl (.inr e)
      · exact .inr (by have := t.size; omega)

/-- The cells of a slice that reads as these numbers. -/
theorem news_p {w : World} {bl off : Nat} {ws : List Int} (h : ∀ j z, ws[j]? = some z → w.cell? ⟨bl, off + j, none⟩ = some (.int .i64 z)) : ∀ (j : Nat) (u : Value), (cellsOf ws)[j]? = some u → w.cell? ((⟨bl, off, none⟩ : Addr).add j) = some u := by
  intro j u hu
  have hadd : (⟨bl, off, none⟩ : Addr).add j = ⟨bl, off + j, none⟩ := by unfold Addr.add; split <;> simp_all
  rw [hadd]
  rw [cellsOf, List.getElem?_map] at hu
  cases hz : ws[j]? with
  | none => rw [hz] at hu; cases hu
  | some z =>
    rw [hz] at hu
    obtain rfl : Value.int .i64 z = u := by simpa using hu
    exact h j z hz

set_option maxRecDepth 4000 in
/-- Make -/
theorem make_p (w : World) (n₀ b : Nat) (v : Value) (s : Mst) (a : Option Addr) (ws : List Int) (cw : Nat) (h : PMem w n₀ b v s) (hn : n₀ ≤ w.heap.size) (hr : Reads w a ws) (hlw : ws.length ≤ maxLen) (hs : ws ≠ [] → ∀ ad, a = some ad → ad.block ≠ b) :
    Calls Try.prog 40 #[.pointer (some ⟨b, 0, none⟩), .slice a ws.length cw] w fun e w' => e = .returned (.tuple #[.int .i64 (s.next ws), .bool (s.fits ws.length)]) ∧ Does 66 layP n₀ b v (s.make ws) w w' := by
  obtain ⟨⟨c0, c1, c2, c3, c4⟩, f⟩ := h.opened
  have f2 := f 2
  have f4 := f 4
  have fc := f 0
  have hl := h.len
  have hroom := h.room
  have htop := h.top
  unfold maxLen at hlw
  have h1 := count_p h (wrap64 (s.count + 1))
  have H1 := hide h1
  have H2 := hide (ref_p h1 (wrap64 (s.ref + 1)))
  have T1 := hide (Turned.setCell (R := fun k => k = b) w ⟨b, 2, none⟩ (.int .i64 (wrap64 (s.count + 1))) rfl)
  obtain ⟨a0, cap, rfl, _⟩ := h.form
  rw [Mst.next, Mst.make]
  cases hf : s.fits ws.length with
  | false =>
    rw [if_neg (by simp), if_neg (by simp)]
    have HN : ¬ (0 < ws.length ∧ (s.xs.length : Int) + ws.length ≤ s.size) := fun e => by simp [Mst.fits, e.1, e.2] at hf
    have HD : Hid (∀ k, Does 66 layP n₀ b (.slice a0 s.xs.length cap) { s with count := wrap64 (s.count + 1), ref := wrap64 (s.ref + 1) } w (((w.setCell ⟨b, 2, none⟩ (.int .i64 (wrap64 (s.count + 1)))).drewN k).setCell ⟨b, 4, none⟩ (.int .i64 (wrap64 (s.ref + 1))))) := hide (fun k => Does.same (ref_p (h1.kept (Kept.drewN _ k)) (wrap64 (s.ref + 1)))
      ((T1.out.trans (Turned.drewN (fun _ => False) _ k) (fun _ e => e) (fun _ _ e => e.elim)).trans (Turned.setCell (R := fun k => k = b) _ ⟨b, 4, none⟩ _ rfl) (fun _ e => .inl e) (fun _ _ e => .inl e)))
    by_cases h0 : ws.length = 0
    · have n0 : ((ws.length : Int) == 0) = true := by simp [h0]
      clear h h1 f hr hs hf HN
      go_enter Try.func40, Try.ntmps40
      go_wp2
      go_quiet (fail)
      go_wp2
      go_ret2
      exact ⟨rfl, HD.out _⟩
    · have n0 : ((ws.length : Int) == 0) = false := by simp only [beq_eq_false_iff_ne, ne_eq]; omega
      have n1 : s.size - (s.xs.length : Int) < (ws.length : Int) := by omega
      clear h h1 f hr hs hf HN
      go_enter Try.func40, Try.ntmps40
      go_wp2
      go_quiet (fail)
      go_wp2
      go_ret2
      exact ⟨rfl, HD.out _⟩
  | true =>
    rw [if_pos rfl, if_pos rfl]
    obtain ⟨h0, h5⟩ : 0 < ws.length ∧ (s.xs.length : Int) + ws.length ≤ s.size := by simpa [Mst.fits] using hf
    have n0 : ((ws.length : Int) == 0) = false := by simp only [beq_eq_false_iff_ne, ne_eq]; omega
    have n1 : (ws.length : Int) ≤ s.size - (s.xs.length : Int) := by omega
    obtain ⟨bl, off, rfl, hrow⟩ : ∃ bl off, a = some ⟨bl, off, none⟩ ∧ ∀ j z, ws[j]? = some z → w.cell? ⟨bl, off + j, none⟩ = some (.int .i64 z) := by
      rcases hr with e | ⟨bl, off, e, hc⟩
      · rw [e] at h0
        simp at h0
      · exact ⟨bl, off, e, hc⟩
    have hbb : bl ≠ b := hs (List.length_pos_iff.1 h0) _ rfl
    have hrow1 : ∀ k, ∀ j z, ws[j]? = some z → ((w.setCell ⟨b, 2, none⟩ (.int .i64 (wrap64 (s.count + 1)))).drewN k).cell? ⟨bl, off + j, none⟩ = some (.int .i64 z) := fun k j z hz => T1.out.cell (hrow j z hz) hbb
    have HR := hide hrow1
    obtain ⟨i0, hi, hz0, hz1, hz2⟩ := info_parts info2_p
    obtain ⟨W, hW⟩ : ∃ W, w.setCell ⟨b, 2, none⟩ (.int .i64 (wrap64 (s.count + 1))) = W := ⟨_, rfl⟩
    rw [hW] at h1 T1 HR H1
    have d0 := h1.opened.1
    have g0 := h1.opened.2 0
    have d1 := d0.1
    have d2 := d0.2.1
    have HN := hide hn
    have HW := hide hW
    have zW := T1.out.size
    clear h f hr hs hf H2 hrow hrow1 d0 hn hW
    go_enter Try.func40, Try.ntmps40
    go_wp2_with (fail)
    rw [HW.out]
    go_quiet (fail)
    go_wp2_with (at_builtin; refine Stop.out ?_)
    refine ⟨?_⟩
    refine wpList_append_lies _ rfl _ _ 35 rfl n₀ 2 i0 (.int .i64 0) 1 8 Try.underlying35 hi hz0 hz1 hz2 rfl (by decide) (.slice a0 s.xs.length cap) s.xs.length (cellsOf s.xs) rfl h1.row ⟨bl, off, none⟩ ws.length cw (cellsOf ws) rfl (by simp) (news_p (HR.out _)) (ints_oneCell _ _) h0 (by unfold maxLen; omega) (by omega) (Nat.le_trans HN.out zW) W.heap.size rfl ?_
    intro g cap1 w1 hown hgrow' hat hlt
    have hgrow : W.grownBy w1 (Value.slice a0 s.xs.length cap).ownBlock := ⟨hgrow'.os, hgrow'.tape, hgrow'.output, hgrow'.size, hgrow'.block⟩
    clear hgrow'
    have HM := hide (made_p h1 T1.out rfl h5 hown hgrow hat)
    have hb1 := (h1.appended (by decide) rfl hown hgrow).1
    have e0 : w1.cell? ⟨b, 0, none⟩ = some (.slice a0 s.xs.length cap) := by simp [World.cell?, hb1, layP]
    have e1 : w1.frozen? ⟨b, 0, none⟩ = false := by simp [World.frozen?, hb1, layP]
    clear hown hgrow hat hb1 d1 d2 g0 h1
    go_wp2
    go_ret2
    exact ⟨rfl, HM.out⟩
end Go.Proofs.Ytgialpjdfeldeaa

/-! What the calls of the program's memory that are no accesses answer (Count, Odd, Refused, Used, Size, Cells, Clone), slices.Clone, ordinateref1's Words, ordinatehand's Cut. -/
namespace Go.Proofs.Ytgialpjdfeldeaa
open Go.RowKit

theorem size_c (w : World) (n₀ b : Nat) (v : Value) (s : Mst) (h : PMem w n₀ b v s) : Calls Try.prog 41 #[.pointer (some ⟨b, 0, none⟩)] w fun e w' => e = .returned (.int .i64 s.size) ∧ w = w' := by
  obtain ⟨⟨c0, c1, c2, c3, c4⟩, _⟩ := h.opened
  clear h
  go_enter Try.func41, Try.ntmps41
  go_wp2
  go_ret
  exact ⟨rfl, rfl⟩
theorem used_c (w : World) (n₀ b : Nat) (v : Value) (s : Mst) (h : PMem w n₀ b v s) : Calls Try.prog 29 #[.pointer (some ⟨b, 0, none⟩)] w fun e w' => e = .returned (.int .i64 (s.xs.length : Int)) ∧ w = w' := by
  obtain ⟨⟨c0, _⟩, _⟩ := h.opened
  obtain ⟨a0, cap, rfl, _⟩ := h.form
  clear h
  go_enter Try.func29, Try.ntmps29
  go_wp2
  go_ret
  exact ⟨rfl, rfl⟩

/-- What is answered: a slice of these numbers, in a row that is new; nothing that lay is turned. -/
def Fresh (zs : List Int) (w : World) (e : Ending) (w' : World) : Prop := ∃ v, e = .returned v ∧ Row w' w.heap.size 2 v zs ∧ Kept w w'

/-- slices.Clone of numbers -/
theorem clone_s (w : World) (a : Option Addr) (zs : List Int) (cap : Nat) (hr : Reads w a zs) (hl : zs.length ≤ 1000000) :
    Calls Try.prog 45 #[.slice a zs.length cap] w (Fresh zs w) := by
  obtain ⟨i0, hi, hz0, hz1, hz2⟩ := info_parts info2_p
  have r0 : (w.alloc (.cells #[] 2)).ownsRow w.heap.size 2 1 (.slice (some ⟨w.heap.size, 0, none⟩) 0 0) 0 [] := ⟨rfl, .inr ⟨w.heap.size, 0, #[], rfl, Nat.le_refl _, heap_new w _, Nat.le_refl _, Nat.zero_le _, rfl, rfl⟩⟩
  have KK : Hid (Kept w (w.alloc (.cells #[] 2))) := hide (Turned.alloc _ _ _)
  have qn : ∀ (W : World) n c, (binOp .eql 35 (.slice none n c) (.slice none 0 0)).run Try.prog W = .ok (.bool true) W := fun W n c => Lib.run_eql_slice_nil W 35 2 none n c 0 0 Try.underlying35
  have qs : ∀ (W : World) ad n c, (binOp .eql 35 (.slice (some ad) n c) (.slice none 0 0)).run Try.prog W = .ok (.bool false) W := fun W ad n c => Lib.run_eql_slice_nil W 35 2 (some ad) n c 0 0 Try.underlying35
  cases a with
  | none =>
    have h0 : zs = [] := by
      rcases hr with e | ⟨_, _, e, _⟩
      · exact e
      · cases e
    subst h0
    clear hr r0
    go_enter Try.func45, Try.ntmps45
    go_wp2
    go_ret
    exact ⟨_, rfl, World.ownsRow_nil _ _ _ _, Kept.refl _⟩
  | some ad =>
    by_cases h0 : zs = []
    · subst h0
      clear hr
      go_enter Try.func45, Try.ntmps45
      go_wp2_with (at_builtin; refine Stop.out ?_)
      refine ⟨?_⟩
      refine wpList_append_own_at _ rfl _ _ 35 rfl w.heap.size 2 i0 (.int .i64 0) 1 8 Try.underlying35 hi hz0 hz1 hz2 rfl (by decide) _ _ _ rfl r0 _ _ _ [] rfl rfl (by simp) (by simp) (by decide) (by decide) (by simp) ?_
      intro v1 w1 hown hg hni _
      clear hni
      have HO := hide hown
      have hg' : (w.alloc (.cells #[] 2)).grownBy w1 (some w.heap.size) := hg
      have K1 := hide (KK.out.did (Nat.le_refl _) (Turned.of_grownBy (R := fun i => i = w.heap.size) hg' (fun k hk => (Option.some.inj hk).symm)))
      clear hown hg hg' r0
      go_wp2
      go_ret
      exact ⟨_, rfl, HO.out, K1.out⟩
    · have hp : 0 < zs.length := List.length_pos_iff.2 h0
      obtain ⟨bl, off, e, hrow⟩ : ∃ bl off, some ad = some ⟨bl, off, none⟩ ∧ ∀ j z, zs[j]? = some z → w.cell? ⟨bl, off + j, none⟩ = some (.int .i64 z) := by
        rcases hr with e | h
        · exact (h0 e).elim
        · exact h
      obtain rfl : ad = ⟨bl, off, none⟩ := Option.some.inj e
      have hrow1 : ∀ j z, zs[j]? = some z → (w.alloc (.cells #[] 2)).cell? ⟨bl, off + j, none⟩ = some (.int .i64 z) := fun j z hz => KK.out.cell (hrow j z hz) id
      clear hr hrow h0
      go_enter Try.func45, Try.ntmps45
      go_wp2_with (at_builtin; refine Stop.out ?_)
      refine ⟨?_⟩
      refine wpList_append_own_at _ rfl _ _ 35 rfl w.heap.size 2 i0 (.int .i64 0) 1 8 Try.underlying35 hi hz0 hz1 hz2 rfl (by decide) _ _ _ rfl r0 ⟨bl, off, none⟩ zs.length cap (cellsOf zs) rfl (by simp) (news_p hrow1) (ints_oneCell _ _) (by unfold maxLen; omega) (by omega) (by simp) ?_
      intro v1 w1 hown hg hni _
      clear hni
      have HO : Hid (Row w1 w.heap.size 2 v1 zs) := hide (by simpa using hown)
      have hg' : (w.alloc (.cells #[] 2)).grownBy w1 (some w.heap.size) := hg
      have K1 := hide (KK.out.did (Nat.le_refl _) (Turned.of_grownBy (R := fun i => i = w.heap.size) hg' (fun k hk => (Option.some.inj hk).symm)))
      clear hown hg hg' r0 hrow1
      go_wp2
      go_ret
      exact ⟨_, rfl, HO.out, K1.out⟩

/-- Cells -/
theorem cells_c (w : World) (n₀ b : Nat) (v : Value) (s : Mst) (h : PMem w n₀ b v s) : Calls Try.prog 16 #[.pointer (some ⟨b, 0, none⟩)] w (Fresh s.xs w) := by
  obtain ⟨⟨c0, _⟩, _⟩ := h.opened
  have hl := h.len
  obtain ⟨a0, cap, rfl, hr, _, _⟩ := h.form
  have HC := hide (clone_s w a0 s.xs cap hr (by omega))
  clear h hr
  go_enter Try.func16, Try.ntmps16
  go_wp2_with (fail)
  refine HC.out.mono ?_
  rintro e w1 ⟨v1, rfl, hrow, hk⟩
  have HR := hide hrow
  have HK := hide hk
  clear hrow hk
  go_wp2
  go_ret
  exact ⟨_, rfl, HR.out, HK.out⟩

/-- Two slices that read alike are alike. -/
theorem words_c (w : World) (a b : Option Addr) (q : List Int) (cap cap' : Nat) (hr : Reads w a q) (hr' : Reads w b q) (hc : q.length ≤ cap) (hc' : q.length ≤ cap') (hm : cap ≤ maxLen) :
    Calls Try.prog 15 #[.slice a q.length cap, .slice b q.length cap'] w fun e w' => e = .returned (.bool true) ∧ ∃ m, w' = w.drewN m := by
  have HR := hide hr
  have HR' := hide hr'
  have hm' : (q.length : Int) ≤ 9223372036854775807 := by unfold maxLen at hm; omega
  clear hr hm hr'
  go_enter Try.func15, Try.ntmps15
  go_wp2
  go_loopw [5] (fun i wr => ∃ t d : Nat, t ≤ q.length ∧ i = .int .i64 (t : Int) ∧ wr = w.drewN d) (fun i _ => q.length - (intOf i).toNat)
  case atStart => exact ⟨0, 0, Nat.zero_le _, rfl, rfl⟩
  case round =>
    obtain ⟨t, d, ht, rfl, rfl⟩ := hrel
    by_cases hlt : t < q.length
    · obtain ⟨z, hz⟩ : ∃ p, q[t]? = some p := ⟨_, List.getElem?_eq_getElem hlt⟩
      obtain ⟨bl, off, rfl, hbl, g1⟩ := HR.out.at hz
      obtain ⟨bl', off', rfl, hbl', g2⟩ := HR'.out.at hz
      have i1 : (t : Int) < (q.length : Int) := by omega
      have i3 : t < cap := by omega
      have i4 : t < cap' := by omega
      clear hz
      go_wp2
      go_quiet (fail)
      go_wp2
      exact ⟨⟨t + 1, _, by omega, by simp, rfl⟩, by simp [intOf]; omega⟩
    · have i1 : ¬ ((t : Int) < (q.length : Int)) := by omega
      go_wp2
      go_ret
      exact ⟨rfl, _, rfl⟩

theorem cut_g (w : World) (x n : Int) (h0 : 0 < n) (h1 : n ≤ 100000) : Calls Try.prog 19 #[.int .i64 x, .int .i64 n] w fun e w' => e = .returned (.int .i64 (x % n)) ∧ w = w' := by
  have a1 : -n < x.tmod n := Int.lt_tmod_of_pos x h0
  have a2 : x.tmod n < n := Int.tmod_lt_of_pos x h0
  have a3 : x % n = if x.tmod n < 0 then x.tmod n + n else x.tmod n := by
    have e := Int.tmod_eq_emod (a := x) (b := n)
    have b1 := Int.emod_nonneg x (show n ≠ 0 by omega)
    have b2 := Int.emod_lt_of_pos x h0
    have hn : (n.natAbs : Int) = n := by omega
    by_cases hh : 0 ≤ x ∨ n ∣ x
    · rw [if_pos hh] at e
      rw [if_neg (by rw [e]; omega), e]
      omega
    · rw [if_neg hh] at e
      rw [if_pos (by rw [e]; omega), e]
      omega
  have n0 : (n == 0) = false := by simp only [beq_eq_false_iff_ne, ne_eq]; omega
  have n1 : (n == -1) = false := by simp only [beq_eq_false_iff_ne, ne_eq]; omega
  obtain ⟨t, ht⟩ : ∃ t, x.tmod n = t := ⟨_, rfl⟩
  rw [ht] at a1 a2 a3
  by_cases h : t < 0
  · rw [if_pos h] at a3
    have A3 := hide a3
    clear a3
    go_enter Try.func19, Try.ntmps19
    go_wp2
    go_ret
    exact ⟨by rw [A3.out]; rfl, rfl⟩
  · rw [if_neg h] at a3
    have A3 := hide a3
    clear a3
    go_enter Try.func19, Try.ntmps19
    go_wp2
    go_ret
    exact ⟨by rw [A3.out]; rfl, rfl⟩
end Go.Proofs.Ytgialpjdfeldeaa

/-! A memory that was made since w, whatever its slice is ('Now w W b s': it lies in W, at b, and nothing that lay at w has turned): the accesses and questions of the program's memory at such a one, what they answer told by equations. -/
namespace Go.Proofs.Ytgialpjdfeldeaa
open Go.RowKit

/-- A memory made since w lies at b in W; nothing that lay at w has turned. -/
def Now (w W : World) (b : Nat) (s : Mst) : Prop := (∃ v, PMem W w.heap.size b v s) ∧ Kept w W

namespace Now
variable {w W W' : World} {b : Nat} {s s' : Mst}
theorem lt (h : Now w W b s) : w.heap.size ≤ b ∧ b < W.heap.size := by
  obtain ⟨⟨v, h⟩, _⟩ := h
  exact h.lt b (.inl rfl)
theorem on (h : Now w W b s) (k : Kept W W') : Now w W' b s := by
  obtain ⟨⟨v, h⟩, hk⟩ := h
  exact ⟨⟨v, h.kept k⟩, hk.trans k⟩
theorem did {v : Value} (h : PMem W w.heap.size b v s) (hk : Kept w W) (d : Does 66 layP w.heap.size b v s' W W') : Now w W' b s' := by
  obtain ⟨v', h', t, _⟩ := d
  exact ⟨⟨v', h'⟩, hk.own (fun i hi => (h.lt i hi).1) t⟩
theorem put {v : Value} (h : PMem W w.heap.size b v s) (hk : Kept w W) (h' : PMem W' w.heap.size b v s') (t : Turned (Foot b v) W W') : Now w W' b s' := did h hk (Does.same h' t)
theorem box {v : Value} (h : PMem W w.heap.size b v s) (hk : Kept w W) (h' : PMem W' w.heap.size b v s') (t : Turned (fun k => k = b) W W') : Now w W' b s' := put h hk h' (t.mono (fun _ _ e => .inl e))
/-- A slice that lay at w. -/
theorem far (h : Now w W b s) {a : Option Addr} {zs : List Int} (hr : Reads w a zs) : Reads W a zs := hr.kept h.2
theorem room (h : Now w W b s) : (s.xs.length : Int) ≤ s.size ∧ s.size ≤ 65536 := by
  obtain ⟨⟨v, h⟩, _⟩ := h
  exact ⟨h.room, h.top⟩
end Now

theorem now_new (w W : World) (n : Int) (hk : Kept w W) (h0 : 1 ≤ n) (h1 : n ≤ 65536) :
    Calls Try.prog 9 #[.int .i64 n] W fun e W' => e = .returned (.tuple #[.pointer (some ⟨W.heap.size, 0, none⟩), .int .i64 0]) ∧ Now w W' W.heap.size (Mst.new n) ∧ Kept W W' :=
  (new_p W n h0 h1).mono fun _ _ ⟨h1, h2, h3, _⟩ => ⟨h1, ⟨⟨_, h2.low hk.size⟩, hk.trans h3⟩, h3⟩
theorem now_make (w W : World) (b : Nat) (s : Mst) (a : Option Addr) (ws : List Int) (cw : Nat) (r : Int) (f : Bool) (s' : Mst) (h : Now w W b s) (hr : Reads W a ws) (hlw : ws.length ≤ maxLen) (hs : ws ≠ [] → ∀ ad, a = some ad → ad.block ≠ b) (e1 : s.next ws = r) (e2 : s.fits ws.length = f) (e3 : s.make ws = s') :
    Calls Try.prog 40 #[.pointer (some ⟨b, 0, none⟩), .slice a ws.length cw] W fun e W' => e = .returned (.tuple #[.int .i64 r, .bool f]) ∧ Now w W' b s' := by
  obtain ⟨⟨v, h⟩, hk⟩ := h
  subst e1 e2 e3
  exact (make_p W w.heap.size b v s a ws cw h hk.size hr hlw hs).mono fun _ _ ⟨h1, h2⟩ => ⟨h1, Now.did h hk h2⟩
/-- Make of a slice that lay at w. -/
theorem now_put (w W : World) (b : Nat) (s : Mst) (a : Option Addr) (ws : List Int) (cw : Nat) (r : Int) (f : Bool) (s' : Mst) (h : Now w W b s) (hr : Reads w a ws) (hlw : ws.length ≤ maxLen) (e1 : s.next ws = r) (e2 : s.fits ws.length = f) (e3 : s.make ws = s') :
    Calls Try.prog 40 #[.pointer (some ⟨b, 0, none⟩), .slice a ws.length cw] W fun e W' => e = .returned (.tuple #[.int .i64 r, .bool f]) ∧ Now w W' b s' :=
  now_make w W b s a ws cw r f s' h (h.far hr) hlw (fun h0 ad e => Nat.ne_of_lt (Nat.lt_of_lt_of_le (hr.lt h0 ad e) h.lt.1)) e1 e2 e3
/-- Make of a literal. -/
theorem now_lit (w W : World) (b : Nat) (s : Mst) (ws : List Int) (cw : Nat) (r : Int) (f : Bool) (s' : Mst) (h : Now w W b s) (hlw : ws.length ≤ 100) (e1 : s.next ws = r) (e2 : s.fits ws.length = f) (e3 : s.make ws = s') :
    Calls Try.prog 40 #[.pointer (some ⟨b, 0, none⟩), .slice (some ⟨W.heap.size, 0, none⟩) ws.length cw] (W.alloc (.cells (ws.map (Value.int .i64)).toArray 2)) fun e W' => e = .returned (.tuple #[.int .i64 r, .bool f]) ∧ Now w W' b s' :=
  now_make w _ b s _ ws cw r f s' (h.on (Turned.alloc _ _ _)) (Reads.new W 2 ws) (by unfold maxLen; omega) (fun _ ad e => by cases e; exact Nat.ne_of_gt h.lt.2) e1 e2 e3
theorem now_look (w W : World) (b : Nat) (s : Mst) (a r : Int) (h : Now w W b s) (e1 : s.look a = r) :
    Calls Try.prog 56 #[.pointer (some ⟨b, 0, none⟩), .int .i64 a] W fun e W' => e = .returned (.int .i64 r) ∧ W = W' := by
  obtain ⟨⟨v, h⟩, hk⟩ := h
  subst e1
  exact (look_p W _ b v s a h).mono fun _ _ h => h
theorem now_size (w W : World) (b : Nat) (s : Mst) (r : Int) (h : Now w W b s) (e1 : s.size = r) : Calls Try.prog 41 #[.pointer (some ⟨b, 0, none⟩)] W fun e W' => e = .returned (.int .i64 r) ∧ W = W' := by
  obtain ⟨⟨v, h⟩, hk⟩ := h
  subst e1
  exact (size_c W _ b v s h).mono fun _ _ h => h
theorem now_used (w W : World) (b : Nat) (s : Mst) (r : Int) (h : Now w W b s) (e1 : (s.xs.length : Int) = r) : Calls Try.prog 29 #[.pointer (some ⟨b, 0, none⟩)] W fun e W' => e = .returned (.int .i64 r) ∧ W = W' := by
  obtain ⟨⟨v, h⟩, hk⟩ := h
  subst e1
  exact (used_c W _ b v s h).mono fun _ _ h => h
theorem now_cells (w W : World) (b : Nat) (s : Mst) (h : Now w W b s) : Calls Try.prog 16 #[.pointer (some ⟨b, 0, none⟩)] W fun e W' => ∃ a cap, e = .returned (.slice a s.xs.length cap) ∧ Reads W' a s.xs ∧ s.xs.length ≤ cap ∧ cap ≤ maxLen ∧ (∀ bl off, a = some ⟨bl, off, none⟩ → W.heap.size ≤ bl) ∧ Row W' W.heap.size 2 (.slice a s.xs.length cap) s.xs ∧ Kept W W' := by
  obtain ⟨⟨v, h⟩, hk⟩ := h
  refine (cells_c W _ b v s h).mono fun e W' hh => ?_
  obtain ⟨u, rfl, hrow, hk'⟩ := hh
  have hr := hrow.reads
  obtain ⟨a, cap, rfl, h1, h2, h3, h4⟩ := hr
  exact ⟨a, cap, rfl, h1, h2, h3, h4, hrow, hk'⟩
theorem words_k (W : World) (a b : Option Addr) (q : List Int) (cap cap' : Nat) (hr : Reads W a q) (hr' : Reads W b q) (hc : q.length ≤ cap) (hc' : q.length ≤ cap') (hm : cap ≤ maxLen) :
    Calls Try.prog 15 #[.slice a q.length cap, .slice b q.length cap'] W fun e w' => e = .returned (.bool true) ∧ Kept W w' :=
  (words_c W a b q cap cap' hr hr' hc hc' hm).mono fun _ _ ⟨h1, m, h2⟩ => ⟨h1, by rw [h2]; exact Kept.drewN _ _⟩

end Go.Proofs.Ytgialpjdfeldeaa
