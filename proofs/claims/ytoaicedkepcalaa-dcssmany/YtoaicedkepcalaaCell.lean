/-
  Memories of chapter 7 in plain: a state ('Mst': what the used cells hold, how many there may be, the three counts) and what each call makes of it; and a memory as it lies ('MemAt': a block of five cells, one of which is a slice that owns its row). No number of the program but the types handed in (2: int64). No conditions beyond each theorem's own.
-/
import Derived.Test.YtoaicedkepcalaaOwn
import Derived.Laws.OwnMore
namespace Go.Proofs.Ytoaicedkepcalaa
open Go.RowKit

/-- What a memory is. -/
structure Mst where
  xs : List Int
  size : Int
  count : Int
  odd : Int
  ref : Int

namespace Mst
/-- Is there a used cell at a? -/
def used (s : Mst) (a : Int) : Bool := decide (1 ≤ a) && decide (a ≤ (s.xs.length : Int))
/-- What the cell at a holds. -/
def look (s : Mst) (a : Int) : Int := if s.used a = true then s.xs.getD (a - 1).toNat 0 else 0
/-- An access at a, counted. -/
def touch (s : Mst) (a : Int) : Mst := if s.used a = true then { s with count := wrap64 (s.count + 1) } else { s with count := wrap64 (s.count + 1), odd := wrap64 (s.odd + 1) }
/-- The cell at a holds x. -/
def put (s : Mst) (a x : Int) : Mst := if s.used a = true then { s with xs := s.xs.set (a - 1).toNat x } else s
def write (s : Mst) (a x : Int) : Mst := (s.touch a).put a x
def did (s : Mst) (a old : Int) : Bool := s.used a && (s.look a == old)
def cas (s : Mst) (a old x : Int) : Mst := if s.did a old = true then s.write a x else s.touch a
def add (s : Mst) (a d : Int) : Mst := s.write a (wrap64 (s.look a + d))
/-- Is there room for n cells? -/
def fits (s : Mst) (n : Nat) : Bool := decide (0 < n) && decide ((s.xs.length : Int) + n ≤ s.size)
def make (s : Mst) (ws : List Int) : Mst := if s.fits ws.length = true then { s with count := wrap64 (s.count + 1), xs := s.xs ++ ws } else { s with count := wrap64 (s.count + 1), ref := wrap64 (s.ref + 1) }
/-- The address of the first cell that is made. -/
def next (s : Mst) (ws : List Int) : Int := if s.fits ws.length = true then (s.xs.length : Int) + 1 else 0
/-- As it is made. -/
def new (n : Int) : Mst := ⟨[], n, 0, 0, 0⟩

theorem used_iff {s : Mst} {a : Int} : s.used a = true ↔ 1 ≤ a ∧ a ≤ (s.xs.length : Int) := by simp [used]
theorem used_nat {s : Mst} {a : Int} (h : s.used a = true) : ∃ j : Nat, a = (j : Int) + 1 ∧ j < s.xs.length := by
  obtain ⟨h1, h2⟩ := used_iff.1 h
  exact ⟨(a - 1).toNat, by omega, by omega⟩
theorem used_succ {s : Mst} {j : Nat} (h : j < s.xs.length) : s.used ((j : Int) + 1) = true := used_iff.2 ⟨by omega, by omega⟩
theorem back (j : Nat) : ((j : Int) + 1 - 1).toNat = j := by omega
theorem look_succ {s : Mst} {j : Nat} {z : Int} (h : s.xs[j]? = some z) : s.look ((j : Int) + 1) = z := by
  have hj := (List.getElem?_eq_some_iff.1 h).1
  rw [Mst.look, if_pos (used_succ hj), back, List.getD_eq_getElem?_getD, h]
  rfl
theorem look_none {s : Mst} {a : Int} (h : s.used a = false) : s.look a = 0 := by rw [Mst.look, h]; rfl
theorem touch_xs (s : Mst) (a : Int) : (s.touch a).xs = s.xs := by unfold touch; split <;> rfl
theorem touch_size (s : Mst) (a : Int) : (s.touch a).size = s.size := by unfold touch; split <;> rfl
theorem touch_used (s : Mst) (a c : Int) : (s.touch a).used c = s.used c := by simp [used, touch_xs]
theorem touch_look (s : Mst) (a c : Int) : (s.touch a).look c = s.look c := by simp [Mst.look, touch_used, touch_xs]
theorem put_size (s : Mst) (a x : Int) : (s.put a x).size = s.size := by unfold put; split <;> rfl
theorem put_len (s : Mst) (a x : Int) : (s.put a x).xs.length = s.xs.length := by unfold put; split <;> simp
theorem touch_in {s : Mst} {a : Int} (h : s.used a = true) : s.touch a = { s with count := wrap64 (s.count + 1) } := by rw [touch, if_pos h]
theorem write_in {s : Mst} {j : Nat} (h : j < s.xs.length) (x : Int) : s.write ((j : Int) + 1) x = { s with count := wrap64 (s.count + 1), xs := s.xs.set j x } := by
  have hu := used_succ h
  rw [write, put, touch_used, if_pos hu, touch_in hu, back]
theorem write_out {s : Mst} {a : Int} (h : s.used a = false) (x : Int) : s.write a x = s.touch a := by rw [write, put, touch_used, h]; rfl
theorem did_in {s : Mst} {j : Nat} {z : Int} (h : s.xs[j]? = some z) (old : Int) : s.did ((j : Int) + 1) old = (z == old) := by
  rw [did, used_succ (List.getElem?_eq_some_iff.1 h).1, look_succ h, Bool.true_and]
theorem did_out {s : Mst} {a : Int} (h : s.used a = false) (old : Int) : s.did a old = false := by rw [did, h, Bool.false_and]
end Mst

/-- The blocks of a memory: its box, and the row of the slice that lies there. -/
def Foot (b : Nat) (v : Value) : Nat → Prop := fun k => k = b ∨ v.ownBlock = some k

/-- The box of the program's memory, and of the document's. -/
def layP (v : Value) (n c o r : Int) : Array Value := #[v, .int .i64 n, .int .i64 c, .int .i64 o, .int .i64 r]
def layD (v : Value) (n c o r : Int) : Array Value := #[.int .i64 n, v, .int .i64 c, .int .i64 o, .int .i64 r]

/-- A memory lies at b: a box (of type T) that holds the slice v, which owns a row of its cells; all from n₀ on. -/
structure MemAt (T : TypeId) (lay : Value → Int → Int → Int → Int → Array Value) (w : World) (n₀ b : Nat) (v : Value) (s : Mst) : Prop where
  le : n₀ ≤ b
  box : w.heap[b]? = some (.cells (lay v s.size s.count s.odd s.ref) T)
  row : Row w n₀ 2 v s.xs
  room : (s.xs.length : Int) ≤ s.size
  top : s.size ≤ 65536

namespace MemAt
variable {T : TypeId} {lay : Value → Int → Int → Int → Int → Array Value} {w w' : World} {n₀ b : Nat} {v : Value} {s s' : Mst}
theorem lt (h : MemAt T lay w n₀ b v s) : ∀ k, Foot b v k → n₀ ≤ k ∧ k < w.heap.size := by
  rintro k (rfl | hk)
  · exact ⟨h.le, (Array.getElem?_eq_some_iff.1 h.box).1⟩
  · exact h.row.lt k hk
theorem row_turned (h : MemAt T lay w n₀ b v s) {R : Nat → Prop} (ht : Turned R w w') (hn : ∀ k, v.ownBlock = some k → ¬ R k) : Row w' n₀ 2 v s.xs := by
  obtain ⟨h1, h2⟩ := h.row
  refine ⟨h1, ?_⟩
  rcases h2 with h2 | ⟨g, cap, cur, rfl, hg, hh, r⟩
  · exact .inl h2
  · exact .inr ⟨g, cap, cur, rfl, hg, ht.heap hh (hn g rfl), r⟩
theorem turned (h : MemAt T lay w n₀ b v s) {R : Nat → Prop} (ht : Turned R w w') (hn : ∀ k, Foot b v k → ¬ R k) : MemAt T lay w' n₀ b v s :=
  ⟨h.le, ht.heap h.box (hn b (.inl rfl)), h.row_turned ht (fun k hk => hn k (.inr hk)), h.room, h.top⟩
theorem kept (h : MemAt T lay w n₀ b v s) (ht : Kept w w') : MemAt T lay w' n₀ b v s := h.turned ht (fun _ _ e => e)
theorem low (h : MemAt T lay w n₀ b v s) {m : Nat} (hm : m ≤ n₀) : MemAt T lay w m b v s := by
  refine ⟨Nat.le_trans hm h.le, h.box, ?_, h.room, h.top⟩
  obtain ⟨h1, h2⟩ := h.row
  refine ⟨h1, ?_⟩
  rcases h2 with h2 | ⟨g, cap, cur, rfl, hg, r⟩
  · exact .inl h2
  · exact .inr ⟨g, cap, cur, rfl, Nat.le_trans hm hg, r⟩
theorem not_row (h : MemAt T lay w n₀ b v s) (hT : T ≠ 2) : v.ownBlock ≠ some b := by
  rcases h.row.2 with ⟨rfl, _⟩ | ⟨g, cap, cur, rfl, _, hgb, _⟩
  · simp [Value.ownBlock]
  · intro e'
    obtain rfl : g = b := by simpa [Value.ownBlock] using e'
    have := h.box.symm.trans hgb
    simp at this
    exact hT this.2
/-- Another box, the same row. -/
theorem boxed (h : MemAt T lay w n₀ b v s) (hT : T ≠ 2) (ht : Turned (fun k => k = b) w w') (hb : w'.heap[b]? = some (.cells (lay v s'.size s'.count s'.odd s'.ref) T)) (hx : s'.xs = s.xs) (hs : s'.size = s.size) : MemAt T lay w' n₀ b v s' :=
  ⟨h.le, hb, by rw [hx]; exact h.row_turned ht (fun k hk e => h.not_row hT (by rw [hk, e])), by rw [hx, hs]; exact h.room, by rw [hs]; exact h.top⟩
/-- The slice as it is written out. -/
theorem form (h : MemAt T lay w n₀ b v s) : ∃ a cap, v = .slice a s.xs.length cap ∧ Reads w a s.xs ∧ s.xs.length ≤ cap ∧ cap ≤ maxLen := by
  obtain ⟨a, cap, h1, h2, h3, h4, _⟩ := h.row.reads
  exact ⟨a, cap, h1, h2, h3, h4⟩
theorem len (h : MemAt T lay w n₀ b v s) : s.xs.length ≤ 65536 := by have h1 := h.room; have h2 := h.top; omega
/-- The slice of a memory with a used cell. -/
theorem cell {j : Nat} (h : MemAt T lay w n₀ b v s) (hj : j < s.xs.length) : ∃ g cap z, v = .slice (some ⟨g, 0, none⟩) s.xs.length cap ∧ s.xs[j]? = some z ∧ w.cell? ⟨g, j, none⟩ = some (.int .i64 z) ∧ w.frozen? ⟨g, j, none⟩ = false ∧ g ≠ b ∨ T = 2 := by
  by_cases hT : T = 2
  · exact ⟨0, 0, 0, .inr hT⟩
  have hr := h.row
  have hnr := h.not_row hT
  rcases hr.2 with ⟨rfl, h0⟩ | ⟨g, cap, cur, rfl, hg, _⟩
  · omega
  · refine ⟨g, cap, s.xs[j], .inl ⟨rfl, List.getElem?_eq_getElem hj, ?_, hr.frozenAt j, fun e => hnr (by rw [e]; rfl)⟩⟩
    rw [hr.cellAt j (by omega)]
    simp [hj]
/-- A store into the row. -/
theorem stored {g cap j : Nat} (h : MemAt T lay w n₀ b (.slice (some ⟨g, 0, none⟩) s.xs.length cap) s) (hT : T ≠ 2) (x : Int) :
    MemAt T lay (w.setCell ⟨g, j, none⟩ (.int .i64 x)) n₀ b (.slice (some ⟨g, 0, none⟩) s.xs.length cap) { s with xs := s.xs.set j x } := by
  have hne := h.not_row hT
  obtain ⟨hs, hg⟩ := h.row.stored j (.int .i64 x)
  refine ⟨h.le, (Below.heap_setCell w ⟨g, j, none⟩ _ b (fun e => hne (by show some g = some b; rw [e]))).trans h.box, ?_, by simpa using h.room, h.top⟩
  show World.ownsRow _ n₀ 2 1 _ (s.xs.set j x).length (cellsOf (s.xs.set j x))
  rw [List.length_set]
  have : cellsOf (s.xs.set j x) = (cellsOf s.xs).set j (.int .i64 x) := by simp [cellsOf, List.map_set]
  rw [this]
  exact hs
/-- Behind an append to the row: the box lies as it lay, and is not the new row. -/
theorem appended {w1 : World} {ws : List Int} {g cap m : Nat} (h : MemAt T lay w n₀ b v s) (hT : T ≠ 2) (hm : ws.length = m) (hown : w1.ownsRow n₀ 2 1 (.slice (some ⟨g, 0, none⟩) (s.xs.length + m) cap) (s.xs.length + m) (cellsOf s.xs ++ cellsOf ws)) (hg : w.grownBy w1 v.ownBlock) :
    w1.heap[b]? = some (.cells (lay v s.size s.count s.odd s.ref) T) ∧ g ≠ b ∧ Row w1 n₀ 2 (.slice (some ⟨g, 0, none⟩) (s.xs.length + m) cap) (s.xs ++ ws) := by
  have hb : w1.heap[b]? = some (.cells (lay v s.size s.count s.odd s.ref) T) := (hg.block b (h.lt b (.inl rfl)).2 (fun e => h.not_row hT e.symm)).trans h.box
  refine ⟨hb, ?_, ?_⟩
  · intro e
    subst e
    rcases hown.2 with ⟨h0, _⟩ | ⟨g', cap', cur, h', _, hgb, _⟩
    · cases h0
    · cases h'
      have := hb.symm.trans hgb
      simp at this
      exact hT this.2
  · show World.ownsRow _ n₀ 2 1 _ (s.xs ++ ws).length (cellsOf (s.xs ++ ws))
    rw [List.length_append, hm, cellsOf, List.map_append]
    exact hown
end MemAt

/-- What a call leaves of the memory at b: another state; of what lay, its own blocks alone have turned; a block of it that was none is new. -/
def Does (T : TypeId) (lay : Value → Int → Int → Int → Int → Array Value) (n₀ b : Nat) (v : Value) (s' : Mst) (w w' : World) : Prop :=
  ∃ v', MemAt T lay w' n₀ b v' s' ∧ Turned (Foot b v) w w' ∧ ∀ k, Foot b v' k → Foot b v k ∨ w.heap.size ≤ k
theorem Does.same {T : TypeId} {lay : Value → Int → Int → Int → Int → Array Value} {n₀ b : Nat} {v : Value} {s' : Mst} {w w' : World} (h : MemAt T lay w' n₀ b v s') (t : Turned (Foot b v) w w') : Does T lay n₀ b v s' w w' := ⟨v, h, t, fun _ e => .inl e⟩

/-- A used cell of a memory, where it lies. -/
theorem MemAt.cellAt {T : TypeId} {lay : Value → Int → Int → Int → Int → Array Value} {w : World} {n₀ b : Nat} {v : Value} {s : Mst} {j : Nat} (h : MemAt T lay w n₀ b v s) (hT : T ≠ 2) (hj : j < s.xs.length) : ∃ g cap z, v = .slice (some ⟨g, 0, none⟩) s.xs.length cap ∧ s.xs[j]? = some z ∧ w.cell? ⟨g, j, none⟩ = some (.int .i64 z) ∧ w.frozen? ⟨g, j, none⟩ = false ∧ g ≠ b := by
  obtain ⟨g, cap, z, h' | h'⟩ := h.cell hj
  · exact ⟨g, cap, z, h'⟩
  · exact (hT h').elim

abbrev PMem := MemAt 50 layP
theorem PMem.opened {w : World} {n₀ b : Nat} {v : Value} {s : Mst} (h : PMem w n₀ b v s) : (w.cell? ⟨b, 0, none⟩ = some v ∧ w.cell? ⟨b, 1, none⟩ = some (.int .i64 s.size) ∧ w.cell? ⟨b, 2, none⟩ = some (.int .i64 s.count) ∧ w.cell? ⟨b, 3, none⟩ = some (.int .i64 s.odd) ∧ w.cell? ⟨b, 4, none⟩ = some (.int .i64 s.ref)) ∧ ∀ i, w.frozen? ⟨b, i, none⟩ = false := by
  have hb := h.box
  simp [World.cell?, World.frozen?, hb, layP]

/-- A cell of the box, turned. -/
theorem box_set {w : World} {b i : Nat} {cs : Array Value} {T : TypeId} (x : Value) (h : w.heap[b]? = some (.cells cs T)) : (w.setCell ⟨b, i, none⟩ x).heap[b]? = some (.cells (cs.set! i x) T) := by
  simp [World.setCell, Array.getElem?_modify, h]
end Go.Proofs.Ytoaicedkepcalaa
