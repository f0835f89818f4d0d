/-
  An operation of the statements (six fields, the last a slice of numbers) as its cells say it, and a slice of such: what a proof's frame is told of arguments of these types. No conditions beyond each theorem's own.
-/
import Derived.Test.YtfgflfjlepgfpaaPair
import Derived.Deep.Slices
import Derived.ProofKit
import Derived.OpenShut
namespace Go.Proofs.Ytfgflfjlepgfpaa
open Go.RowKit Go.ChangeShapes Go.WideShapes

/-- These cells are an operation's. -/
def IsOp (w : World) (cs : List Value) : Prop :=
  ∃ (kind a : Int) (near : Bool) (x y : Int) (aw : Option Addr) (ws : List Int) (cw : Nat), cs = [.int .i64 kind, .int .i64 a, .bool near, .int .i64 x, .int .i64 y, .slice aw ws.length cw] ∧ (Reads w aw ws ∧ (aw = none → cw = 0)) ∧ ws.length ≤ cw ∧ cw ≤ maxLen

theorem ints_cells {H : Type} {enc : TypeId × Value → H} {w : World} {base fuel : Nat} {held : Bool} {cs : List Value} {x : DataW H × List MemPlace} (h : DataW.trod enc Try.prog w base (fun _ => true) held fuel 28 cs = some x) :
    ∃ (a : Option Addr) (zs : List Int) (cap : Nat), cs = [.slice a zs.length cap] ∧ (Reads w a zs ∧ (a = none → cap = 0)) ∧ zs.length ≤ cap ∧ cap ≤ maxLen := by
  rcases open_ints Try.underlying28 Try.underlying2 (by kernel_rfl) h with ⟨rfl, _⟩ | ⟨a, l, c, zs, rfl, _, hl, hm, hz, _, hcell, hwz⟩
  · exact ⟨none, [], 0, rfl, ⟨.inl rfl, fun _ => rfl⟩, Nat.le_refl _, Nat.zero_le _⟩
  · obtain ⟨ys, e, h1, h2, h3, _⟩ := reads_in (w := w) (a := some a) (len := l) (cap := c) (z := zs) (.inr ⟨a, rfl, hl, hm, by simpa using hz, hcell, hwz⟩)
    exact ⟨some a, ys, c, by rw [e], ⟨h3, fun e => by cases e⟩, h1, h2⟩

theorem op_cells {H : Type} {enc : TypeId × Value → H} {w : World} {base fuel : Nat} {held : Bool} {cs : List Value} {x : DataW H × List MemPlace} (h : DataW.trod enc Try.prog w base (fun _ => true) held fuel 39 cs = some x) : IsOp w cs := by
  obtain ⟨xs, n, rfl, rfl, hl, hxl, hf⟩ := DataW.trod_struct Try.underlying39 h
  have hl6 : cs.length = 6 := hl.trans (by kernel_rfl)
  have hx6 : xs.length = 6 := hxl
  have c2 : Try.prog.cellsOf 2 = 1 := by kernel_rfl
  have c3 : Try.prog.cellsOf 3 = 1 := by kernel_rfl
  have c4 : Try.prog.cellsOf 4 = 1 := by kernel_rfl
  have c28 : Try.prog.cellsOf 28 = 1 := by kernel_rfl
  obtain ⟨v0, v1, v2, v3, v4, v5, rfl⟩ : ∃ v0 v1 v2 v3 v4 v5, cs = [v0, v1, v2, v3, v4, v5] := by
    rcases cs with _ | ⟨v0, _ | ⟨v1, _ | ⟨v2, _ | ⟨v3, _ | ⟨v4, _ | ⟨v5, _ | ⟨v6, r⟩⟩⟩⟩⟩⟩⟩ <;> simp at hl6
    exact ⟨_, _, _, _, _, _, rfl⟩
  have get : ∀ i, i < 6 → ∃ y, xs[i]? = some y := fun i hi => ⟨_, List.getElem?_eq_getElem (by omega)⟩
  have h0 : DataW.trod enc Try.prog w base (fun _ => true) held n 3 (([v0, v1, v2, v3, v4, v5].drop 0).take (Try.prog.cellsOf 3)) = xs[0]? := hf 0 _ rfl
  have h1 : DataW.trod enc Try.prog w base (fun _ => true) held n 3 (([v0, v1, v2, v3, v4, v5].drop 1).take (Try.prog.cellsOf 3)) = xs[1]? := hf 1 _ rfl
  have h2 : DataW.trod enc Try.prog w base (fun _ => true) held n 4 (([v0, v1, v2, v3, v4, v5].drop 2).take (Try.prog.cellsOf 4)) = xs[2]? := hf 2 _ rfl
  have h3 : DataW.trod enc Try.prog w base (fun _ => true) held n 2 (([v0, v1, v2, v3, v4, v5].drop 3).take (Try.prog.cellsOf 2)) = xs[3]? := hf 3 _ rfl
  have h4 : DataW.trod enc Try.prog w base (fun _ => true) held n 2 (([v0, v1, v2, v3, v4, v5].drop 4).take (Try.prog.cellsOf 2)) = xs[4]? := hf 4 _ rfl
  have h5 : DataW.trod enc Try.prog w base (fun _ => true) held n 28 (([v0, v1, v2, v3, v4, v5].drop 5).take (Try.prog.cellsOf 28)) = xs[5]? := hf 5 _ rfl
  obtain ⟨y0, e0⟩ := get 0 (by omega)
  obtain ⟨y1, e1⟩ := get 1 (by omega)
  obtain ⟨y2, e2⟩ := get 2 (by omega)
  obtain ⟨y3, e3⟩ := get 3 (by omega)
  obtain ⟨y4, e4⟩ := get 4 (by omega)
  obtain ⟨y5, e5⟩ := get 5 (by omega)
  rw [e0, c3] at h0
  rw [e1, c3] at h1
  rw [e2, c4] at h2
  rw [e3, c2] at h3
  rw [e4, c2] at h4
  rw [e5, c28] at h5
  obtain ⟨k, q0, _⟩ := DataW.trod_int Try.underlying3 h0
  obtain ⟨a, q1, _⟩ := DataW.trod_int Try.underlying3 h1
  obtain ⟨b, q2, _⟩ := DataW.trod_bool Try.underlying4 h2
  obtain ⟨p, q3, _⟩ := DataW.trod_int Try.underlying2 h3
  obtain ⟨r, q4, _⟩ := DataW.trod_int Try.underlying2 h4
  obtain ⟨aw, ws, cw, q5, hr, hc, hm⟩ := ints_cells h5
  simp at q0 q1 q2 q3 q4 q5
  subst q0 q1 q2 q3 q4 q5
  exact ⟨k, a, b, p, r, aw, ws, cw, rfl, hr, hc, hm⟩

/-- An operation as a value. -/
theorem op_value {H : Type} {enc : TypeId × Value → H} {w : World} {base b0 : Nat} {held : Bool} {r : Reach} {v : Value} {d : DataW H} {ps : List MemPlace} (hv : Value.okWide Try.prog w r b0 39 v) (h : DataW.Trod enc Try.prog w base (fun _ => true) held 39 v d ps) :
    ∃ cs, v = .agg cs ∧ IsOp w cs.toList := by
  obtain ⟨cs, rfl, _⟩ := okWide_struct Try.underlying39 hv
  obtain ⟨fuel, hf⟩ := h
  exact ⟨cs, rfl, op_cells (by simpa [Value.cells] using hf)⟩

/-- A slice of operations, as the walk is told of it. -/
def AreOps (w : World) (a : Option Addr) (n : Nat) : Prop :=
  n = 0 ∨ ∃ bl off, a = some ⟨bl, off, none⟩ ∧ ∀ i, i < n → ∃ cs, cs.length = 6 ∧ IsOp w cs ∧ ∀ j, j < 6 → w.cell? ⟨bl, off + (i * 6 + j), none⟩ = cs[j]?

theorem ops_value {H : Type} {enc : TypeId × Value → H} {w : World} {base : Nat} {held : Bool} {a : Option Addr} {len cap : Nat} {d : DataW H} {ps : List MemPlace} (h : DataW.Trod enc Try.prog w base (fun _ => true) held 33 (.slice a len cap) d ps) :
    AreOps w a len ∧ len ≤ cap ∧ cap ≤ maxLen := by
  obtain ⟨fuel, hf⟩ := h
  rcases Go.Deep.open_slice Try.underlying33 hf with ⟨hcs, _⟩ | ⟨ad, l, c, m, n, D, Pl, hcs, hb, hl, hm, hmm, _, hi⟩
  · simp [Value.cells] at hcs
    obtain ⟨rfl, rfl, rfl⟩ := hcs
    exact ⟨.inl rfl, Nat.le_refl _, Nat.zero_le _⟩
  · simp [Value.cells] at hcs
    obtain ⟨rfl, rfl, rfl⟩ := hcs
    refine ⟨?_, hl, hm⟩
    by_cases h0 : len = 0
    · exact .inl h0
    · simp only [if_true] at hmm
      subst hmm
      have c6 : Try.prog.cellsOf 39 = 6 := by kernel_rfl
      have each : ∀ i, i < len → ∃ cs', cs'.length = 6 ∧ IsOp w cs' ∧ ∀ j, j < 6 → w.cell? (ad.add (i * 6 + j)) = cs'[j]? := fun i him => by
        obtain ⟨cs', h1, h2⟩ := hi i (by omega)
        rw [c6] at h1
        obtain ⟨_, h3, h4⟩ := World.cells?_some h1
        exact ⟨cs', h3, op_cells h2, fun j hj => by rw [← Go.Deep.add_add]; exact h4 j hj⟩
      obtain ⟨bl, off, spot⟩ := ad
      have hspot : spot = none := by
        obtain ⟨cs', h3, _, h4⟩ := each 0 (by omega)
        have h5 := h4 0 (by omega)
        rw [List.getElem?_eq_getElem (by omega)] at h5
        simpa [Addr.add] using World.cell?_spot h5
      subst hspot
      refine .inr ⟨bl, off, rfl, fun i him => ?_⟩
      obtain ⟨cs', h3, h5, h4⟩ := each i him
      exact ⟨cs', h3, h5, fun j hj => by rw [← Go.WideShapes.add_plain]; exact h4 j hj⟩
end Go.Proofs.Ytfgflfjlepgfpaa
