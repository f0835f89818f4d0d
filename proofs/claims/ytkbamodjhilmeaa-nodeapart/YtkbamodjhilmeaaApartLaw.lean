/-
  What NodeApart answers: true; nothing that lay is turned.
-/
import Derived.Test.YtkbamodjhilmeaaBegin
namespace Go.Proofs.Ytkbamodjhilmeaa
open Go.RowKit

/-- A slice that is answered and has an element, where it lies. -/
theorem Fresh.box {zs : List Int} {w W : World} {e : Ending} (h : Fresh zs w e W) (h0 : zs ≠ []) : ∃ g cap, e = .returned (.slice (some ⟨g, 0, none⟩) zs.length cap) ∧ (∀ (j : Nat) (z : Int), zs[j]? = some z → W.cell? ⟨g, j, none⟩ = some (.int .i64 z)) ∧ (∀ j, W.frozen? ⟨g, j, none⟩ = false) ∧ zs.length ≤ cap ∧ w.heap.size ≤ g ∧ g < W.heap.size ∧ Kept w W := by
  obtain ⟨v, rfl, hrow, hk⟩ := h
  have hr := hrow
  have hp : 0 < zs.length := List.length_pos_iff.2 h0
  rcases hr.2 with ⟨rfl, h1⟩ | ⟨g, cap, cur, rfl, hg, hb, hc, hm, _⟩
  · omega
  · refine ⟨g, cap, rfl, fun j z hz => ?_, fun j => hrow.frozenAt j, hc, hg, (Array.getElem?_eq_some_iff.1 hb).1, hk⟩
    have hj := (List.getElem?_eq_some_iff.1 hz).1
    rw [hrow.cellAt j (by omega)]
    simp [hz]

set_option maxRecDepth 100000 in
set_option maxHeartbeats 4000000 in
theorem nodeApart_c (w : World) (k v guard place : Int) : Calls Try.prog 7 #[.int .i64 k, .int .i64 v, .int .i64 guard, .int .i64 place] w fun e w' => e = .returned (.bool true) ∧ Kept w w' := by
  go_enter Try.func7, Try.ntmps7
  go_wp2_with (fail)
  refine (leaf_c w k v).mono ?_
  intro e W1 hf
  obtain ⟨g1, p1, rfl, c1, f1, q1, l1, m1, k1⟩ := hf.box (by simp)
  have a0 := c1 0 k rfl
  have F1 := f1 0
  have K1 := hide k1
  have Q1 : (2 : Nat) ≤ p1 := q1
  clear hf c1 f1 q1 k1
  go_wp2_with (fail)
  refine (leaf_c W1 k v).mono ?_
  intro e W2 hf
  obtain ⟨g2, p2, rfl, c1, f1, q1, l2, m2, k1⟩ := hf.box (by simp)
  have b0 := c1 0 k rfl
  have b1 := c1 1 v rfl
  replace a0 := k1.cell a0 id
  replace F1 := (k1.frozen (p := ⟨g1, 0, none⟩) m1 id).trans F1
  have K2 := hide (K1.out.trans k1)
  have Q2 : (2 : Nat) ≤ p2 := q1
  clear hf c1 f1 q1 k1 K1
  go_wp2_with (fail)
  refine (dcss_c W2 guard place k v).mono ?_
  intro e W3 hf
  obtain ⟨g3, p3, rfl, c1, f1, q1, l3, m3, k1⟩ := hf.box (by simp)
  have c4 := c1 4 0 rfl
  have F3 := f1 4
  replace a0 := k1.cell a0 id
  replace F1 := (k1.frozen (p := ⟨g1, 0, none⟩) (by show g1 < _; omega) id).trans F1
  replace b0 := k1.cell b0 id
  replace b1 := k1.cell b1 id
  have K3 := hide (K2.out.trans k1)
  have Q3 : (5 : Nat) ≤ p3 := q1
  clear hf c1 f1 q1 k1 K2
  go_wp2_with (fail)
  refine (dcss_c W3 guard place k v).mono ?_
  intro e W4 hf
  obtain ⟨g4, p4, rfl, c1, f1, q1, l4, m4, k1⟩ := hf.box (by simp)
  have d4 := c1 4 0 rfl
  have d3 := c1 3 v rfl
  have d2 := c1 2 k rfl
  replace a0 := k1.cell a0 id
  replace F1 := (k1.frozen (p := ⟨g1, 0, none⟩) (by show g1 < _; omega) id).trans F1
  replace b0 := k1.cell b0 id
  replace b1 := k1.cell b1 id
  replace c4 := k1.cell c4 id
  replace F3 := (k1.frozen (p := ⟨g3, 4, none⟩) (by show g3 < _; omega) id).trans F3
  have K4 := hide (K3.out.trans k1)
  have Q4 : (5 : Nat) ≤ p4 := q1
  clear hf c1 f1 q1 k1 K3
  go_wp2_with (fail)
  refine (empty_c W4).mono ?_
  intro e W5 hf
  obtain ⟨g5, p5, rfl, c1, f1, q1, l5, m5, k1⟩ := hf.box (by simp)
  have x0 := c1 0 0 rfl
  have F5 := f1 0
  replace a0 := k1.cell a0 id
  replace F1 := (k1.frozen (p := ⟨g1, 0, none⟩) (by show g1 < _; omega) id).trans F1
  replace b0 := k1.cell b0 id
  replace b1 := k1.cell b1 id
  replace c4 := k1.cell c4 id
  replace F3 := (k1.frozen (p := ⟨g3, 4, none⟩) (by show g3 < _; omega) id).trans F3
  replace d4 := k1.cell d4 id
  replace d3 := k1.cell d3 id
  replace d2 := k1.cell d2 id
  have K5 := hide (K4.out.trans k1)
  have Q5 : (1 : Nat) ≤ p5 := q1
  clear hf c1 f1 q1 k1 K4
  go_wp2_with (fail)
  refine (empty_c W5).mono ?_
  intro e W6 hf
  obtain ⟨g6, p6, rfl, c1, f1, q1, l6, m6, k1⟩ := hf.box (by simp)
  have y0 := c1 0 0 rfl
  replace x0 := k1.cell x0 id
  replace F5 := (k1.frozen (p := ⟨g5, 0, none⟩) (by show g5 < _; omega) id).trans F5
  replace a0 := k1.cell a0 id
  replace F1 := (k1.frozen (p := ⟨g1, 0, none⟩) (by show g1 < _; omega) id).trans F1
  replace b0 := k1.cell b0 id
  replace b1 := k1.cell b1 id
  replace c4 := k1.cell c4 id
  replace F3 := (k1.frozen (p := ⟨g3, 4, none⟩) (by show g3 < _; omega) id).trans F3
  replace d4 := k1.cell d4 id
  replace d3 := k1.cell d3 id
  replace d2 := k1.cell d2 id
  have K6 := hide (K5.out.trans k1)
  have Q6 : (1 : Nat) ≤ p6 := q1
  clear hf c1 f1 q1 k1 K5
  have n13 : g1 ≠ g3 := by omega
  have n15 : g1 ≠ g5 := by omega
  have n35 : g3 ≠ g5 := by omega
  have n31 : g3 ≠ g1 := by omega
  have n51 : g5 ≠ g1 := by omega
  have n53 : g5 ≠ g3 := by omega
  have HK : ∀ u1 u2 u3 : Value, Calls Try.prog 8 #[] (((W6.setCell ⟨g1, 0, none⟩ u1).setCell ⟨g3, 4, none⟩ u2).setCell ⟨g5, 0, none⟩ u3) fun e W7 => e = .returned (.bool true) ∧ Turned (fun j => j = g1 ∨ j = g3 ∨ j = g5) W6 W7 := fun u1 u2 u3 =>
    (known_c _).mono fun e W7 h => ⟨h.1, Kept.behind (((Turned.setCell (R := fun j => j = g1 ∨ j = g3 ∨ j = g5) W6 ⟨g1, 0, none⟩ u1 (.inl rfl)).trans (Turned.setCell (R := fun j => j = g1 ∨ j = g3 ∨ j = g5) _ ⟨g3, 4, none⟩ u2 (.inr (.inl rfl))) (fun _ h => h) (fun _ _ h => h)).trans (Turned.setCell (R := fun j => j = g1 ∨ j = g3 ∨ j = g5) _ ⟨g5, 0, none⟩ u3 (.inr (.inr rfl))) (fun _ h => h) (fun _ _ h => h)) h.2⟩
  have HH := hide HK
  have HB := hide (And.intro b0 (And.intro b1 (And.intro d4 (And.intro d3 (And.intro d2 y0)))))
  clear HK b0 b1 d4 d3 d2 y0
  go_wp2_with (fail)
  refine (HH.out _ _ _).mono ?_
  rintro e W7 ⟨rfl, t7⟩
  obtain ⟨b0, b1, d4, d3, d2, y0⟩ := HB.out
  have N2 : ¬ (g2 = g1 ∨ g2 = g3 ∨ g2 = g5) := by omega
  have N4 : ¬ (g4 = g1 ∨ g4 = g3 ∨ g4 = g5) := by omega
  have N6 : ¬ (g6 = g1 ∨ g6 = g3 ∨ g6 = g5) := by omega
  replace b0 := t7.cell b0 N2
  replace b1 := t7.cell b1 N2
  replace d4 := t7.cell d4 N4
  replace d3 := t7.cell d3 N4
  replace d2 := t7.cell d2 N4
  replace y0 := t7.cell y0 N6
  have s1 := K6.out.size
  have KF : Hid (Kept w W7) := hide (K6.out.own (fun i e => by omega) t7)
  clear t7 HH HB a0 c4 x0 F1 F3 F5 N2 N4 N6 K6
  go_wp2
  go_ret
  exact ⟨rfl, KF.out⟩
end Go.Proofs.Ytkbamodjhilmeaa
