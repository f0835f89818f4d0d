/-
  A read of a slot of a yard's tree, alone, in plain: how long it goes, and what other slots stand for. Conditions: the theorem's own.
-/
import Derived.Test.YtibnlaihiahjpaaGreatQRsB
namespace Go.Proofs.YtibnlaihiahjpaaGreat
open Go.RowKit Go.Shelf

theorem logic_like {m m' : Mst} (e : m'.xs = m.xs) (c : Int) : m'.logicZ c = m.logicZ c := by
  unfold Mst.logicZ
  simp only [look_xs e]
theorem PRow.block {w : World} {n₀ n c : Nat} {E : TypeId} {a : Option Addr} {xs : List (Int × Int)} (h : PRow w n₀ E (.slice a n c) xs) : ∀ ad, a = some ad → n₀ ≤ ad.block ∧ ad.block < w.heap.size := fun ad e => by
  rcases h.2 with ⟨e1, _⟩ | ⟨g, cap, cur, e1, hg, hh, _⟩
  · cases e1; cases e
  · cases e1; cases e
    exact ⟨hg, (Array.getElem?_eq_some_iff.1 hh).1⟩
theorem Row.block {w : World} {n₀ n c : Nat} {a : Option Addr} {xs : List Int} (h : Row w n₀ 2 (.slice a n c) xs) : ∀ ad, a = some ad → n₀ ≤ ad.block ∧ ad.block < w.heap.size := fun ad e => by
  rcases h.2 with ⟨e1, _⟩ | ⟨g, cap, cur, e1, hg, hh, _⟩
  · cases e1; cases e
  · cases e1; cases e
    exact ⟨hg, (Array.getElem?_eq_some_iff.1 hh).1⟩
/-- What a law asks of it. -/
structure Rsp (m : Mst) (ix : Ixp) (s : Int) (N : Nat) : Prop where
  n : N = if kd (m.look s) = 5 then 9 else 1
  step : ∀ j, j < N → Rok (rit s m j) ∧ (rit s m (j + 1)).1.d = decide (j + 1 = N)
  d : (rit s m N).1.d = true
  ok : (rit s m N).2.ok
  len : (rit s m N).2.xs.length = m.xs.length
  same : kd (m.look s) ≠ 5 → (rit s m N).2.xs = m.xs
  els : ∀ q ∈ ownL ix.m, q.2 ≠ s → (rit s m N).2.logicZ q.2 = ix.m.logicZ q.2
theorem rsp_of {m : Mst} {ix : Ixp} {c : Nat} (o : YOk m ix c) {p : Int × Int} (hp : p ∈ ownL ix.m) : ∃ N, Rsp m ix p.2 N := by
  obtain ⟨g, hI, _⟩ := o.wi
  have hm : Sd.Inv m g := (hI.quiet o.xs o.size).1
  have hok := o.ok.2
  have ro : ∀ q ∈ ownL ix.m, g.ro q.2 = some .slot := fun q hq => by
    obtain ⟨_, _, d, n, i, lo, hi, h, _⟩ := Sd.own_sl hI hq
    exact h.ro
  by_cases k5 : kd (m.look p.2) = 5
  · obtain ⟨gd, ov, xv, hD, D⟩ := dk_of hm (ro p hp) k5
    obtain ⟨φ, h1, h2, h3, h4⟩ := rit_nine hok D
    refine ⟨9, (by rw [if_pos k5]), h1, h3, h2.ok, h2.len, fun e => absurd k5 e, fun q hq hne => ?_⟩
    rw [← logic_like o.xs]
    exact rit_else hm hD h2 h4 (ro p hp) (ro q hq) hne
  · obtain ⟨⟨h1, h2⟩, h3⟩ := rit_one hok k5
    refine ⟨1, (by rw [if_neg k5]), fun j hj => ?_, h2, ?_, by rw [h3], fun _ => h3, fun q hq hne => ?_⟩
    · obtain rfl : j = 0 := by omega
      exact ⟨h1, by rw [h2]; rfl⟩
    · exact ⟨by rw [h3]; exact hok.1, by rw [h3]; exact hok.2⟩
    · rw [logic_like h3, logic_like o.xs]
theorem rit_step (s : Int) (m : Mst) (k : Nat) : (rit s m k).1.step (rit s m k).2 = ((rit s m (k + 1)).1, (rit s m (k + 1)).2) := rfl
end Go.Proofs.YtibnlaihiahjpaaGreat
