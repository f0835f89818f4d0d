/-
  A yard, two frames of help beside it, and the array that leads to them. Conditions: each theorem's own.
-/
import Derived.Test.YtibnlaihiahjpaaGreatQHlB
namespace Go.Proofs.YtibnlaihiahjpaaGreat
open Go.RowKit Go.Shelf

/-- A yard, frames of help at f0 and f1, their array at fa. -/
structure Yh (w W : World) (y b x mb fa f0 f1 : Nat) (M : Mst) (ix : Ixp) (p0 p1 : Hp) : Prop where
  yx : Yx w W y b x mb M ix
  a0 : HpAt W f0 p0
  a1 : HpAt W f1 p1
  arr : W.heap[fa]? = some (.cells #[.pointer (some ⟨f0, 0, none⟩), .pointer (some ⟨f1, 0, none⟩)] 92)
  new : w.heap.size ≤ f0 ∧ w.heap.size ≤ f1 ∧ f0 ≠ f1
namespace Yh
variable {w W W' : World} {y b x mb fa f0 f1 : Nat} {M : Mst} {ix : Ixp} {p0 p1 : Hp}
theorem kept (h : Yh w W y b x mb fa f0 f1 M ix p0 p1) (k : Kept W W') : Yh w W' y b x mb fa f0 f1 M ix p0 p1 :=
  ⟨h.yx.kept k, h.a0.kept k, h.a1.kept k, k.heap h.arr id, h.new⟩
theorem cells (h : Yh w W y b x mb fa f0 f1 M ix p0 p1) : W.cell? ⟨y, 0, none⟩ = some (.pointer (some ⟨b, 0, none⟩)) ∧ W.cell? ⟨fa, 0, none⟩ = some (.pointer (some ⟨f0, 0, none⟩)) ∧ W.cell? ⟨fa, 1, none⟩ = some (.pointer (some ⟨f1, 0, none⟩)) := by
  have ha := h.arr
  exact ⟨h.yx.cells.1, by simp [World.cell?, ha], by simp [World.cell?, ha]⟩
end Yh
theorem yh_s0 (w W : World) (y b x mb fa f0 f1 : Nat) (M : Mst) (ix : Ixp) (p0 p1 : Hp) (h : Yh w W y b x mb fa f0 f1 M ix p0 p1) (hok : p0.Ok) (ho : M.ok) :
    Calls Tryz.prog 40 #[.pointer (some ⟨f0, 0, none⟩), .pointer (some ⟨b, 0, none⟩)] W fun e W' => e = .returned (.bool ((p0.step M).1.n == 7)) ∧ Yh w W' y b x mb fa f0 f1 (p0.step M).2 ix (p0.step M).1 p1 := by
  obtain ⟨⟨tb, v, mv, tv, lv, pz, h1, h2⟩, a0, a1, ar, n0, n1, ne⟩ := h
  refine (hp_step W _ b v f0 p0 M a0 h1.pm hok (fun a => ho.look a) (h1.pm.other a0 (by decide) (by decide)) _ _ _ rfl rfl).mono ?_
  rintro e W' ⟨rfl, R⟩
  refine ⟨rfl, ⟨tb, v, mv, tv, lv, pz, h1.prog R.turned (fun k hk => ?_) R.mem (fun k hk => .inl hk), h2.own (fun k hk => ?_) R.turned⟩, R.frame, a1.turned R.turned (fun e => ?_), R.turned.heap ar (fun e => ?_), n0, n1, ne⟩
  · rcases hk with rfl | hk
    · exact .inr ⟨_, _, a0, by decide, by decide⟩
    · exact .inl hk
  · rcases hk with rfl | hk
    · exact n0
    · exact (h1.pm.lt k hk).1
  · rcases e with e | e
    · exact ne e.symm
    · exact h1.pm.other a1 (by decide) (by decide) e
  · rcases e with e | e
    · have := a0
      unfold HpAt at this
      rw [← e, ar] at this
      simp at this
    · exact h1.pm.other ar (by decide) (by decide) e
theorem yh_s1 (w W : World) (y b x mb fa f0 f1 : Nat) (M : Mst) (ix : Ixp) (p0 p1 : Hp) (h : Yh w W y b x mb fa f0 f1 M ix p0 p1) (hok : p1.Ok) (ho : M.ok) :
    Calls Tryz.prog 40 #[.pointer (some ⟨f1, 0, none⟩), .pointer (some ⟨b, 0, none⟩)] W fun e W' => e = .returned (.bool ((p1.step M).1.n == 7)) ∧ Yh w W' y b x mb fa f0 f1 (p1.step M).2 ix p0 (p1.step M).1 := by
  obtain ⟨⟨tb, v, mv, tv, lv, pz, h1, h2⟩, a0, a1, ar, n0, n1, ne⟩ := h
  refine (hp_step W _ b v f1 p1 M a1 h1.pm hok (fun a => ho.look a) (h1.pm.other a1 (by decide) (by decide)) _ _ _ rfl rfl).mono ?_
  rintro e W' ⟨rfl, R⟩
  refine ⟨rfl, ⟨tb, v, mv, tv, lv, pz, h1.prog R.turned (fun k hk => ?_) R.mem (fun k hk => .inl hk), h2.own (fun k hk => ?_) R.turned⟩, a0.turned R.turned (fun e => ?_), R.frame, R.turned.heap ar (fun e => ?_), n0, n1, ne⟩
  · rcases hk with rfl | hk
    · exact .inr ⟨_, _, a1, by decide, by decide⟩
    · exact .inl hk
  · rcases hk with rfl | hk
    · exact n1
    · exact (h1.pm.lt k hk).1
  · rcases e with e | e
    · exact ne e
    · exact h1.pm.other a0 (by decide) (by decide) e
  · rcases e with e | e
    · have := a1
      unfold HpAt at this
      rw [← e, ar] at this
      simp at this
    · exact h1.pm.other ar (by decide) (by decide) e
/-- The two behind some steps: what the slot stands for. -/
structure Tw (k : Hc) (M : Mst) (p0 p1 : Hp) (u : Bool) : Prop where
  h : ∃ z, Sh k.m M (k.phi u z) ∧ Hl k p0 u z ∧ Hl k p1 u z ∧ (z = true → u = true)
theorem Tw.logic {k : Hc} (K : k.Ok) {M : Mst} {p0 p1 : Hp} {u : Bool} (h : Tw k M p0 p1 u) : M.logicZ k.s = if u = true ∧ k.out = 1 then k.x else k.o := by
  obtain ⟨z, hs, _, _, hz⟩ := h.h
  exact Hc.hl_logic K hs hz
theorem Tw.ok {k : Hc} (K : k.Ok) {M : Mst} {p0 p1 : Hp} {u : Bool} (h : Tw k M p0 p1 u) : M.ok ∧ p0.Ok ∧ p1.Ok := by
  obtain ⟨z, hs, h0, h1, _⟩ := h.h
  exact ⟨hs.ok, Hc.Hl.ok K h0, Hc.Hl.ok K h1⟩
theorem tw_new {k : Hc} (K : k.Ok) : Tw k k.m (Hp.new k.D) (Hp.new k.D) false := ⟨false, Hc.start K, hl_new k, hl_new k, fun e => by cases e⟩
theorem Tw.s0 {k : Hc} (K : k.Ok) {M : Mst} {p0 p1 : Hp} {u : Bool} (h : Tw k M p0 p1 u) : ∃ u', Tw k (p0.step M).2 (p0.step M).1 p1 u' ∧ (u = true → u' = true) ∧ (p0.step M).1.n = if p0.n = 7 then 7 else p0.n + 1 := by
  obtain ⟨z, hs, h0, h1, hz⟩ := h.h
  obtain ⟨u', z', S⟩ := Hc.hl_step K hs h0
  exact ⟨u', ⟨z', S.sh, S.fr, h1.le S.lu S.lz, S.zu hz⟩, S.lu, S.hn⟩
theorem Tw.s1 {k : Hc} (K : k.Ok) {M : Mst} {p0 p1 : Hp} {u : Bool} (h : Tw k M p0 p1 u) : ∃ u', Tw k (p1.step M).2 p0 (p1.step M).1 u' ∧ (u = true → u' = true) ∧ (p1.step M).1.n = if p1.n = 7 then 7 else p1.n + 1 := by
  obtain ⟨z, hs, h0, h1, hz⟩ := h.h
  obtain ⟨u', z', S⟩ := Hc.hl_step K hs h1
  exact ⟨u', ⟨z', S.sh, h0.le S.lu S.lz, S.fr, S.zu hz⟩, S.lu, S.hn⟩
/-- At their end it is settled. -/
theorem Tw.fin {k : Hc} {M : Mst} {p0 p1 : Hp} {u : Bool} (h : Tw k M p0 p1 u) (e : p0.n = 7) : u = true := by
  obtain ⟨z, hs, h0, h1, hz⟩ := h.h
  exact h0.hu (by omega)
theorem Tw.n7 {k : Hc} {M : Mst} {p0 p1 : Hp} {u : Bool} (h : Tw k M p0 p1 u) : p0.n ≤ 7 ∧ p1.n ≤ 7 ∧ 0 ≤ p0.n ∧ 0 ≤ p1.n := by
  obtain ⟨z, hs, h0, h1, hz⟩ := h.h
  exact ⟨h0.hn.2, h1.hn.2, h0.hn.1, h1.hn.1⟩
end Go.Proofs.YtibnlaihiahjpaaGreat
