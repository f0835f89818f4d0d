/-
  A Dcss that is laid, and two that help it, in plain. Conditions: each theorem's own.
-/
import Derived.Test.YtibnlaihiahjpaaGreatQRsC
namespace Go.Proofs.YtibnlaihiahjpaaGreat
open Go.RowKit
open Sd (Gh IsDc Pd layZ layW)

theorem look_app {m m' : Mst} {l : List Int} (e : m'.xs = m.xs ++ l) {c : Int} (h1 : 1 ≤ c) (h2 : c ≤ m.xs.length) : m'.look c = m.look c := by
  unfold Mst.look Mst.used
  rw [e, List.length_append]
  simp only [List.getD_eq_getElem?_getD]
  rw [List.getElem?_append_left (by omega)]
  have c1 : (decide (1 ≤ c) && decide (c ≤ ((m.xs.length + l.length : Nat) : Int))) = true := by simp; omega
  have c2 : (decide (1 ≤ c) && decide (c ≤ (m.xs.length : Int))) = true := by simp; omega
  rw [if_pos c1, if_pos c2]
theorem look_app2 {m m' : Mst} {l : List Int} (e : m'.xs = m.xs ++ l) {j : Nat} (hj : j < l.length) {c : Int} (hc : c = m.xs.length + 1 + j) : m'.look c = l.getD j 0 := by
  subst hc
  unfold Mst.look Mst.used
  rw [e, List.length_append]
  have c1 : (decide (1 ≤ (m.xs.length : Int) + 1 + j) && decide ((m.xs.length : Int) + 1 + j ≤ ((m.xs.length + l.length : Nat) : Int))) = true := by simp; omega
  rw [if_pos c1]
  simp only [List.getD_eq_getElem?_getD]
  rw [List.getElem?_append_right (by omega)]
  congr 2
  omega
theorem write_ne (m : Mst) (a x : Int) {c : Int} (h : c ≠ a) : (m.write a x).look c = m.look c := by
  cases hu : m.used a with
  | true => rw [Sd.look_set hu, if_neg h]
  | false => rw [Mst.write_out hu, Mst.touch_look]
/-- What Lay puts in. -/
theorem lay_dc {m : Mst} {g : Gh} (h : Sd.Inv m g) {p : Int × Int} (hp : p ∈ ownL m) (sh : Bool) (r0 : (layZ m p sh).2 ≠ 0) {M : Mst} (e1 : M.xs = (layZ m p sh).1.xs) (e2 : M.size = (layZ m p sh).1.size) :
    ∃ gd o x, Dk M p.2 (layZ m p sh).2 gd o x ∧ M.look ((layZ m p sh).2 + 4) = 0 ∧ o ≠ x ∧ gd ≠ p.2 ∧ gd ≠ (layZ m p sh).2 + 4 := by
  obtain ⟨g', G⟩ := Sd.lay_gt h (Sd.own_sl h hp) sh 0
  obtain ⟨h0, hcm, d, n, i, lo, hi, sl, iv⟩ := Sd.own_sl h hp
  have I' : Sd.Inv M g' := (G.inv.quiet e1 e2).1
  have ro' : g'.ro p.2 = some .slot := (G.ex.sl sl).ro
  have lp := h.lt (c := p.2) (by rw [sl.ro]; exact fun e => by cases e)
  have hat : Sd.At g (p.1 + 2) p.2 := ⟨p.1, d, n, i, lo, hi, sl, rfl, iv⟩
  obtain ⟨w2, i2⟩ := hat.small h
  have ep : p.2 = p.1 + 4 + d + i := sl.2.2.2
  have d1 := sl.1.pos
  have i1 := sl.2.1
  have hlM := I'.ok.2
  by_cases hk : kd (m.look p.2) = 5 ∨ kd (m.look p.2) = 3 ∨ kd (m.look p.2) = 4
  · unfold layZ at r0
    rw [if_pos hk] at r0
    exact absurd rfl r0
  have ow : Sd.OkW m g p.2 (m.look p.2) := by
    rcases h.sees sl.ro with e | e | ⟨e, _⟩
    · exact absurd e h0
    · exact e
    · exact absurd (.inl e) hk
  by_cases ff : m.fits 1 = true ∧ (m.make [0]).fits 5 = true
  · have f1 : m.fits ([0] : List Int).length = true := ff.1
    obtain ⟨m1, hm1⟩ : ∃ m1, m.make [0] = m1 := ⟨_, rfl⟩
    have x1 : m1.xs = m.xs ++ [0] := by rw [← hm1]; unfold Mst.make; rw [if_pos f1]
    have l1 : m1.xs.length = m.xs.length + 1 := by rw [x1]; simp
    obtain ⟨A, hA⟩ : ∃ A, (m.xs.length : Int) + 1 = A := ⟨_, rfl⟩
    have en : m.next [0] = A := by unfold Mst.next; rw [if_pos f1, hA]
    have ew : layW m p = [p.1 + 2, p.2, m.look p.2, Rf.ofZ 1 A, 0] := by unfold layW; rw [w2, en]
    have f5 : m1.fits (layW m p).length = true := by rw [ew, ← hm1]; exact ff.2
    obtain ⟨m2, hm2⟩ : ∃ m2, m1.make (layW m p) = m2 := ⟨_, rfl⟩
    have x2 : m2.xs = m1.xs ++ layW m p := by rw [← hm2]; unfold Mst.make; rw [if_pos f5]
    obtain ⟨D, hD⟩ : ∃ D, m1.next (layW m p) = D := ⟨_, rfl⟩
    have eD : D = (m1.xs.length : Int) + 1 := by rw [← hD]; unfold Mst.next; rw [if_pos f5]
    have lk2 : m2.look p.2 = m.look p.2 := by rw [look_app x2 lp.1 (by omega), look_app x1 lp.1 lp.2]
    have u2 : m2.used p.2 = true := Mst.used_iff.2 ⟨lp.1, by rw [x2, List.length_append]; omega⟩
    obtain ⟨m3, hm3⟩ : ∃ m3, m2.cas p.2 (m.look p.2) (Rf.ofZ 5 D) = m3 := ⟨_, rfl⟩
    have ec : m3 = m2.write p.2 (Rf.ofZ 5 D) := by
      rw [← hm3]
      unfold Mst.cas
      rw [if_pos (by unfold Mst.did; rw [u2, lk2]; simp)]
    have EL : layZ m p sh = (if sh = true ∧ p.1 ≠ 1 then m3.write (p.1 + 2) 1 else m3, D) := by
      unfold layZ
      rw [if_neg hk, if_pos ff, hm1, hm2, hD, hm3, w2]
    rw [EL] at e1 ⊢
    have LK : ∀ c, c ≠ p.1 + 2 → M.look c = m3.look c := fun c hc => by
      rw [look_xs e1]
      split
      · exact write_ne _ _ _ hc
      · rfl
    have L3 : ∀ c, c ≠ p.1 + 2 → M.look c = if c = p.2 then Rf.ofZ 5 D else m2.look c := fun c hc => by rw [LK c hc, ec, Sd.look_set u2]
    have lM : M.xs.length = m1.xs.length + 5 := by
      have a3 : m3.xs.length = m2.xs.length := by rw [ec]; exact Sd.len_set _ _ _
      have a2 : m2.xs.length = m1.xs.length + 5 := by rw [x2, List.length_append, ew]; rfl
      rw [e1]
      show (if sh = true ∧ p.1 ≠ 1 then m3.write (p.1 + 2) 1 else m3).xs.length = _
      split
      · rw [Sd.len_set, a3, a2]
      · rw [a3, a2]
    have zs : M.look p.2 = Rf.ofZ 5 D := by rw [L3 _ (by omega), if_pos rfl]
    obtain ⟨kz, az⟩ := Sd.ofk (k := 5) (D := D) (by omega) (by omega) (by omega) (by omega)
    obtain ⟨kA, aA⟩ := Sd.ofk (k := 1) (D := A) (by omega) (by omega) (by omega) (by omega)
    obtain ⟨gd, o, x, _, DK⟩ := dk_of I' ro' (by rw [zs]; exact kz)
    rw [zs, az] at DK
    have lw : ∀ (j : Nat), j < 5 → M.look (D + j) = (layW m p).getD j 0 := fun j hj => by
      rw [L3 _ (by omega), if_neg (by omega)]
      exact look_app2 x2 (by rw [ew]; exact hj) (by omega)
    have c0 : M.look D = p.1 + 2 := by have := lw 0 (by omega); rw [ew] at this; simpa using this
    have c2 : M.look (D + 2) = m.look p.2 := by have := lw 2 (by omega); rw [ew] at this; simpa using this
    have c3 : M.look (D + 3) = Rf.ofZ 1 A := by have := lw 3 (by omega); rw [ew] at this; simpa using this
    have c4 : M.look (D + 4) = 0 := by have := lw 4 (by omega); rw [ew] at this; simpa using this
    have eg : gd = p.1 + 2 := by rw [← DK.c0, c0]
    have eo : o = m.look p.2 := by rw [← DK.c2, c2]
    have ex : x = Rf.ofZ 1 A := by rw [← DK.c3, c3]
    refine ⟨gd, o, x, DK, c4, fun e => ?_, by omega, by omega⟩
    rw [eo, ex] at e
    rw [e] at ow
    rcases ow with ⟨_, hE, _⟩ | ⟨k, _⟩ | ⟨k, _⟩ | ⟨k, _⟩
    · rw [aA] at hE
      have := h.lt (c := A) (by rw [hE.c0]; exact fun e => by cases e)
      omega
    · rw [kA] at k; cases k
    · rw [kA] at k; cases k
    · rw [kA] at k; cases k
  · unfold layZ at r0
    rw [if_neg hk, if_neg ff] at r0
    exact absurd rfl r0
end Go.Proofs.YtibnlaihiahjpaaGreat
