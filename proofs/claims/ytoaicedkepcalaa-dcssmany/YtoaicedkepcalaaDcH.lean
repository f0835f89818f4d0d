/-
  DcssMany in plain: a helper begins, a helper's step, the guard is shut; how many turns. No conditions beyond each theorem's own.
-/
import Derived.Test.YtoaicedkepcalaaDcQ
namespace Go.Proofs.Ytoaicedkepcalaa
open Go.RowKit

variable {old new : Nat → Int} {m : Mst} {s : Int} {o : Nat → Int} {p : Nat → Dp} {q : Nat → Option Hp}
theorem FI.help {m : Mst} {s o : Int} {p : Dp} {q : Option Hp} {old new : Int} (h : FI m s o p q old new) (hI : p.In) {h' : Hp} (hh : HI p.r old new o h') : FI m s o p (some h') old new :=
  ⟨h.g, h.s', h.o', h.x, h.n, h.c, h.c0, h.r0, h.rc, h.oo, fun e => absurd hI e, h.inn, h.c3, h.o4, h.c5, h.e6, fun x e => by cases e; exact hh⟩
/-- A helper begins. -/
theorem DI.begin (h : DI old new m s o p q) {j : Nat} (hj : j < 5) (h1 : 1 ≤ (p j).n) (hs : s = (p j).w) : DI old new m s o p (upd q j (some (Hp.new (p j).r))) := by
  have F := h.fr j hj
  have hI : (p j).In := Classical.byContradiction fun e => (F.out e).2.2 h1 hs
  have HN : HI (p j).r (old j) (new j) (o j) (Hp.new (p j).r) := ⟨by simp [Hp.new], rfl, fun e => by simp [Hp.new] at e, fun e => by simp [Hp.new] at e, fun e => by simp [Hp.new] at e, fun e => by simp [Hp.new] at e, by simp [Hp.new], fun e => by simp [Hp.new] at e, fun e => by simp [Hp.new] at e⟩
  have := h.set (q' := some (Hp.new (p j).r)) hj (m' := m) (s' := s) (o' := o j) (p' := p j) h.sz h.odd h.ok h.s6 rfl (fun _ _ _ _ r => r) (.inl rfl) (F.help hI HN) (fun i hi hij a b => h.ap i j hi hj hij a b) (h.slotAs (fun a b => ⟨a, b⟩))
  rwa [upd_id, upd_id] at this
/-- The guard is shut. -/
theorem DI.shut (h : DI old new m s o p q) : DI old new (m.write 3 1) s o p q ∧ (m.write 3 1).logicZ 6 = m.logicZ 6 := by
  obtain ⟨t1, t2, t3, t4, t5⟩ := h.wrote (a := 3) (x := 1) h.u3 ⟨by decide, by decide⟩
  rw [if_neg (by decide)] at t4
  have D : DI old new (m.write 3 1) s o p q := ⟨t1, t2, t3, t4, by rw [t5]; exact h.l7, by rw [t5]; exact h.len, fun j hj => (h.fr j hj).other (fun _ r => r.write h.u3 _ (by have := r.lo; left; omega)) (.inl rfl), h.ap, h.slot⟩
  refine ⟨D, ?_⟩
  rcases h.slot with e | ⟨i, hi, e1, e2⟩
  · rw [h.lg_pl e, D.lg_pl e]
  · have n1 : 1 ≤ (p i).n := by have := e1.1; omega
    rw [D.lg_in hi n1 e2, h.lg_in hi n1 e2]
/-- What a helper's step leaves. -/
structure HS (old new : Nat → Int) (m : Mst) (o : Nat → Int) (p : Nat → Dp) (q : Nat → Option Hp) (j : Nat) (h' : Hp) (m' : Mst) (s' o' : Int) : Prop where
  di : DI old new m' s' (upd o j o') p (upd q j (some h'))
  tn : Tn m m' (old j) (new j) (o j) o' (1 ≤ (p j).n)
theorem HI.ok {r old new o : Int} {h : Hp} (hh : HI r old new o h) (h1 : 0 ≤ r) (h2 : r ≤ 1000000) : h.Ok := ⟨hh.n1, by rw [hh.a1]; exact ⟨h1, h2⟩, hh.pb⟩
/-- A helper's step. -/
theorem help_step (T : Two old new) (h : DI old new m s o p q) {j : Nat} (hj : j < 5) {x : Hp} (hq : q j = some x) : ∃ h' m' s' o', x.step m = (h', m') ∧ HS old new m o p q j h' m' s' o' := by
  have F := h.fr j hj
  have X := F.hp x hq
  have hI : (p j).In := Classical.byContradiction fun e => by have := (F.out e).1; rw [hq] at this; cases this
  have n1 : 1 ≤ (p j).n := by have := hI.1; omega
  have R := F.rc n1
  obtain ⟨rg1, rg2⟩ := h.rng hj n1
  have WK := h.wk hj n1
  obtain ⟨r, hr⟩ : ∃ r, (p j).r = r := ⟨_, rfl⟩
  have hw : (p j).w = Rf.ofZ 5 r := by rw [Dp.w, hr]
  rw [hr] at R rg1 rg2
  have X0 := X
  rw [hr] at X
  -- an access that turns nothing
  have keep : ∀ (a : Int) (h' : Hp), m.used a = true → HI r (old j) (new j) (o j) h' → HS old new m o p q j h' (m.touch a) s (o j) := fun a h' hu hh => by
    have D := h.keep (q' := some h') hj (p' := p j) a hu rfl (fun _ => rfl) (fun e => e) (F.help hI (by rw [hr]; exact hh))
    rw [upd_id p j] at D
    exact ⟨D, .inl ⟨touch_logic m a, rfl⟩⟩
  obtain ⟨n, a, g, oz, ps, pp, pw⟩ := x
  obtain rfl : a = r := X.a1
  have hn := X.n1
  simp only at hn
  obtain rfl | rfl | rfl | rfl | rfl | rfl | rfl | rfl : n = 0 ∨ n = 1 ∨ n = 2 ∨ n = 3 ∨ n = 4 ∨ n = 5 ∨ n = 6 ∨ n = 7 := by omega
  · refine ⟨⟨1, a, 3, oz, ps, pp, pw⟩, _, _, _, ?_, keep a _ (R.used (Int.le_refl _) (by omega)) ⟨by simp, rfl, fun _ => rfl, fun e => by simp at e, fun e => by simp at e, fun e => by simp at e, X.pb, fun e => by simp at e, fun e => by simp at e⟩⟩
    simp only [Hp.step, if_true, R.l0]
  · obtain rfl : g = 3 := X.g1 (by simp)
    obtain ⟨z, hz⟩ : ∃ z, Hp.outZ (m.look 3) = z := ⟨_, rfl⟩
    have z12 : z = 1 ∨ z = 2 := by rw [← hz]; unfold Hp.outZ; split <;> simp
    refine ⟨⟨2, a, 3, z, ps, pp, pw⟩, _, _, _, ?_, keep 3 _ h.u3 ⟨by simp, rfl, fun _ => rfl, fun _ => z12, fun e => by simp at e, fun e => by simp at e, X.pb, fun e => by simp at e, fun e => by simp at e⟩⟩
    simp (config := { decide := true }) only [Hp.step, if_true, if_false, hz]
  · obtain rfl : g = 3 := X.g1 (by simp)
    have z12 : oz = 1 ∨ oz = 2 := X.o1 (by simp)
    have U := R.used (a := a + 4) (by omega) (by omega)
    have hd : m.did (a + 4) 0 = (o j == 0) := by rw [Mst.did, U, R.l4, Bool.true_and]
    by_cases ho : o j = 0
    · have zz : oz ≠ 0 := by omega
      obtain ⟨t1, t2, t3, t4, t5⟩ := h.wrote (a := a + 4) (x := oz) U (by rcases z12 with rfl | rfl <;> exact ⟨by decide, by decide⟩)
      rw [if_neg (by have := R.lo; omega)] at t4
      have sw : s = (p j).w := by
        rcases F.inn hI with e | e
        · exact e
        · exact absurd ho e
      have o4 : ¬ (4 ≤ (p j).n) := fun e => F.o4 e hI ho
      have F' : FI (m.write (a + 4) oz) s oz (p j) (some ⟨3, a, 3, oz, ps, pp, pw⟩) (old j) (new j) :=
        ⟨F.g, F.s', F.o', F.x, F.n, F.c, F.c0, fun e => by omega, fun _ => by rw [hr]; exact R.out oz, .inr z12, fun e => absurd hI e, fun _ => .inr zz, F.c3, fun e => absurd e o4, fun e => absurd (by omega) o4, F.e6, fun y e => by
          cases e
          rw [hr]
          exact ⟨by simp, rfl, fun _ => rfl, fun _ => z12, fun _ => zz, fun e => by simp at e, X.pb, fun e => by simp at e, fun e => by simp at e⟩⟩
      have D := h.set (q' := some ⟨3, a, 3, oz, ps, pp, pw⟩) hj (m' := m.write (a + 4) oz) (s' := s) (o' := oz) (p' := p j) t1 t2 t3 t4 (by rw [t5])
        (fun i hi hij h1 rr => rr.write U _ (by have := h.ap i j hi hj hij h1 n1; rw [hr] at this; omega)) (.inl rfl) F' (fun i hi hij h1 h2 => h.ap i j hi hj hij h1 h2) (.inr (.inr ⟨hI, sw⟩))
      rw [upd_id p j] at D
      refine ⟨_, _, _, _, ?_, D, ?_⟩
      · simp (config := { decide := true }) only [Hp.step, if_true, if_false, hd, ho, beq_self_eq_true, Mst.cas]
      · have l1 := h.lg_in hj n1 sw
        have l2 := D.lg_in hj n1 sw
        rw [upd_self] at l2
        rw [finO, if_neg (by rw [ho]; decide)] at l1
        rcases z12 with rfl | rfl
        · right
          exact ⟨l1, l2, by rw [ho]; rfl, rfl, n1⟩
        · left
          exact ⟨by rw [l1, l2]; rfl, by rw [ho]; rfl⟩
    · have ho' : (o j == 0) = false := by simp [ho]
      refine ⟨⟨3, a, 3, oz, ps, pp, pw⟩, _, _, _, ?_, keep (a + 4) _ U ⟨by simp, rfl, fun _ => rfl, fun _ => z12, fun _ => ho, fun e => by simp at e, X.pb, fun e => by simp at e, fun e => by simp at e⟩⟩
      simp (config := { decide := true }) only [Hp.step, if_true, if_false, hd, ho', Mst.cas]
  · have h0 := X.oo (by simp)
    refine ⟨⟨4, a, g, oz, ps, Hp.placeZ (o j), pw⟩, _, _, _, ?_, keep (a + 4) _ (R.used (by omega) (by omega)) ⟨by simp, rfl, fun _ => X.g1 (by simp), fun _ => X.o1 (by simp), fun _ => h0, fun _ => rfl, by simp only [Hp.placeZ]; split <;> decide, fun e => by simp at e, fun e => by simp at e⟩⟩
    simp (config := { decide := true }) only [Hp.step, if_true, if_false, R.l4]
  · have h0 := X.oo (by simp)
    refine ⟨⟨5, a, g, oz, 6, pp, pw⟩, _, _, _, ?_, keep (a + 1) _ (R.used (by omega) (by omega)) ⟨by simp, rfl, fun _ => X.g1 (by simp), fun _ => X.o1 (by simp), fun _ => h0, fun _ => X.p1 (by simp), X.pb, fun _ => rfl, fun e => by simp at e⟩⟩
    simp (config := { decide := true }) only [Hp.step, if_true, if_false, R.l1]
  · have h0 := X.oo (by simp)
    have hp : pp = Hp.placeZ (o j) := X.p1 (by simp)
    have hl : m.look (a + pp) = finO (old j) (new j) (o j) ∧ m.used (a + pp) = true := by
      rw [hp, Hp.placeZ, finO]
      split
      · exact ⟨R.l3, R.used (by omega) (by omega)⟩
      · exact ⟨R.l2, R.used (by omega) (by omega)⟩
    refine ⟨⟨6, a, g, oz, ps, pp, finO (old j) (new j) (o j)⟩, _, _, _, ?_, keep (a + pp) _ hl.2 ⟨by simp, rfl, fun _ => X.g1 (by simp), fun _ => X.o1 (by simp), fun _ => h0, fun _ => X.p1 (by simp), X.pb, fun _ => X.s1 (by simp), fun _ => rfl⟩⟩
    simp (config := { decide := true }) only [Hp.step, if_true, if_false, hl.1]
  · have h0 := X.oo (by simp)
    obtain rfl : ps = 6 := X.s1 (by simp)
    obtain rfl : pw = finO (old j) (new j) (o j) := X.w1 (by simp)
    have hd : m.did 6 (Rf.ofZ 5 a) = (s == Rf.ofZ 5 a) := by rw [Mst.did, h.u6, h.s6, Bool.true_and]
    have kf : kd (finO (old j) (new j) (o j)) ≠ 5 := fin_ne (T.k1 j hj) (T.k2 j hj)
    have ifn : I64 (finO (old j) (new j) (o j)) := by unfold finO; split; exact T.i2 j hj; exact T.i1 j hj
    have H7 : HI a (old j) (new j) (o j) ⟨7, a, g, oz, 6, pp, finO (old j) (new j) (o j)⟩ := ⟨by simp, rfl, fun _ => X.g1 (by simp), fun _ => X.o1 (by simp), fun _ => h0, fun _ => X.p1 (by simp), X.pb, fun _ => rfl, fun _ => rfl⟩
    by_cases hs : s = Rf.ofZ 5 a
    · obtain ⟨t1, t2, t3, t4, t5⟩ := h.wrote (a := 6) (x := finO (old j) (new j) (o j)) h.u6 ifn
      rw [if_pos rfl] at t4
      have F' : FI (m.write 6 (finO (old j) (new j) (o j))) (finO (old j) (new j) (o j)) (o j) (p j) (some ⟨7, a, g, oz, 6, pp, finO (old j) (new j) (o j)⟩) (old j) (new j) :=
        ⟨F.g, F.s', F.o', F.x, F.n, F.c, F.c0, F.r0, fun _ => by rw [hr]; exact R.write h.u6 _ (by have := R.lo; left; omega), F.oo, fun e => absurd hI e, fun _ => .inr h0, F.c3, F.o4, F.c5, fun _ e => kf (by rw [e]; exact WK.2.1), fun y e => by cases e; rw [hr]; exact H7⟩
      have D := h.set (q' := some ⟨7, a, g, oz, 6, pp, finO (old j) (new j) (o j)⟩) hj (m' := m.write 6 (finO (old j) (new j) (o j))) (s' := finO (old j) (new j) (o j)) (o' := o j) (p' := p j) t1 t2 t3 t4 (by rw [t5]) (fun i hi _ h1 rr => rr.write h.u6 _ (by have := rr.lo; left; omega))
        (.inr (fun i hi hij h1 => ⟨fun e => h.wne hi hj hij h1 n1 (by rw [← e, hw]; exact hs), fun e => kf (by rw [e]; exact (h.wk hi h1).2.1)⟩)) F' (fun i hi hij h1 h2 => h.ap i j hi hj hij h1 h2) (.inl kf)
      rw [upd_id p j] at D
      refine ⟨_, _, _, _, ?_, D, .inl ⟨?_, rfl⟩⟩
      · simp (config := { decide := true }) only [Hp.step, if_true, if_false, hd, hs, beq_self_eq_true, Mst.cas]
      · rw [D.lg_pl kf, h.lg_in hj n1 (by rw [hw]; exact hs)]
    · have hs' : (s == Rf.ofZ 5 a) = false := by simp [hs]
      refine ⟨_, _, _, _, ?_, keep 6 _ h.u6 H7⟩
      simp (config := { decide := true }) only [Hp.step, if_true, if_false, hd, hs', Mst.cas]
  · refine ⟨⟨7, a, g, oz, ps, pp, pw⟩, m, s, o j, by simp (config := { decide := true }) only [Hp.step, if_false], ?_, .inl ⟨rfl, rfl⟩⟩
    rw [upd_id o j, show upd q j (some ⟨7, a, g, oz, ps, pp, pw⟩) = q from by rw [← hq]; exact upd_id q j]
    exact h
end Go.Proofs.Ytoaicedkepcalaa
