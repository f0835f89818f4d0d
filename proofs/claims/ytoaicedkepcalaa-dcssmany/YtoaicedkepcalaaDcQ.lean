/-
  DcssMany in plain: what a step of a frame, of a helper, a write of the guard leave of 'DI', and what they do with what the slot stands for ('Tn'). No conditions beyond each theorem's own.
-/
import Derived.Test.YtoaicedkepcalaaDcP
namespace Go.Proofs.Ytoaicedkepcalaa
open Go.RowKit

variable {old new : Nat → Int} {m : Mst} {s : Int} {o : Nat → Int} {p : Nat → Dp} {q : Nat → Option Hp}
theorem fin_ne {a b o : Int} (h1 : kd a ≠ 5) (h2 : kd b ≠ 5) : kd (finO a b o) ≠ 5 := by unfold finO; split <;> assumption
/-- What a frame's step leaves. -/
structure FS (old new : Nat → Int) (m : Mst) (o : Nat → Int) (p : Nat → Dp) (q : Nat → Option Hp) (j : Nat) (p' : Dp) (m' : Mst) (s' o' : Int) : Prop where
  di : DI old new m' s' (upd o j o') (upd p j p') (upd q j (q j))
  tn : Tn m m' (old j) (new j) (o j) o' (1 ≤ p'.n)
  go : (p j).n < 6 → (p j).n < p'.n
theorem touch_logic (m : Mst) (a : Int) : (m.touch a).logicZ 6 = m.logicZ 6 := by
  unfold Mst.logicZ
  simp only [Mst.touch_look]
theorem DI.touched (h : DI old new m s o p q) (a : Int) (hu : m.used a = true) : (m.touch a).size = 400 ∧ (m.touch a).odd = 0 ∧ (m.touch a).ok ∧ (m.touch a).look 6 = s ∧ (m.touch a).xs.length = m.xs.length :=
  ⟨by rw [Mst.touch_size]; exact h.sz, by rw [Mst.touch_odd hu]; exact h.odd, Mst.touch_ok' h.ok a, by rw [Mst.touch_look]; exact h.s6, by rw [Mst.touch_xs]⟩
theorem DI.wrote (h : DI old new m s o p q) {a x : Int} (hu : m.used a = true) (hx : I64 x) : (m.write a x).size = 400 ∧ (m.write a x).odd = 0 ∧ (m.write a x).ok ∧ (m.write a x).look 6 = (if (6 : Int) = a then x else s) ∧ (m.write a x).xs.length = m.xs.length :=
  ⟨by rw [Mst.write_size]; exact h.sz, by rw [Mst.write_odd hu]; exact h.odd, Mst.write_ok' h.ok hx, by rw [Mst.write_look hu, h.s6], Mst.write_len m a x⟩
/-- An access that turns nothing. -/
theorem DI.keep (h : DI old new m s o p q) {j : Nat} (hj : j < 5) {p' : Dp} {q' : Option Hp} (a : Int) (hu : m.used a = true) (hm : mk1 p' = mk1 (p j)) (hr : 1 ≤ (p j).n → p'.r = (p j).r) (hI : (p j).In → p'.In) (hf : FI m s (o j) p' q' (old j) (new j)) :
    DI old new (m.touch a) s (upd o j (o j)) (upd p j p') (upd q j q') := by
  obtain ⟨t1, t2, t3, t4, t5⟩ := h.touched a hu
  have pn : 1 ≤ p'.n → 1 ≤ (p j).n := fun e => by
    unfold mk1 at hm
    rw [if_pos e] at hm
    by_cases h1 : 1 ≤ (p j).n
    · exact h1
    · rw [if_neg h1] at hm; cases hm
  refine h.set hj t1 t2 t3 t4 (by rw [t5, hm]) (fun i _ _ _ r => r.touch a) (.inl rfl) (hf.other (fun _ r => r.touch a) (.inl rfl)) (fun i hi hij h1 h2 => ?_) (h.slotAs (fun e1 e2 => ⟨hI e1, ?_⟩))
  · rw [hr (pn h2)]
    exact h.ap i j hi hj hij h1 (pn h2)
  · rw [e2, Dp.w, Dp.w, hr (by have := e1.1; omega)]
theorem upd_id {α : Type} (f : Nat → α) (j : Nat) : upd f j (f j) = f := by
  funext i
  unfold upd
  split
  · rename_i h; rw [h]
  · rfl
theorem i64_w {r : Int} (h1 : 1 ≤ r) (h2 : r ≤ 65536) : I64 (Rf.ofZ 5 r) := by rw [(ofZ_in h1 h2).1]; exact ⟨by omega, by omega⟩
/-- A frame's step. -/
theorem frame_step (T : Two old new) (h : DI old new m s o p q) {j : Nat} (hj : j < 5) : ∃ p' m' s' o', (p j).step m = (p', m') ∧ FS old new m o p q j p' m' s' o' := by
  have F := h.fr j hj
  have R := F.rc
  have WK := fun e => h.wk hj e
  have RG := fun e => h.rng hj e
  obtain ⟨pj, hp⟩ : ∃ x, p j = x := ⟨_, rfl⟩
  rw [hp] at F R WK RG
  rw [hp]
  obtain ⟨n, g, ps, po, px, r, c⟩ := pj
  obtain ⟨rfl : g = 3, rfl : ps = 6, rfl : po = old j, rfl : px = new j⟩ := (⟨F.g, F.s', F.o', F.x⟩ : g = 3 ∧ ps = 6 ∧ po = old j ∧ px = new j)
  have hn := F.n
  simp only at hn R WK RG
  obtain rfl | rfl | rfl | rfl | rfl | rfl | rfl : n = 0 ∨ n = 1 ∨ n = 2 ∨ n = 3 ∨ n = 4 ∨ n = 5 ∨ n = 6 := by omega
  · -- the record is made
    obtain ⟨r0 : r = 0, o0⟩ := F.r0 rfl
    obtain rfl : c = 0 := F.c0 (by show (0 : Int) ≤ 2; decide)
    have nI : ¬ (Dp.In ⟨0, 3, 6, old j, new j, r, 0⟩) := fun e => by have := e.1; simp at this
    have hl : m.xs.length ≤ 27 := by
      have := h.len
      have e := sum5_upd (fun i => mk1 (p i)) (G := fun i => if i = j then 0 else mk1 (p i)) hj (fun i _ hij => if_neg hij)
      have k : ∀ i, mk1 (p i) ≤ 1 := fun i => by unfold mk1; split <;> omega
      have k0 : mk1 (p j) = 0 := by rw [hp]; rfl
      simp only [if_true, k0] at e
      have : sum5 (fun i => if i = j then 0 else mk1 (p i)) ≤ 4 := by
        unfold sum5
        have k := k
        obtain rfl | rfl | rfl | rfl | rfl : j = 0 ∨ j = 1 ∨ j = 2 ∨ j = 3 ∨ j = 4 := by omega
        all_goals
          have a0 := k 0
          have a1 := k 1
          have a2 := k 2
          have a3 := k 3
          have a4 := k 4
          simp
          omega
      omega
    have hfit : m.fits ([3, 6, old j, new j, 0] : List Int).length = true := Mst.fits_iff (by simp) (by rw [h.sz]; simp; omega)
    have hfit5 : m.fits 5 = true := hfit
    have nx : m.next [3, 6, old j, new j, 0] = (m.xs.length : Int) + 1 := if_pos hfit
    have MI := Mst.make_in hfit
    have L7 := h.l7
    have NEW : Rec (m.make [3, 6, old j, new j, 0]) ((m.xs.length : Int) + 1) (old j) (new j) 0 := by
      refine ⟨by omega, by rw [MI]; simp; omega, ?_, ?_, ?_, ?_, ?_⟩
      · have := Mst.make_new hfit (i := 0) (z := 3) rfl; simpa using this
      · have := Mst.make_new hfit (i := 1) (z := 6) rfl; simpa using this
      · have := Mst.make_new hfit (i := 2) (z := old j) rfl; simpa using this
      · have := Mst.make_new hfit (i := 3) (z := new j) rfl; simpa using this
      · have := Mst.make_new hfit (i := 4) (z := 0) rfl; simpa using this
    have nI' : ¬ (Dp.In ⟨1, 3, 6, old j, new j, (m.xs.length : Int) + 1, 0⟩) := fun e => by have := e.1; simp at this
    obtain ⟨q0, _, _⟩ := F.out nI
    have OK' : (m.make [3, 6, old j, new j, 0]).ok := by
      rw [MI]
      refine ⟨fun z hz => ?_, by simp; omega⟩
      have i1 := T.i1 j hj
      have i2 := T.i2 j hj
      rcases List.mem_append.1 hz with hz | hz
      · exact h.ok.1 z hz
      · simp only [List.mem_cons, List.not_mem_nil, or_false] at hz
        rcases hz with rfl | rfl | rfl | rfl | rfl
        all_goals first | assumption | exact ⟨by decide, by decide⟩
    have S6 : (m.make [3, 6, old j, new j, 0]).look 6 = s := by rw [Mst.make_look hfit (by omega)]; exact h.s6
    have WN : s ≠ Rf.ofZ 5 ((m.xs.length : Int) + 1) := by
      have w := ofZ_in (r := (m.xs.length : Int) + 1) (by omega) (by omega)
      rcases h.slot with e | ⟨i, hi, e1, e2⟩
      · exact fun e' => e (by rw [e']; exact w.2.1)
      · intro e'
        have n1 : 1 ≤ (p i).n := by have := e1.1; omega
        rw [e2, (h.wk hi n1).1, w.1] at e'
        have := ((h.fr i hi).rc n1).hi
        omega
    have DI' := h.set (q' := q j) hj (m' := m.make [3, 6, old j, new j, 0]) (s' := s) (o' := 0) (p' := ⟨1, 3, 6, old j, new j, (m.xs.length : Int) + 1, 0⟩) (by rw [MI]; exact h.sz) (by rw [MI]; exact h.odd) OK' S6 (by rw [hp, MI]; simp [mk1]) (fun i _ _ _ r => r.make hfit) (.inl rfl)
      ⟨rfl, rfl, rfl, rfl, by show (0 : Int) ≤ 1 ∧ (1 : Int) ≤ 6; decide, .inl rfl, fun _ => rfl, fun e => by simp at e, fun _ => NEW, .inl rfl, fun _ => ⟨q0, rfl, fun _ => WN⟩, fun e => absurd e nI', fun e => by simp at e, fun e => by simp at e, fun e => by simp at e, fun e => by simp at e, fun hh e => by rw [q0] at e; cases e⟩
      (fun i hi hij h1 _ => by left; have := ((h.fr i hi).rc h1).hi; show (p i).r + 5 ≤ (m.xs.length : Int) + 1; omega) (h.slotAs (fun e1 _ => by rw [hp] at e1; exact absurd e1 nI))
    refine ⟨⟨1, 3, 6, old j, new j, (m.xs.length : Int) + 1, 0⟩, m.make [3, 6, old j, new j, 0], s, 0, ?_, DI', .inl ⟨?_, by rw [o0]⟩, fun _ => by rw [hp]; show (0 : Int) < 1; decide⟩
    · simp only [Dp.step, Dp.ws, hfit5, if_true, nx]
    · rcases h.slot with e | ⟨i, hi, e1, e2⟩
      · rw [h.lg_pl e, DI'.lg_pl e]
      · have n1 : 1 ≤ (p i).n := by have := e1.1; omega
        have hij : i ≠ j := fun e => by subst e; rw [hp] at e1; exact nI e1
        have := DI'.lg_in hi (by rw [upd_ne _ _ hij]; exact n1) (by rw [upd_ne _ _ hij]; exact e2)
        rw [this, h.lg_in hi n1 e2, upd_ne _ _ hij]
  · -- it enters the slot, or not
    have R := R (by decide)
    have WK := WK (by decide)
    obtain ⟨rg1, rg2⟩ := RG (by decide)
    obtain rfl : c = 0 := F.c0 (by show (1 : Int) ≤ 2; decide)
    have nI : ¬ (Dp.In ⟨1, 3, 6, old j, new j, r, 0⟩) := fun e => by have := e.1; simp at this
    obtain ⟨q0, o0, sw⟩ := F.out nI
    have sw : s ≠ Rf.ofZ 5 r := sw (by show (1 : Int) ≤ 1; decide)
    have hd : m.did 6 (old j) = (s == old j) := by rw [Mst.did, h.u6, h.s6, Bool.true_and]
    by_cases hs : s = old j
    · have kp : kd s ≠ 5 := by rw [hs]; exact T.k1 j hj
      obtain ⟨t1, t2, t3, t4, t5⟩ := h.wrote (a := 6) (x := Rf.ofZ 5 r) h.u6 (i64_w rg1 rg2)
      rw [if_pos rfl] at t4
      have I' : Dp.In ⟨2, 3, 6, old j, new j, r, 0⟩ := ⟨by show (2 : Int) ≤ 2; decide, .inl (by show (2 : Int) ≤ 5; decide)⟩
      have DI' := h.set (q' := q j) hj (m' := m.write 6 (Rf.ofZ 5 r)) (s' := Rf.ofZ 5 r) (o' := o j) (p' := ⟨2, 3, 6, old j, new j, r, 0⟩) t1 t2 t3 t4 (by rw [t5, hp]; simp [mk1]) (fun i hi _ h1 rr => rr.write h.u6 _ (by have := rr.lo; left; omega))
        (.inr (fun i hi hij h1 => ⟨fun e => kp (by rw [e]; exact (h.wk hi h1).2.1), fun e => by
          have := h.wne hi hj hij h1 (by rw [hp]; show (1 : Int) ≤ 1; decide)
          rw [hp] at this
          exact this e.symm⟩))
        ⟨rfl, rfl, rfl, rfl, by show (0 : Int) ≤ 2 ∧ (2 : Int) ≤ 6; decide, .inl rfl, fun _ => rfl, fun e => by simp at e, fun _ => R.write h.u6 _ (by have := R.lo; left; show (6 : Int) < r; omega), F.oo, fun e => absurd I' e, fun _ => .inl rfl, fun e => by simp at e, fun e => by simp at e, fun e => by simp at e, fun e => by simp at e, fun hh e => by rw [q0] at e; cases e⟩
        (fun i hi hij h1 _ => by have := h.ap i j hi hj hij h1 (by rw [hp]; show (1 : Int) ≤ 1; decide); rw [hp] at this; exact this) (.inr (.inr ⟨I', rfl⟩))
      refine ⟨_, _, _, _, ?_, DI', .inl ⟨?_, rfl⟩, fun _ => by rw [hp]; show (1 : Int) < 2; decide⟩
      · simp (config := { decide := true }) only [Dp.step, if_true, if_false, hd, hs, beq_self_eq_true, Mst.cas, Dp.w]
      · rw [h.lg_pl kp, DI'.lg_in hj (by rw [upd_self]; show (1 : Int) ≤ 2; decide) (by rw [upd_self]; rfl), upd_self, finO, if_neg (by rw [o0]; decide), hs]
    · have hs' : (s == old j) = false := by simp [hs]
      have nI' : ¬ (Dp.In ⟨6, 3, 6, old j, new j, r, 0⟩) := fun e => by rcases e.2 with e | e <;> simp at e
      have DI' := h.keep (q' := q j) hj (p' := ⟨6, 3, 6, old j, new j, r, 0⟩) 6 h.u6 (by rw [hp]; rfl) (fun _ => by rw [hp]) (fun e => by rw [hp] at e; exact absurd e nI)
        ⟨rfl, rfl, rfl, rfl, by show (0 : Int) ≤ 6 ∧ (6 : Int) ≤ 6; decide, .inl rfl, fun e => by simp at e, fun e => by simp at e, fun _ => R, F.oo, fun _ => ⟨q0, o0, fun _ => sw⟩, fun e => absurd e nI', fun e => by simp at e, fun _ e => absurd e nI', fun _ e => absurd e nI', fun _ => sw, fun hh e => by rw [q0] at e; cases e⟩
      refine ⟨_, _, _, _, ?_, DI', .inl ⟨touch_logic m 6, rfl⟩, fun _ => by rw [hp]; show (1 : Int) < 6; decide⟩
      simp (config := { decide := true }) only [Dp.step, if_true, if_false, hd, hs', Mst.cas]
  · -- the guard
    have R := R (by decide)
    have I : Dp.In ⟨2, 3, 6, old j, new j, r, c⟩ := ⟨by show (2 : Int) ≤ 2; decide, .inl (by show (2 : Int) ≤ 5; decide)⟩
    obtain ⟨z, hz⟩ : ∃ z, Dp.cameZ (m.look 3 == 0) = z := ⟨_, rfl⟩
    have z12 : z = 1 ∨ z = 2 := by rw [← hz]; unfold Dp.cameZ; split <;> simp
    have I' : Dp.In ⟨3, 3, 6, old j, new j, r, z⟩ := ⟨by show (2 : Int) ≤ 3; decide, .inl (by show (3 : Int) ≤ 5; decide)⟩
    have DI' := h.keep (q' := q j) hj (p' := ⟨3, 3, 6, old j, new j, r, z⟩) 3 h.u3 (by rw [hp]; rfl) (fun _ => by rw [hp]) (fun _ => I')
      ⟨rfl, rfl, rfl, rfl, by show (0 : Int) ≤ 3 ∧ (3 : Int) ≤ 6; decide, .inr z12, fun e => by simp at e, fun e => by simp at e, fun _ => R, F.oo, fun e => absurd I' e, fun _ => F.inn I, fun _ => by show z ≠ 0; omega, fun e => by simp at e, fun e => by simp at e, fun e => by simp at e, F.hp⟩
    refine ⟨_, _, _, _, ?_, DI', .inl ⟨touch_logic m 3, rfl⟩, fun _ => by rw [hp]; show (2 : Int) < 3; decide⟩
    simp (config := { decide := true }) only [Dp.step, if_true, if_false, hz]
  · -- it settles it
    have R := R (by decide)
    have U := R.used (a := r + 4) (by omega) (by omega)
    have I : Dp.In ⟨3, 3, 6, old j, new j, r, c⟩ := ⟨by show (2 : Int) ≤ 3; decide, .inl (by show (3 : Int) ≤ 5; decide)⟩
    have I' : Dp.In ⟨4, 3, 6, old j, new j, r, c⟩ := ⟨by show (2 : Int) ≤ 4; decide, .inl (by show (4 : Int) ≤ 5; decide)⟩
    have cc : c ≠ 0 := F.c3 rfl
    have c12 : c = 1 ∨ c = 2 := by have : c = 0 ∨ c = 1 ∨ c = 2 := F.c; omega
    have hd : m.did (r + 4) 0 = (o j == 0) := by rw [Mst.did, U, R.l4, Bool.true_and]
    by_cases ho : o j = 0
    · obtain ⟨t1, t2, t3, t4, t5⟩ := h.wrote (a := r + 4) (x := c) U (by rcases c12 with rfl | rfl <;> exact ⟨by decide, by decide⟩)
      rw [if_neg (by have := R.lo; omega)] at t4
      have sw : s = Rf.ofZ 5 r := by
        rcases F.inn I with e | e
        · exact e
        · exact absurd ho e
      have DI' := h.set (q' := q j) hj (m' := m.write (r + 4) c) (s' := s) (o' := c) (p' := ⟨4, 3, 6, old j, new j, r, c⟩) t1 t2 t3 t4 (by rw [t5, hp]; simp [mk1])
        (fun i hi hij h1 rr => rr.write U _ (by have := h.ap i j hi hj hij h1 (by rw [hp]; show (1 : Int) ≤ 3; decide); rw [hp] at this; simp only at this; omega)) (.inl rfl)
        ⟨rfl, rfl, rfl, rfl, by show (0 : Int) ≤ 4 ∧ (4 : Int) ≤ 6; decide, .inr c12, fun e => by simp at e, fun e => by simp at e, fun _ => R.out c, .inr c12, fun e => absurd I' e, fun _ => .inr cc, fun e => by simp at e, fun _ _ => cc, fun e => by simp at e, fun e => by simp at e, fun hh e => (F.hp hh e).on (fun e => absurd ho e)⟩
        (fun i hi hij h1 _ => by have := h.ap i j hi hj hij h1 (by rw [hp]; show (1 : Int) ≤ 3; decide); rw [hp] at this; exact this) (.inr (.inr ⟨I', sw⟩))
      refine ⟨_, _, _, _, ?_, DI', ?_, fun _ => by rw [hp]; show (3 : Int) < 4; decide⟩
      · simp (config := { decide := true }) only [Dp.step, if_true, if_false, hd, ho, beq_self_eq_true, Mst.cas]
      · have l1 := h.lg_in hj (by rw [hp]; show (1 : Int) ≤ 3; decide) (by rw [hp]; exact sw)
        have l2 := DI'.lg_in hj (by rw [upd_self]; show (1 : Int) ≤ 4; decide) (by rw [upd_self]; exact sw)
        rw [upd_self] at l2
        rw [finO, if_neg (by rw [ho]; decide)] at l1
        rcases c12 with rfl | rfl
        · right
          exact ⟨l1, l2, by rw [ho]; rfl, rfl, by show (1 : Int) ≤ 4; decide⟩
        · left
          exact ⟨by rw [l1, l2]; rfl, by rw [ho]; rfl⟩
    · have ho' : (o j == 0) = false := by simp [ho]
      have DI' := h.keep (q' := q j) hj (p' := ⟨4, 3, 6, old j, new j, r, c⟩) (r + 4) U (by rw [hp]; rfl) (fun _ => by rw [hp]) (fun _ => I')
        ⟨rfl, rfl, rfl, rfl, by show (0 : Int) ≤ 4 ∧ (4 : Int) ≤ 6; decide, .inr c12, fun e => by simp at e, fun e => by simp at e, fun _ => R, F.oo, fun e => absurd I' e, fun _ => .inr ho, fun e => by simp at e, fun _ _ => ho, fun e => by simp at e, fun e => by simp at e, F.hp⟩
      refine ⟨_, _, _, _, ?_, DI', .inl ⟨touch_logic m _, rfl⟩, fun _ => by rw [hp]; show (3 : Int) < 4; decide⟩
      simp (config := { decide := true }) only [Dp.step, if_true, if_false, hd, ho', Mst.cas]
  · -- it reads the Outcome
    have R := R (by decide)
    have U := R.used (a := r + 4) (by omega) (by omega)
    have I : Dp.In ⟨4, 3, 6, old j, new j, r, c⟩ := ⟨by show (2 : Int) ≤ 4; decide, .inl (by show (4 : Int) ≤ 5; decide)⟩
    have I' : ∀ z, Dp.In ⟨5, 3, 6, old j, new j, r, z⟩ := fun z => ⟨by show (2 : Int) ≤ 5; decide, .inl (by show (5 : Int) ≤ 5; decide)⟩
    have o0 : o j ≠ 0 := F.o4 (by show (4 : Int) ≤ 4; decide) I
    have o12 : o j = 1 ∨ o j = 2 := by have := F.oo; omega
    have hz : Dp.cameZ (m.look (r + 4) == 1) = o j := by
      rw [R.l4]
      rcases o12 with e | e <;> rw [e] <;> rfl
    have DI' := h.keep (q' := q j) hj (p' := ⟨5, 3, 6, old j, new j, r, o j⟩) (r + 4) U (by rw [hp]; rfl) (fun _ => by rw [hp]) (fun _ => I' _)
      ⟨rfl, rfl, rfl, rfl, by show (0 : Int) ≤ 5 ∧ (5 : Int) ≤ 6; decide, .inr o12, fun e => by simp at e, fun e => by simp at e, fun _ => R, F.oo, fun e => absurd (I' _) e, fun _ => .inr o0, fun e => by simp at e, fun _ _ => o0, fun _ _ => rfl, fun e => by simp at e, F.hp⟩
    refine ⟨_, _, _, _, ?_, DI', .inl ⟨touch_logic m _, rfl⟩, fun _ => by rw [hp]; show (4 : Int) < 5; decide⟩
    simp (config := { decide := true }) only [Dp.step, if_true, if_false, hz]
  · -- it takes the Dcss out
    have R := R (by decide)
    obtain ⟨rg1, rg2⟩ := RG (by decide)
    have I : Dp.In ⟨5, 3, 6, old j, new j, r, c⟩ := ⟨by show (2 : Int) ≤ 5; decide, .inl (by show (5 : Int) ≤ 5; decide)⟩
    have o0 : o j ≠ 0 := F.o4 (by show (4 : Int) ≤ 5; decide) I
    obtain rfl : c = o j := F.c5 (by show (5 : Int) ≤ 5; decide) I
    have o12 : o j = 1 ∨ o j = 2 := by have := F.oo; omega
    have I' : Dp.In ⟨6, 3, 6, old j, new j, r, o j⟩ := ⟨by show (2 : Int) ≤ 6; decide, .inr o0⟩
    have hd : m.did 6 (Rf.ofZ 5 r) = (s == Rf.ofZ 5 r) := by rw [Mst.did, h.u6, h.s6, Bool.true_and]
    have bc : Dp.becomes ⟨5, 3, 6, old j, new j, r, o j⟩ = finO (old j) (new j) (o j) := rfl
    have kf : kd (finO (old j) (new j) (o j)) ≠ 5 := fin_ne (T.k1 j hj) (T.k2 j hj)
    have ifn : I64 (finO (old j) (new j) (o j)) := by unfold finO; split; exact T.i2 j hj; exact T.i1 j hj
    by_cases hs : s = Rf.ofZ 5 r
    · obtain ⟨t1, t2, t3, t4, t5⟩ := h.wrote (a := 6) (x := finO (old j) (new j) (o j)) h.u6 ifn
      rw [if_pos rfl] at t4
      have DI' := h.set (q' := q j) hj (m' := m.write 6 (finO (old j) (new j) (o j))) (s' := finO (old j) (new j) (o j)) (o' := o j) (p' := ⟨6, 3, 6, old j, new j, r, o j⟩) t1 t2 t3 t4 (by rw [t5, hp]; simp [mk1]) (fun i hi _ h1 rr => rr.write h.u6 _ (by have := rr.lo; left; omega))
        (.inr (fun i hi hij h1 => ⟨fun e => by
          have := h.wne hi hj hij h1 (by rw [hp]; show (1 : Int) ≤ 5; decide)
          rw [hp] at this
          exact this (e.symm.trans hs), fun e => kf (by rw [e]; exact (h.wk hi h1).2.1)⟩))
        ⟨rfl, rfl, rfl, rfl, by show (0 : Int) ≤ 6 ∧ (6 : Int) ≤ 6; decide, .inr o12, fun e => by simp at e, fun e => by simp at e, fun _ => R.write h.u6 _ (by have := R.lo; left; show (6 : Int) < r; omega), F.oo, fun e => absurd I' e, fun _ => .inr o0, fun e => by simp at e, fun _ _ => o0, fun _ _ => rfl, fun _ e => kf (by rw [e]; exact (ofZ_in rg1 rg2).2.1), F.hp⟩
        (fun i hi hij h1 _ => by have := h.ap i j hi hj hij h1 (by rw [hp]; show (1 : Int) ≤ 5; decide); rw [hp] at this; exact this) (.inl kf)
      refine ⟨_, _, _, _, ?_, DI', .inl ⟨?_, rfl⟩, fun _ => by rw [hp]; show (5 : Int) < 6; decide⟩
      · simp (config := { decide := true }) only [Dp.step, if_true, if_false, hd, hs, beq_self_eq_true, Mst.cas, Dp.w, bc]
      · rw [DI'.lg_pl kf, h.lg_in hj (by rw [hp]; show (1 : Int) ≤ 5; decide) (by rw [hp]; exact hs)]
    · have hs' : (s == Rf.ofZ 5 r) = false := by simp [hs]
      have DI' := h.keep (q' := q j) hj (p' := ⟨6, 3, 6, old j, new j, r, o j⟩) 6 h.u6 (by rw [hp]; rfl) (fun _ => by rw [hp]) (fun _ => I')
        ⟨rfl, rfl, rfl, rfl, by show (0 : Int) ≤ 6 ∧ (6 : Int) ≤ 6; decide, .inr o12, fun e => by simp at e, fun e => by simp at e, fun _ => R, F.oo, fun e => absurd I' e, fun _ => .inr o0, fun e => by simp at e, fun _ _ => o0, fun _ _ => rfl, fun _ => hs, F.hp⟩
      refine ⟨_, _, _, _, ?_, DI', .inl ⟨touch_logic m 6, rfl⟩, fun _ => by rw [hp]; show (5 : Int) < 6; decide⟩
      simp (config := { decide := true }) only [Dp.step, if_true, if_false, hd, hs', Mst.cas, Dp.w]
  · -- it is done
    refine ⟨⟨6, 3, 6, old j, new j, r, c⟩, m, s, o j, by simp (config := { decide := true }) only [Dp.step, if_false], ?_, .inl ⟨rfl, rfl⟩, fun e => by rw [hp] at e; simp at e⟩
    rw [← hp, upd_id, upd_id, upd_id]
    exact h
end Go.Proofs.Ytoaicedkepcalaa
