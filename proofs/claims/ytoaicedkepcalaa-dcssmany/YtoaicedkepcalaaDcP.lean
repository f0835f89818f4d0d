/-
  DcssMany in plain: frames of chapter 14 ('Dp'), what is true of a memory that several of them and their helpers turn ('DI'), of each step. No conditions beyond each theorem's own.
-/
import Derived.Test.YtoaicedkepcalaaKnLaw
namespace Go.Proofs.Ytoaicedkepcalaa
open Go.RowKit

/-- A frame of dcss: what is next (6: nothing), its guard, its place, old, new, the record, what came of it. -/
structure Dp where
  n : Int
  g : Int
  s : Int
  o : Int
  x : Int
  r : Int
  c : Int
namespace Dp
def new (g s o x : Int) : Dp := ⟨0, g, s, o, x, 0, 0⟩
def ws (p : Dp) : List Int := [p.g, p.s, p.o, p.x, 0]
def cameZ (b : Bool) : Int := if b = true then 1 else 2
def w (p : Dp) : Int := Rf.ofZ 5 p.r
def becomes (p : Dp) : Int := if p.c = 1 then p.x else p.o
/-- The next access. -/
def step (p : Dp) (m : Mst) : Dp × Mst :=
  if p.n = 0 then (if m.fits 5 = true then { p with r := m.next p.ws, n := 1 } else { p with c := 3, n := 6 }, m.make p.ws)
  else if p.n = 1 then (if m.did p.s p.o = true then { p with n := 2 } else { p with c := 0, n := 6 }, m.cas p.s p.o p.w)
  else if p.n = 2 then ({ p with c := cameZ (m.look p.g == 0), n := 3 }, m.touch p.g)
  else if p.n = 3 then ({ p with n := 4 }, m.cas (p.r + 4) 0 p.c)
  else if p.n = 4 then ({ p with c := cameZ (m.look (p.r + 4) == 1), n := 5 }, m.touch (p.r + 4))
  else if p.n = 5 then ({ p with n := 6 }, m.cas p.s p.w p.becomes)
  else (p, m)
/-- It has come to stand in its slot. -/
def In (p : Dp) : Prop := 2 ≤ p.n ∧ (p.n ≤ 5 ∨ p.c ≠ 0)
end Dp
namespace Mst
theorem fits_iff {m : Mst} {n : Nat} (h : 0 < n) (h2 : (m.xs.length : Int) + n ≤ m.size) : m.fits n = true := by simp [fits, h, h2]
theorem write_look {m : Mst} {a : Int} (h : m.used a = true) (x b : Int) : (m.write a x).look b = if b = a then x else m.look b := by
  obtain ⟨j, rfl, hj⟩ := used_nat h
  rw [write_in hj]
  by_cases hb : b = (j : Int) + 1
  · subst hb
    rw [if_pos rfl]
    exact look_succ (by simp [hj])
  · rw [if_neg hb]
    cases hu : m.used b
    · rw [look_none hu, look_none (by simpa [Mst.used] using hu)]
    · obtain ⟨i, rfl, hi⟩ := used_nat hu
      rw [look_succ (List.getElem?_eq_getElem hi)]
      refine look_succ ?_
      show (m.xs.set j x)[i]? = _
      rw [List.getElem?_set_ne (by omega)]
      exact List.getElem?_eq_getElem hi
theorem write_len (m : Mst) (a x : Int) : (m.write a x).xs.length = m.xs.length := by rw [write, put_len, touch_xs]
theorem write_size (m : Mst) (a x : Int) : (m.write a x).size = m.size := by rw [write, put_size, touch_size]
theorem write_odd {m : Mst} {a : Int} (h : m.used a = true) (x : Int) : (m.write a x).odd = m.odd := by
  obtain ⟨j, rfl, hj⟩ := used_nat h
  rw [write_in hj]
theorem touch_odd {m : Mst} {a : Int} (h : m.used a = true) : (m.touch a).odd = m.odd := by rw [touch_in h]
theorem touch_ok' {m : Mst} (h : m.ok) (a : Int) : (m.touch a).ok := by unfold Mst.ok; rw [touch_xs]; exact h
theorem write_ok' {m : Mst} (h : m.ok) {a x : Int} (hx : I64 x) : (m.write a x).ok := by
  refine ⟨fun z hz => ?_, by rw [write_len]; exact h.2⟩
  by_cases hu : m.used a = true
  · obtain ⟨j, rfl, hj⟩ := used_nat hu
    rw [write_in hj] at hz
    rcases List.mem_or_eq_of_mem_set hz with hz | rfl
    · exact h.1 z hz
    · exact hx
  · rw [write_out (by simpa using hu), touch_xs] at hz
    exact h.1 z hz
theorem make_in {m : Mst} {ws : List Int} (h : m.fits ws.length = true) : m.make ws = { m with count := wrap64 (m.count + 1), xs := m.xs ++ ws } := by rw [make, if_pos h]
theorem make_look {m : Mst} {ws : List Int} (h : m.fits ws.length = true) {a : Int} (ha : a ≤ m.xs.length) : (m.make ws).look a = m.look a := by
  rw [make_in h]
  cases hu : m.used a
  · have h1 : ¬ (1 ≤ a) := by
      intro h1
      simp [Mst.used, h1, ha] at hu
    rw [look_none hu, look_none (by simp [Mst.used, h1])]
  · obtain ⟨i, rfl, hi⟩ := used_nat hu
    rw [look_succ (List.getElem?_eq_getElem hi)]
    refine look_succ ?_
    show (m.xs ++ ws)[i]? = _
    rw [List.getElem?_append_left hi]
    exact List.getElem?_eq_getElem hi
theorem make_new {m : Mst} {ws : List Int} (h : m.fits ws.length = true) {i : Nat} {z : Int} (hz : ws[i]? = some z) : (m.make ws).look ((m.xs.length : Int) + 1 + i) = z := by
  rw [make_in h, show (m.xs.length : Int) + 1 + i = ((m.xs.length + i : Nat) : Int) + 1 by omega]
  refine look_succ ?_
  show (m.xs ++ ws)[m.xs.length + i]? = some z
  rw [List.getElem?_append_right (by omega), show m.xs.length + i - m.xs.length = i by omega]
  exact hz
end Mst
/-- The record of a Dcss at r. -/
structure Rec (m : Mst) (r old new o : Int) : Prop where
  lo : 8 ≤ r
  hi : r + 4 ≤ m.xs.length
  l0 : m.look r = 3
  l1 : m.look (r + 1) = 6
  l2 : m.look (r + 2) = old
  l3 : m.look (r + 3) = new
  l4 : m.look (r + 4) = o
namespace Rec
variable {m : Mst} {r old new o : Int}
theorem used (h : Rec m r old new o) {a : Int} (h1 : r ≤ a) (h2 : a ≤ r + 4) : m.used a = true := Mst.used_iff.2 ⟨by have := h.lo; omega, by have := h.hi; omega⟩
theorem touch (h : Rec m r old new o) (a : Int) : Rec (m.touch a) r old new o := ⟨h.lo, by rw [Mst.touch_xs]; exact h.hi, by rw [Mst.touch_look]; exact h.l0, by rw [Mst.touch_look]; exact h.l1, by rw [Mst.touch_look]; exact h.l2, by rw [Mst.touch_look]; exact h.l3, by rw [Mst.touch_look]; exact h.l4⟩
theorem write (h : Rec m r old new o) {a : Int} (hu : m.used a = true) (x : Int) (ha : a < r ∨ r + 4 < a) : Rec (m.write a x) r old new o := by
  refine ⟨h.lo, by rw [Mst.write_len]; exact h.hi, ?_, ?_, ?_, ?_, ?_⟩ <;> rw [Mst.write_look hu, if_neg (by omega)]
  · exact h.l0
  · exact h.l1
  · exact h.l2
  · exact h.l3
  · exact h.l4
theorem out (h : Rec m r old new o) (x : Int) : Rec (m.write (r + 4) x) r old new x := by
  have hu := h.used (a := r + 4) (by omega) (by omega)
  refine ⟨h.lo, by rw [Mst.write_len]; exact h.hi, ?_, ?_, ?_, ?_, ?_⟩ <;> rw [Mst.write_look hu]
  · rw [if_neg (by omega)]; exact h.l0
  · rw [if_neg (by omega)]; exact h.l1
  · rw [if_neg (by omega)]; exact h.l2
  · rw [if_neg (by omega)]; exact h.l3
  · rw [if_pos rfl]
theorem make (h : Rec m r old new o) {ws : List Int} (hf : m.fits ws.length = true) : Rec (m.make ws) r old new o := by
  have := h.hi
  refine ⟨h.lo, by rw [Mst.make_in hf]; simp; omega, ?_, ?_, ?_, ?_, ?_⟩ <;> rw [Mst.make_look hf (by omega)]
  · exact h.l0
  · exact h.l1
  · exact h.l2
  · exact h.l3
  · exact h.l4
end Rec
theorem ofZ_in {r : Int} (h1 : 1 ≤ r) (h2 : r ≤ 65536) : Rf.ofZ 5 r = 8 * r + 5 ∧ kd (Rf.ofZ 5 r) = 5 ∧ ad (Rf.ofZ 5 r) = r := by
  have e : Rf.ofZ 5 r = 8 * r + 5 := by rw [Rf.ofZ, if_pos]; simp [Rf.may]; omega
  have hr : Rf.rt (8 * r + 5) = true := by simp [Rf.rt]; omega
  refine ⟨e, ?_, ?_⟩
  · rw [e]; show Rf.kindZ _ = 5; rw [Rf.kindZ, if_pos hr]; omega
  · rw [e]; show Rf.atZ _ = r; rw [Rf.atZ, if_pos hr]; omega
def finO (old new o : Int) : Int := if o = 1 then new else old
/-- A helper of a Dcss. -/
structure HI (r old new o : Int) (h : Hp) : Prop where
  n1 : 0 ≤ h.n ∧ h.n ≤ 7
  a1 : h.a = r
  g1 : 1 ≤ h.n → h.g = 3
  o1 : 2 ≤ h.n → h.o = 1 ∨ h.o = 2
  oo : 3 ≤ h.n → o ≠ 0
  p1 : 4 ≤ h.n → h.p = Hp.placeZ o
  pb : 0 ≤ h.p ∧ h.p ≤ 10
  s1 : 5 ≤ h.n → h.s = 6
  w1 : 6 ≤ h.n → h.w = finO old new o
theorem HI.on {r old new o o' : Int} {h : Hp} (hh : HI r old new o h) (h1 : o ≠ 0 → o' = o) : HI r old new o' h := by
  refine ⟨hh.n1, hh.a1, hh.g1, hh.o1, fun e => ?_, fun e => ?_, hh.pb, hh.s1, fun e => ?_⟩
  · rw [h1 (hh.oo e)]; exact hh.oo e
  · rw [h1 (hh.oo (by omega))]; exact hh.p1 e
  · rw [h1 (hh.oo (by omega))]; exact hh.w1 e
/-- What is true of a frame, its record, its helper. -/
structure FI (m : Mst) (s o : Int) (p : Dp) (q : Option Hp) (old new : Int) : Prop where
  g : p.g = 3
  s' : p.s = 6
  o' : p.o = old
  x : p.x = new
  n : 0 ≤ p.n ∧ p.n ≤ 6
  c : p.c = 0 ∨ p.c = 1 ∨ p.c = 2
  c0 : p.n ≤ 2 → p.c = 0
  r0 : p.n = 0 → p.r = 0 ∧ o = 0
  rc : 1 ≤ p.n → Rec m p.r old new o
  oo : o = 0 ∨ o = 1 ∨ o = 2
  out : ¬ p.In → q = none ∧ o = 0 ∧ (1 ≤ p.n → s ≠ p.w)
  inn : p.In → s = p.w ∨ o ≠ 0
  c3 : p.n = 3 → p.c ≠ 0
  o4 : 4 ≤ p.n → p.In → o ≠ 0
  c5 : 5 ≤ p.n → p.In → p.c = o
  e6 : p.n = 6 → s ≠ p.w
  hp : ∀ h, q = some h → HI p.r old new o h
/-- Another one's step leaves it as it is. -/
theorem FI.other {m m' : Mst} {s s' o : Int} {p : Dp} {q : Option Hp} {old new : Int} (h : FI m s o p q old new) (hr : 1 ≤ p.n → Rec m p.r old new o → Rec m' p.r old new o) (hs : s' = s ∨ (1 ≤ p.n → s ≠ p.w ∧ s' ≠ p.w)) : FI m' s' o p q old new := by
  refine ⟨h.g, h.s', h.o', h.x, h.n, h.c, h.c0, h.r0, fun e => hr e (h.rc e), h.oo, fun e => ⟨(h.out e).1, (h.out e).2.1, fun e1 => ?_⟩, fun e => ?_, h.c3, h.o4, h.c5, fun e => ?_, h.hp⟩
  · rcases hs with rfl | hs
    · exact (h.out e).2.2 e1
    · exact (hs e1).2
  · rcases hs with rfl | hs
    · exact h.inn e
    · rcases h.inn e with e2 | e2
      · exact absurd e2 (hs (by have := e.1; omega)).1
      · exact .inr e2
  · rcases hs with rfl | hs
    · exact h.e6 e
    · exact (hs (by omega)).2
def sum5 (f : Nat → Nat) : Nat := f 0 + f 1 + f 2 + f 3 + f 4
def upd {α : Type} (f : Nat → α) (j : Nat) (v : α) : Nat → α := fun i => if i = j then v else f i
theorem upd_self {α : Type} (f : Nat → α) (j : Nat) (v : α) : upd f j v j = v := if_pos rfl
theorem upd_ne {α : Type} (f : Nat → α) {i j : Nat} (v : α) (h : i ≠ j) : upd f j v i = f i := if_neg h
theorem sum5_upd (F : Nat → Nat) {G : Nat → Nat} {j : Nat} (hj : j < 5) (h : ∀ i, i < 5 → i ≠ j → G i = F i) : sum5 G + F j = sum5 F + G j := by
  unfold sum5
  obtain rfl | rfl | rfl | rfl | rfl : j = 0 ∨ j = 1 ∨ j = 2 ∨ j = 3 ∨ j = 4 := by omega
  · rw [h 1 (by omega) (by omega), h 2 (by omega) (by omega), h 3 (by omega) (by omega), h 4 (by omega) (by omega)]; omega
  · rw [h 0 (by omega) (by omega), h 2 (by omega) (by omega), h 3 (by omega) (by omega), h 4 (by omega) (by omega)]; omega
  · rw [h 0 (by omega) (by omega), h 1 (by omega) (by omega), h 3 (by omega) (by omega), h 4 (by omega) (by omega)]; omega
  · rw [h 0 (by omega) (by omega), h 1 (by omega) (by omega), h 2 (by omega) (by omega), h 4 (by omega) (by omega)]; omega
  · rw [h 0 (by omega) (by omega), h 1 (by omega) (by omega), h 2 (by omega) (by omega), h 3 (by omega) (by omega)]; omega
def mk1 (p : Dp) : Nat := if 1 ≤ p.n then 1 else 0
def on1 (o : Int) : Nat := if o = 1 then 1 else 0
/-- What is true of all. -/
structure DI (old new : Nat → Int) (m : Mst) (s : Int) (o : Nat → Int) (p : Nat → Dp) (q : Nat → Option Hp) : Prop where
  sz : m.size = 400
  odd : m.odd = 0
  ok : m.ok
  s6 : m.look 6 = s
  l7 : 7 ≤ m.xs.length
  len : m.xs.length = 7 + 5 * sum5 (fun j => mk1 (p j))
  fr : ∀ j, j < 5 → FI m s (o j) (p j) (q j) (old j) (new j)
  ap : ∀ i j, i < 5 → j < 5 → i ≠ j → 1 ≤ (p i).n → 1 ≤ (p j).n → (p i).r + 5 ≤ (p j).r ∨ (p j).r + 5 ≤ (p i).r
  slot : kd s ≠ 5 ∨ ∃ j, j < 5 ∧ (p j).In ∧ s = (p j).w
structure Two (old new : Nat → Int) : Prop where
  k1 : ∀ j, j < 5 → kd (old j) ≠ 5
  k2 : ∀ j, j < 5 → kd (new j) ≠ 5
  i1 : ∀ j, j < 5 → I64 (old j)
  i2 : ∀ j, j < 5 → I64 (new j)
  ne : ∀ j, j < 5 → old j ≠ new j
namespace DI
variable {old new : Nat → Int} {m : Mst} {s : Int} {o : Nat → Int} {p : Nat → Dp} {q : Nat → Option Hp}
theorem rng (h : DI old new m s o p q) {j : Nat} (hj : j < 5) (h1 : 1 ≤ (p j).n) : 1 ≤ (p j).r ∧ (p j).r ≤ 65536 := by
  have := (h.fr j hj).rc h1
  have a := this.lo
  have b := this.hi
  have c := h.ok.2
  omega
theorem wk (h : DI old new m s o p q) {j : Nat} (hj : j < 5) (h1 : 1 ≤ (p j).n) : (p j).w = 8 * (p j).r + 5 ∧ kd (p j).w = 5 ∧ ad (p j).w = (p j).r := ofZ_in (h.rng hj h1).1 (h.rng hj h1).2
theorem wne (h : DI old new m s o p q) {i j : Nat} (hi : i < 5) (hj : j < 5) (hij : i ≠ j) (h1 : 1 ≤ (p i).n) (h2 : 1 ≤ (p j).n) : (p i).w ≠ (p j).w := by
  rw [(h.wk hi h1).1, (h.wk hj h2).1]
  have := h.ap i j hi hj hij h1 h2
  omega
theorem lg_in (h : DI old new m s o p q) {j : Nat} (hj : j < 5) (h1 : 1 ≤ (p j).n) (hs : s = (p j).w) : m.logicZ 6 = finO (old j) (new j) (o j) := by
  have rc := (h.fr j hj).rc h1
  obtain ⟨_, k, a⟩ := h.wk hj h1
  rw [← hs] at k a
  have k' : Rf.kindZ s = 5 := k
  have a' : Rf.atZ s = (p j).r := a
  unfold Mst.logicZ finO
  rw [h.s6, if_pos k', a', rc.l2, rc.l3, rc.l4]
theorem lg_pl (h : DI old new m s o p q) (hs : kd s ≠ 5) : m.logicZ 6 = s := by
  unfold Mst.logicZ
  rw [h.s6, if_neg hs]
theorem u6 (h : DI old new m s o p q) : m.used 6 = true := Mst.used_iff.2 ⟨by decide, by have := h.l7; omega⟩
theorem u3 (h : DI old new m s o p q) : m.used 3 = true := Mst.used_iff.2 ⟨by decide, by have := h.l7; omega⟩
/-- One of them has gone on. -/
theorem set (h : DI old new m s o p q) {j : Nat} (hj : j < 5) {m' : Mst} {s' o' : Int} {p' : Dp} {q' : Option Hp} (sz : m'.size = 400) (odd : m'.odd = 0) (ok : m'.ok) (s6 : m'.look 6 = s') (len : m'.xs.length + 5 * mk1 (p j) = m.xs.length + 5 * mk1 p')
    (hr : ∀ i, i < 5 → i ≠ j → 1 ≤ (p i).n → Rec m (p i).r (old i) (new i) (o i) → Rec m' (p i).r (old i) (new i) (o i)) (hs : s' = s ∨ ∀ i, i < 5 → i ≠ j → 1 ≤ (p i).n → s ≠ (p i).w ∧ s' ≠ (p i).w)
    (hf : FI m' s' o' p' q' (old j) (new j)) (ap : ∀ i, i < 5 → i ≠ j → 1 ≤ (p i).n → 1 ≤ p'.n → (p i).r + 5 ≤ p'.r ∨ p'.r + 5 ≤ (p i).r) (slot : kd s' ≠ 5 ∨ (∃ i, i < 5 ∧ i ≠ j ∧ (p i).In ∧ s' = (p i).w) ∨ (p'.In ∧ s' = p'.w)) :
    DI old new m' s' (upd o j o') (upd p j p') (upd q j q') := by
  have hl : m'.xs.length = 7 + 5 * sum5 (fun i => mk1 (upd p j p' i)) := by
    have := sum5_upd (fun i => mk1 (p i)) (G := fun i => mk1 (upd p j p' i)) hj (fun i _ hij => by simp only [upd_ne p p' hij])
    simp only [upd_self] at this
    have := h.len
    omega
  refine ⟨sz, odd, ok, s6, ?_, hl, fun i hi => ?_, fun a b ha hb hab h1 h2 => ?_, ?_⟩
  · have := h.l7
    omega
  · by_cases hij : i = j
    · subst hij
      rw [upd_self, upd_self, upd_self]
      exact hf
    · rw [upd_ne o o' hij, upd_ne p p' hij, upd_ne q q' hij]
      exact (h.fr i hi).other (hr i hi hij) (hs.imp id (fun hs => hs i hi hij))
  · by_cases haj : a = j
    · subst haj
      rw [upd_self] at h1 ⊢
      rw [upd_ne p p' (Ne.symm hab)] at h2 ⊢
      exact (ap b hb (Ne.symm hab) h2 h1).symm
    · rw [upd_ne p p' haj] at h1 ⊢
      by_cases hbj : b = j
      · subst hbj
        rw [upd_self] at h2 ⊢
        exact ap a ha haj h1 h2
      · rw [upd_ne p p' hbj] at h2 ⊢
        exact h.ap a b ha hb hab h1 h2
  · rcases slot with e | ⟨i, hi, hij, e1, e2⟩ | ⟨e1, e2⟩
    · exact .inl e
    · exact .inr ⟨i, hi, by rw [upd_ne p p' hij]; exact e1, by rw [upd_ne p p' hij]; exact e2⟩
    · exact .inr ⟨j, hj, by rw [upd_self]; exact e1, by rw [upd_self]; exact e2⟩
/-- The slot's word as it was, told of the one that goes on. -/
theorem slotAs (h : DI old new m s o p q) {j : Nat} {p' : Dp} (hI : (p j).In → s = (p j).w → p'.In ∧ s = p'.w) : kd s ≠ 5 ∨ (∃ i, i < 5 ∧ i ≠ j ∧ (p i).In ∧ s = (p i).w) ∨ (p'.In ∧ s = p'.w) := by
  rcases h.slot with e | ⟨i, hi, e1, e2⟩
  · exact .inl e
  · by_cases hij : i = j
    · subst hij
      exact .inr (.inr (hI e1 e2))
    · exact .inr (.inl ⟨i, hi, hij, e1, e2⟩)
end DI
/-- What a step does with what the slot stands for. -/
def Tn (m m' : Mst) (old new o o' : Int) (made : Prop) : Prop := (m'.logicZ 6 = m.logicZ 6 ∧ on1 o' = on1 o) ∨ (m.logicZ 6 = old ∧ m'.logicZ 6 = new ∧ on1 o = 0 ∧ on1 o' = 1 ∧ made)
end Go.Proofs.Ytoaicedkepcalaa
