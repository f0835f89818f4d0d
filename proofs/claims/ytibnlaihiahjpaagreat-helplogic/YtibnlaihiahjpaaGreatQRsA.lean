/-
  A read of a slot of the tree, alone, in plain: one access, or nine; no other slot is turned. Plain facts; no conditions but those of each theorem.
-/
import Derived.Test.YtibnlaihiahjpaaGreatQE
namespace Go.Proofs.YtibnlaihiahjpaaGreat
open Go.RowKit
open Sd (Gh IsDc Pd Sl)

/-- A frame of read, alone, behind so many accesses. -/
def rit (s : Int) (m : Mst) : Nat → Rd × Mst
  | 0 => (Rd.new s, m)
  | k + 1 => (rit s m k).1.step (rit s m k).2
/-- A memory that shows φ, as long as m. -/
structure Sh (m M : Mst) (φ : Int → Int) : Prop where
  look : ∀ c, M.look c = φ c
  size : M.size = m.size
  len : M.xs.length = m.xs.length
  ok : M.ok
theorem Sh.touch {m M : Mst} {φ : Int → Int} (h : Sh m M φ) (a : Int) : Sh m (M.touch a) φ :=
  ⟨fun c => by rw [Mst.touch_look]; exact h.look c, (Mst.touch_size _ _).trans h.size, by rw [Mst.touch_xs]; exact h.len, ⟨by rw [Mst.touch_xs]; exact h.ok.1, by rw [Mst.touch_xs]; exact h.ok.2⟩⟩
theorem Sh.cas {m M : Mst} {φ : Int → Int} (h : Sh m M φ) {a old x : Int} (hu : M.used a = true) (hx : I64 x) : Sh m (M.cas a old x) (fun c => if c = a ∧ φ a = old then x else φ c) := by
  unfold Mst.cas Mst.did
  rw [hu, h.look, Bool.true_and]
  by_cases e : φ a = old
  · have e' : (φ a == old) = true := by simp [e]
    rw [if_pos e']
    refine ⟨fun c => ?_, (Sd.size_set _ _ _).trans h.size, (Sd.len_set _ _ _).trans h.len, (Sd.write_put h.ok hu hx).ok⟩
    rw [Sd.look_set hu, h.look]
    by_cases ec : c = a
    · rw [if_pos ec, if_pos ⟨ec, e⟩]
    · rw [if_neg ec, if_neg (fun q => ec q.1)]
  · have e' : ¬ (φ a == old) = true := by simp [e]
    rw [if_neg e']
    have := h.touch a
    refine ⟨fun c => ?_, this.size, this.len, this.ok⟩
    rw [this.look, if_neg (fun q => e q.2)]
theorem Sh.used {m M : Mst} {φ : Int → Int} (h : Sh m M φ) (a : Int) : M.used a = m.used a := by unfold Mst.used; rw [h.len]
theorem dcss_word {z : Int} (h : kd z = 5) : Rf.ofZ 5 (ad z) = z := by
  have hk : Rf.kindZ z = 5 := h
  unfold Rf.kindZ at hk
  split at hk
  · rename_i hr
    have ha : ad z = z / 8 := by show Rf.atZ z = _; unfold Rf.atZ; rw [if_pos hr]
    unfold Rf.rt at hr
    simp at hr
    rw [ha]
    unfold Rf.ofZ Rf.may
    rw [if_pos (by simp; omega)]
    omega
  · cases hk
/-- What is known of the slot's Dcss. -/
structure Dk (m : Mst) (s D gd o x : Int) : Prop where
  z : m.look s = Rf.ofZ 5 D
  kz : kd (m.look s) = 5 ∧ ad (m.look s) = D
  b : 1 ≤ D ∧ D + 4 ≤ 65536
  c0 : m.look D = gd
  c1 : m.look (D + 1) = s
  c2 : m.look (D + 2) = o
  c3 : m.look (D + 3) = x
  ne : s ≠ D ∧ s ≠ D + 1 ∧ s ≠ D + 2 ∧ s ≠ D + 3 ∧ s ≠ D + 4
  us : m.used s = true
  ud : m.used (D + 4) = true
  ko : kd o ≠ 5
  kx : kd x ≠ 5
theorem dk_of {m : Mst} {g : Gh} (h : Sd.Inv m g) {s : Int} (hs : g.ro s = some .slot) (hk : kd (m.look s) = 5) : ∃ gd o x, IsDc g (ad (m.look s)) gd s o x ∧ Dk m s (ad (m.look s)) gd o x := by
  rcases h.sees hs with e | e | ⟨_, gd, o, x, P⟩
  · rw [e] at hk; exact absurd hk (by decide)
  · exact absurd hk e.ne.2
  · obtain ⟨q1, q2, _⟩ := h.dc P.dc
    have b := h.dcB P.dc
    have used : ∀ {c : Int} {r : Sd.Ro}, g.ro c = some r → m.used c = true := fun e => (h.used _).1 (by rw [e]; exact fun e => by cases e)
    have ne : ∀ {c : Int} {r : Sd.Ro}, g.ro c = some r → r ≠ .slot → s ≠ c := fun e1 e2 e => by
      rw [← e, hs] at e1
      cases e1
      exact e2 rfl
    exact ⟨gd, o, x, P.dc, (dcss_word hk).symm, ⟨hk, rfl⟩, ⟨b.1, b.2.1⟩, h.fix P.dc.c0, h.fix P.dc.c1, h.fix P.dc.c2, h.fix P.dc.c3,
      ⟨ne P.dc.c0 (fun e => by cases e), ne P.dc.c1 (fun e => by cases e), ne P.dc.c2 (fun e => by cases e), ne P.dc.c3 (fun e => by cases e), ne P.dc.c4 (fun e => by cases e)⟩,
      used hs, used P.dc.c4, q1.ne.2, q2.ne.2⟩
theorem rd_some (s : Int) (q : Hp) (M : Mst) : (⟨s, some q, 0, false⟩ : Rd).step M = (⟨s, if ((q.step M).1.n == 7) = true then none else some (q.step M).1, 0, false⟩, (q.step M).2) := rfl
theorem rd_none (s : Int) (M : Mst) : (⟨s, none, 0, false⟩ : Rd).step M = ((⟨s, none, 0, false⟩ : Rd).take (M.look s), M.touch s) := rfl
/-- What holds of each state on the way. -/
structure Rok (x : Rd × Mst) : Prop where
  ok : ∀ q, x.1.c = some q → q.Ok
  mem : x.2.ok
/-- The way of a read that meets a Dcss. -/
theorem rit_nine {m : Mst} (hm : m.ok) {s D gd o x : Int} (k : Dk m s D gd o x) : ∃ φ : Int → Int, (∀ j, j < 9 → Rok (rit s m j) ∧ (rit s m (j + 1)).1.d = decide (j + 1 = 9)) ∧ Sh m (rit s m 9).2 φ ∧ (rit s m 9).1.d = true ∧ ∀ c, c ≠ s → c ≠ D + 4 → φ c = m.look c := by
  have S0 : Sh m m m.look := ⟨fun _ => rfl, rfl, rfl, hm⟩
  obtain ⟨out, hout⟩ : ∃ out, Hp.outZ (m.look gd) = out := ⟨_, rfl⟩
  have io : I64 out := by rw [← hout]; unfold Hp.outZ; split <;> exact ⟨by decide, by decide⟩
  have hpn : ∀ (q : Hp) (M : Mst), q.n = 0 → q.step M = ({ q with g := M.look q.a, n := 1 }, M.touch q.a) := fun q M e => by unfold Hp.step; rw [if_pos e]
  have e1 : rit s m 1 = (⟨s, some (Hp.new D), 0, false⟩, m.touch s) := by
    show (⟨s, none, 0, false⟩ : Rd).step m = _
    rw [rd_none]
    unfold Rd.take
    rw [if_pos k.kz.1, k.kz.2]
  have S1 := S0.touch s
  have e2 : rit s m 2 = (⟨s, some ⟨1, D, gd, 0, 0, 0, 0⟩, 0, false⟩, (m.touch s).touch D) := by
    show (rit s m 1).1.step (rit s m 1).2 = _
    rw [e1, rd_some]
    have : (Hp.new D).step (m.touch s) = (⟨1, D, gd, 0, 0, 0, 0⟩, (m.touch s).touch D) := by
      unfold Hp.step Hp.new
      rw [if_pos rfl]
      simp only [S1.look, k.c0]
    rw [this]
    rfl
  have S2 := S1.touch D
  generalize (m.touch s).touch D = M2 at e2 S2
  have e3 : rit s m 3 = (⟨s, some ⟨2, D, gd, out, 0, 0, 0⟩, 0, false⟩, M2.touch gd) := by
    show (rit s m 2).1.step (rit s m 2).2 = _
    rw [e2, rd_some]
    have : (⟨1, D, gd, 0, 0, 0, 0⟩ : Hp).step M2 = (⟨2, D, gd, out, 0, 0, 0⟩, M2.touch gd) := by
      unfold Hp.step
      rw [if_neg (show ¬ ((1 : Int) = 0) by decide), if_pos (show (1 : Int) = 1 from rfl)]
      simp only [S2.look, hout]
    rw [this]
    rfl
  have S3 := S2.touch gd
  generalize M2.touch gd = M3 at e3 S3
  have e4 : rit s m 4 = (⟨s, some ⟨3, D, gd, out, 0, 0, 0⟩, 0, false⟩, M3.cas (D + 4) 0 out) := by
    show (rit s m 3).1.step (rit s m 3).2 = _
    rw [e3, rd_some]
    have : (⟨2, D, gd, out, 0, 0, 0⟩ : Hp).step M3 = (⟨3, D, gd, out, 0, 0, 0⟩, M3.cas (D + 4) 0 out) := by
      unfold Hp.step
      rw [if_neg (show ¬ ((2 : Int) = 0) by decide), if_neg (show ¬ ((2 : Int) = 1) by decide), if_pos (show (2 : Int) = 2 from rfl)]
    rw [this]
    rfl
  have S4 := S3.cas (a := D + 4) (old := 0) (x := out) (by rw [S3.used]; exact k.ud) io
  obtain ⟨φ4, hφ⟩ : ∃ φ4 : Int → Int, φ4 = fun c => if c = D + 4 ∧ m.look (D + 4) = 0 then out else m.look c := ⟨_, rfl⟩
  have S4' : Sh m (M3.cas (D + 4) 0 out) φ4 := by rw [hφ]; exact S4
  have f4 : ∀ c, c ≠ D + 4 → φ4 c = m.look c := fun c hc => by rw [hφ]; exact if_neg (fun q => hc q.1)
  clear S4
  generalize M3.cas (D + 4) 0 out = M4 at e4 S4'
  obtain ⟨r, hr⟩ : ∃ r, φ4 (D + 4) = r := ⟨_, rfl⟩
  obtain ⟨p, hp⟩ : ∃ p, Hp.placeZ r = p := ⟨_, rfl⟩
  have e5 : rit s m 5 = (⟨s, some ⟨4, D, gd, out, 0, p, 0⟩, 0, false⟩, M4.touch (D + 4)) := by
    show (rit s m 4).1.step (rit s m 4).2 = _
    rw [e4, rd_some]
    have : (⟨3, D, gd, out, 0, 0, 0⟩ : Hp).step M4 = (⟨4, D, gd, out, 0, p, 0⟩, M4.touch (D + 4)) := by
      unfold Hp.step
      rw [if_neg (show ¬ ((3 : Int) = 0) by decide), if_neg (show ¬ ((3 : Int) = 1) by decide), if_neg (show ¬ ((3 : Int) = 2) by decide), if_pos (show (3 : Int) = 3 from rfl)]
      simp only [S4'.look, hr, hp]
    rw [this]
    rfl
  have S5 := S4'.touch (D + 4)
  generalize M4.touch (D + 4) = M5 at e5 S5
  have e6 : rit s m 6 = (⟨s, some ⟨5, D, gd, out, s, p, 0⟩, 0, false⟩, M5.touch (D + 1)) := by
    show (rit s m 5).1.step (rit s m 5).2 = _
    rw [e5, rd_some]
    have : (⟨4, D, gd, out, 0, p, 0⟩ : Hp).step M5 = (⟨5, D, gd, out, s, p, 0⟩, M5.touch (D + 1)) := by
      unfold Hp.step
      rw [if_neg (show ¬ ((4 : Int) = 0) by decide), if_neg (show ¬ ((4 : Int) = 1) by decide), if_neg (show ¬ ((4 : Int) = 2) by decide), if_neg (show ¬ ((4 : Int) = 3) by decide), if_pos (show (4 : Int) = 4 from rfl)]
      simp only [S5.look, f4 (D + 1) (by omega), k.c1]
    rw [this]
    rfl
  have S6 := S5.touch (D + 1)
  generalize M5.touch (D + 1) = M6 at e6 S6
  have hp23 : p = 2 ∨ p = 3 := by rw [← hp]; unfold Hp.placeZ; split <;> simp
  obtain ⟨wd, hwd⟩ : ∃ wd, φ4 (D + p) = wd := ⟨_, rfl⟩
  have kw : kd wd ≠ 5 := by
    rw [← hwd]
    rcases hp23 with e | e
    · rw [e, f4 _ (by omega), k.c2]; exact k.ko
    · rw [e, f4 _ (by omega), k.c3]; exact k.kx
  have e7 : rit s m 7 = (⟨s, some ⟨6, D, gd, out, s, p, wd⟩, 0, false⟩, M6.touch (D + p)) := by
    show (rit s m 6).1.step (rit s m 6).2 = _
    rw [e6, rd_some]
    have : (⟨5, D, gd, out, s, p, 0⟩ : Hp).step M6 = (⟨6, D, gd, out, s, p, wd⟩, M6.touch (D + p)) := by
      unfold Hp.step
      rw [if_neg (show ¬ ((5 : Int) = 0) by decide), if_neg (show ¬ ((5 : Int) = 1) by decide), if_neg (show ¬ ((5 : Int) = 2) by decide), if_neg (show ¬ ((5 : Int) = 3) by decide), if_neg (show ¬ ((5 : Int) = 4) by decide), if_pos (show (5 : Int) = 5 from rfl)]
      simp only [S6.look, hwd]
    rw [this]
    rfl
  have S7 := S6.touch (D + p)
  generalize M6.touch (D + p) = M7 at e7 S7
  have e8 : rit s m 8 = (⟨s, none, 0, false⟩, M7.cas s (Rf.ofZ 5 D) wd) := by
    show (rit s m 7).1.step (rit s m 7).2 = _
    rw [e7, rd_some]
    have : (⟨6, D, gd, out, s, p, wd⟩ : Hp).step M7 = (⟨7, D, gd, out, s, p, wd⟩, M7.cas s (Rf.ofZ 5 D) wd) := by
      unfold Hp.step
      rw [if_neg (show ¬ ((6 : Int) = 0) by decide), if_neg (show ¬ ((6 : Int) = 1) by decide), if_neg (show ¬ ((6 : Int) = 2) by decide), if_neg (show ¬ ((6 : Int) = 3) by decide), if_neg (show ¬ ((6 : Int) = 4) by decide), if_neg (show ¬ ((6 : Int) = 5) by decide), if_pos (show (6 : Int) = 6 from rfl)]
    rw [this]
    rfl
  have iw : I64 wd := by rw [← hwd, ← S6.look]; exact S6.ok.look _
  have S8 := S7.cas (a := s) (old := Rf.ofZ 5 D) (x := wd) (by rw [S7.used]; exact k.us) iw
  have fs : φ4 s = Rf.ofZ 5 D := by rw [f4 s k.ne.2.2.2.2]; exact k.z
  generalize M7.cas s (Rf.ofZ 5 D) wd = M8 at e8 S8
  have ls : M8.look s = wd := by rw [S8.look]; exact if_pos ⟨rfl, fs⟩
  have e9 : rit s m 9 = (⟨s, none, wd, true⟩, M8.touch s) := by
    show (rit s m 8).1.step (rit s m 8).2 = _
    rw [e8, rd_none]
    unfold Rd.take
    rw [ls, if_neg kw]
  have S9 := S8.touch s
  have pb : 0 ≤ p ∧ p ≤ 10 := by omega
  have kb := k.b
  refine ⟨_, fun j hj => ?_, by rw [e9]; exact S9, by rw [e9], fun c h1 h2 => ?_⟩
  · obtain rfl | rfl | rfl | rfl | rfl | rfl | rfl | rfl | rfl : j = 0 ∨ j = 1 ∨ j = 2 ∨ j = 3 ∨ j = 4 ∨ j = 5 ∨ j = 6 ∨ j = 7 ∨ j = 8 := by omega
    · exact ⟨⟨(fun q e => by cases e), hm⟩, by rw [e1]; rfl⟩
    · rw [e2, e1]; exact ⟨⟨(fun q e => by cases e; exact ⟨⟨by show (0 : Int) ≤ 0; decide, by show (0 : Int) ≤ 7; decide⟩, ⟨by show 0 ≤ D; omega, by show D ≤ 1000000; omega⟩, ⟨by show (0 : Int) ≤ 0; decide, by show (0 : Int) ≤ 10; decide⟩⟩), S1.ok⟩, rfl⟩
    · rw [e3, e2]; exact ⟨⟨(fun q e => by cases e; exact ⟨⟨by show (0 : Int) ≤ 1; decide, by show (1 : Int) ≤ 7; decide⟩, ⟨by show 0 ≤ D; omega, by show D ≤ 1000000; omega⟩, ⟨by show (0 : Int) ≤ 0; decide, by show (0 : Int) ≤ 10; decide⟩⟩), S2.ok⟩, rfl⟩
    · rw [e4, e3]; exact ⟨⟨(fun q e => by cases e; exact ⟨⟨by show (0 : Int) ≤ 2; decide, by show (2 : Int) ≤ 7; decide⟩, ⟨by show 0 ≤ D; omega, by show D ≤ 1000000; omega⟩, ⟨by show (0 : Int) ≤ 0; decide, by show (0 : Int) ≤ 10; decide⟩⟩), S3.ok⟩, rfl⟩
    · rw [e5, e4]; exact ⟨⟨(fun q e => by cases e; exact ⟨⟨by show (0 : Int) ≤ 3; decide, by show (3 : Int) ≤ 7; decide⟩, ⟨by show 0 ≤ D; omega, by show D ≤ 1000000; omega⟩, ⟨by show (0 : Int) ≤ 0; decide, by show (0 : Int) ≤ 10; decide⟩⟩), S4'.ok⟩, rfl⟩
    · rw [e6, e5]; exact ⟨⟨(fun q e => by cases e; exact ⟨⟨by show (0 : Int) ≤ 4; decide, by show (4 : Int) ≤ 7; decide⟩, ⟨by show 0 ≤ D; omega, by show D ≤ 1000000; omega⟩, pb⟩), S5.ok⟩, rfl⟩
    · rw [e7, e6]; exact ⟨⟨(fun q e => by cases e; exact ⟨⟨by show (0 : Int) ≤ 5; decide, by show (5 : Int) ≤ 7; decide⟩, ⟨by show 0 ≤ D; omega, by show D ≤ 1000000; omega⟩, pb⟩), S6.ok⟩, rfl⟩
    · rw [e8, e7]; exact ⟨⟨(fun q e => by cases e; exact ⟨⟨by show (0 : Int) ≤ 6; decide, by show (6 : Int) ≤ 7; decide⟩, ⟨by show 0 ≤ D; omega, by show D ≤ 1000000; omega⟩, pb⟩), S7.ok⟩, rfl⟩
    · rw [e9, e8]; exact ⟨⟨(fun q e => by cases e), S8.ok⟩, rfl⟩
  · show (if c = s ∧ φ4 s = Rf.ofZ 5 D then wd else φ4 c) = _
    rw [if_neg (fun q => h1 q.1), f4 c h2]
/-- A read that meets none. -/
theorem rit_one {m : Mst} (hm : m.ok) {s : Int} (k5 : kd (m.look s) ≠ 5) : (Rok (rit s m 0) ∧ (rit s m 1).1.d = true) ∧ (rit s m 1).2.xs = m.xs := by
  have e1 : rit s m 1 = (⟨s, none, m.look s, true⟩, m.touch s) := by
    show (⟨s, none, 0, false⟩ : Rd).step m = _
    rw [rd_none]
    unfold Rd.take
    rw [if_neg k5]
  exact ⟨⟨⟨(fun q e => by cases e), hm⟩, by rw [e1]⟩, by rw [e1]; exact Mst.touch_xs _ _⟩
/-- What other slots stand for isn't turned. -/
theorem rit_else {m : Mst} {g : Gh} (h : Sd.Inv m g) {s D gd o x : Int} (hD : IsDc g D gd s o x) {M : Mst} {φ : Int → Int} (S : Sh m M φ) (hφ : ∀ c, c ≠ s → c ≠ D + 4 → φ c = m.look c) (hs : g.ro s = some .slot) {t : Int} (ht : g.ro t = some .slot) (hne : t ≠ s) : M.logicZ t = m.logicZ t := by
  have no : ∀ {c : Int} {r : Sd.Ro}, g.ro c = some r → r ≠ .slot → r ≠ .out → φ c = m.look c := fun e1 e2 e3 => by
    refine hφ _ (fun e => ?_) (fun e => ?_)
    · rw [e, hs] at e1; cases e1; exact e2 rfl
    · rw [e, hD.c4] at e1; cases e1; exact e3 rfl
  have lt : M.look t = m.look t := by
    rw [S.look]
    refine hφ _ hne (fun e => ?_)
    rw [e, hD.c4] at ht
    cases ht
  unfold Mst.logicZ
  rw [lt]
  by_cases k5 : kd (m.look t) = 5
  · obtain ⟨gd', o', x', hE, _⟩ := dk_of h ht k5
    have k5' : Rf.kindZ (m.look t) = 5 := k5
    rw [if_pos k5', if_pos k5']
    have a2 : M.look (Rf.atZ (m.look t) + 2) = m.look (Rf.atZ (m.look t) + 2) := by rw [S.look]; exact no hE.c2 (fun e => by cases e) (fun e => by cases e)
    have a3 : M.look (Rf.atZ (m.look t) + 3) = m.look (Rf.atZ (m.look t) + 3) := by rw [S.look]; exact no hE.c3 (fun e => by cases e) (fun e => by cases e)
    have a4 : M.look (Rf.atZ (m.look t) + 4) = m.look (Rf.atZ (m.look t) + 4) := by
      rw [S.look]
      refine hφ _ (fun e => ?_) (fun e => ?_)
      · have := hE.c4
        rw [show ad (m.look t) + 4 = s from e, hs] at this
        cases this
      · have eE : ad (m.look t) = D := by
          have : ad (m.look t) + 4 = D + 4 := e
          omega
        rw [eE] at hE
        obtain ⟨_, e2, _⟩ := hE.fn hD
        exact hne e2
    rw [a2, a3, a4]
  · have k5' : ¬ Rf.kindZ (m.look t) = 5 := k5
    rw [if_neg k5', if_neg k5']
end Go.Proofs.YtibnlaihiahjpaaGreat
