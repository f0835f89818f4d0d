/-
  Two that help one Dcss, in turns, in plain: what the slot stands for turns once, or never. Conditions: each theorem's own.
-/
import Derived.Test.YtibnlaihiahjpaaGreatQHlA
namespace Go.Proofs.YtibnlaihiahjpaaGreat
open Go.RowKit

/-- A Dcss that stands in its slot: its place, its Guard, what it leads from and to, how it will be settled. -/
structure Hc where
  m : Mst
  s : Int
  D : Int
  gd : Int
  o : Int
  x : Int
structure Hc.Ok (k : Hc) : Prop where
  dk : Dk k.m k.s k.D k.gd k.o k.x
  c4 : k.m.look (k.D + 4) = 0
  ne : k.o ≠ k.x
  gs : k.gd ≠ k.s
  g4 : k.gd ≠ k.D + 4
  ok : k.m.ok
namespace Hc
def out (k : Hc) : Int := Hp.outZ (k.m.look k.gd)
def wd (k : Hc) : Int := if k.out = 1 then k.x else k.o
/-- What the memory shows: settled, put back. -/
def phi (k : Hc) (u z : Bool) (c : Int) : Int := if c = k.D + 4 then (if u then k.out else 0) else if c = k.s then (if z then k.wd else Rf.ofZ 5 k.D) else k.m.look c
end Hc
/-- Where a frame is. -/
structure Hl (k : Hc) (p : Hp) (u z : Bool) : Prop where
  hn : 0 ≤ p.n ∧ p.n ≤ 7
  ha : p.a = k.D
  hg : 1 ≤ p.n → p.g = k.gd
  ho : 2 ≤ p.n → p.o = k.out
  hq : p.n ≤ 3 → p.p = 0
  hp : 4 ≤ p.n → p.p = Hp.placeZ k.out
  hs : 5 ≤ p.n → p.s = k.s
  hw : 6 ≤ p.n → p.w = k.wd
  hu : 3 ≤ p.n → u = true
  hz : 7 ≤ p.n → z = true
theorem Hl.le {k : Hc} {p : Hp} {u z u' z' : Bool} (h : Hl k p u z) (h1 : u = true → u' = true) (h2 : z = true → z' = true) : Hl k p u' z' :=
  ⟨h.hn, h.ha, h.hg, h.ho, h.hq, h.hp, h.hs, h.hw, fun e => h1 (h.hu e), fun e => h2 (h.hz e)⟩
theorem hl_new (k : Hc) : Hl k (Hp.new k.D) false false := by
  refine ⟨⟨by show (0 : Int) ≤ 0; decide, by show (0 : Int) ≤ 7; decide⟩, rfl, ?_, ?_, fun _ => rfl, ?_, ?_, ?_, ?_, ?_⟩ <;> (intro e; exact absurd e (by show ¬ (_ ≤ (0 : Int)); omega))
namespace Hc
variable {k : Hc}
theorem out12 (k : Hc) : k.out = 1 ∨ k.out = 2 := by unfold out Hp.outZ; split <;> simp
theorem kwd (h : k.Ok) : kd k.wd ≠ 5 := by unfold wd; split; exact h.dk.kx; exact h.dk.ko
theorem iwd (h : k.Ok) : I64 k.wd := by
  unfold wd
  split
  · rw [← h.dk.c3]; exact h.ok.look _
  · rw [← h.dk.c2]; exact h.ok.look _
theorem start (h : k.Ok) : Sh k.m k.m (k.phi false false) := by
  refine ⟨fun c => ?_, rfl, rfl, h.ok⟩
  unfold phi
  by_cases e : c = k.D + 4
  · rw [if_pos e, e, h.c4]; rfl
  · rw [if_neg e]
    by_cases e2 : c = k.s
    · rw [if_pos e2, e2, h.dk.z]; rfl
    · rw [if_neg e2]
/-- The next access of one of them. -/
structure St (k : Hc) (p : Hp) (M : Mst) (u z u' z' : Bool) : Prop where
  sh : Sh k.m (p.step M).2 (k.phi u' z')
  fr : Hl k (p.step M).1 u' z'
  lu : u = true → u' = true
  lz : z = true → z' = true
  zu : (z = true → u = true) → z' = true → u' = true
  hn : (p.step M).1.n = if p.n = 7 then 7 else p.n + 1
theorem hl_step (h : k.Ok) {p : Hp} {M : Mst} {u z : Bool} (S : Sh k.m M (k.phi u z)) (F : Hl k p u z) : ∃ u' z', St k p M u z u' z' := by
  obtain ⟨n, a, g, o, s, q, w⟩ := p
  obtain ⟨n0, fa, fg, fo, fp0, fp, fs, fw, fu, fz⟩ := F
  simp only at n0 fa fg fo fp0 fp fs fw fu fz
  subst fa
  have ne := h.dk.ne
  have l0 : M.look k.D = k.gd := by rw [S.look]; unfold phi; rw [if_neg (by omega), if_neg (fun e => ne.1 e.symm)]; exact h.dk.c0
  have l1 : M.look (k.D + 1) = k.s := by rw [S.look]; unfold phi; rw [if_neg (by omega), if_neg (fun e => ne.2.1 e.symm)]; exact h.dk.c1
  have l2 : M.look (k.D + 2) = k.o := by rw [S.look]; unfold phi; rw [if_neg (by omega), if_neg (fun e => ne.2.2.1 e.symm)]; exact h.dk.c2
  have l3 : M.look (k.D + 3) = k.x := by rw [S.look]; unfold phi; rw [if_neg (by omega), if_neg (fun e => ne.2.2.2.1 e.symm)]; exact h.dk.c3
  have lg : M.look k.gd = k.m.look k.gd := by rw [S.look]; unfold phi; rw [if_neg h.g4, if_neg h.gs]
  have l4 : M.look (k.D + 4) = if u then k.out else 0 := by rw [S.look]; unfold phi; rw [if_pos rfl]
  have ls : M.look k.s = if z then k.wd else Rf.ofZ 5 k.D := by rw [S.look]; unfold phi; rw [if_neg ne.2.2.2.2, if_pos rfl]
  obtain rfl | rfl | rfl | rfl | rfl | rfl | rfl | rfl : n = 0 ∨ n = 1 ∨ n = 2 ∨ n = 3 ∨ n = 4 ∨ n = 5 ∨ n = 6 ∨ n = 7 := by omega
  · have e : (⟨0, k.D, g, o, s, q, w⟩ : Hp).step M = (⟨1, k.D, k.gd, o, s, q, w⟩, M.touch k.D) := by
      unfold Hp.step
      rw [if_pos (show (0 : Int) = 0 from rfl)]
      simp only [l0]
    refine ⟨u, z, ?_⟩
    refine ⟨by rw [e]; exact S.touch _, ?_, id, id, fun h1 h2 => h1 h2, by rw [e]; rfl⟩
    rw [e]
    exact ⟨⟨by show (0 : Int) ≤ 1; decide, by show (1 : Int) ≤ 7; decide⟩, rfl, fun _ => rfl, fun e => absurd e (by show ¬ ((2 : Int) ≤ 1); decide), fun _ => fp0 (by decide), fun e => absurd e (by show ¬ ((4 : Int) ≤ 1); decide), fun e => absurd e (by show ¬ ((5 : Int) ≤ 1); decide), fun e => absurd e (by show ¬ ((6 : Int) ≤ 1); decide), fun e => absurd e (by show ¬ ((3 : Int) ≤ 1); decide), fun e => absurd e (by show ¬ ((7 : Int) ≤ 1); decide)⟩
  · have e : (⟨1, k.D, g, o, s, q, w⟩ : Hp).step M = (⟨2, k.D, k.gd, k.out, s, q, w⟩, M.touch k.gd) := by
      unfold Hp.step
      rw [if_neg (show ¬ ((1 : Int) = 0) by decide), if_pos (show (1 : Int) = 1 from rfl)]
      simp only [fg (by decide), lg]
      rfl
    refine ⟨u, z, ?_⟩
    refine ⟨by rw [e]; exact S.touch _, ?_, id, id, fun h1 h2 => h1 h2, by rw [e]; rfl⟩
    rw [e]
    exact ⟨⟨by show (0 : Int) ≤ 2; decide, by show (2 : Int) ≤ 7; decide⟩, rfl, fun _ => rfl, fun _ => rfl, fun _ => fp0 (by decide), fun e => absurd e (by show ¬ ((4 : Int) ≤ 2); decide), fun e => absurd e (by show ¬ ((5 : Int) ≤ 2); decide), fun e => absurd e (by show ¬ ((6 : Int) ≤ 2); decide), fun e => absurd e (by show ¬ ((3 : Int) ≤ 2); decide), fun e => absurd e (by show ¬ ((7 : Int) ≤ 2); decide)⟩
  · have e : (⟨2, k.D, g, o, s, q, w⟩ : Hp).step M = (⟨3, k.D, k.gd, k.out, s, q, w⟩, M.cas (k.D + 4) 0 k.out) := by
      unfold Hp.step
      rw [if_neg (show ¬ ((2 : Int) = 0) by decide), if_neg (show ¬ ((2 : Int) = 1) by decide), if_pos (show (2 : Int) = 2 from rfl)]
      simp only [fg (by decide), fo (by decide)]
    refine ⟨true, z, ?_⟩
    have io : I64 k.out := by rcases k.out12 with e | e <;> rw [e] <;> exact ⟨by decide, by decide⟩
    have C := S.cas (a := k.D + 4) (old := 0) (x := k.out) (by rw [S.used]; exact h.dk.ud) io
    refine ⟨?_, ?_, fun _ => rfl, id, fun _ _ => rfl, by rw [e]; rfl⟩
    · rw [e]
      refine ⟨fun c => ?_, C.size, C.len, C.ok⟩
      refine (C.look c).trans ?_
      have p4 : k.phi u z (k.D + 4) = if u then k.out else 0 := by unfold phi; rw [if_pos rfl]
      rw [p4]
      unfold phi
      by_cases e4 : c = k.D + 4
      · rw [if_pos e4, if_pos e4]
        cases u with
        | true => simp [e4]
        | false => simp [e4]
      · rw [if_neg (fun q => e4 q.1), if_neg e4, if_neg e4]
    · rw [e]
      exact ⟨⟨by show (0 : Int) ≤ 3; decide, by show (3 : Int) ≤ 7; decide⟩, rfl, fun _ => rfl, fun _ => rfl, fun _ => fp0 (by decide), fun e => absurd e (by show ¬ ((4 : Int) ≤ 3); decide), fun e => absurd e (by show ¬ ((5 : Int) ≤ 3); decide), fun e => absurd e (by show ¬ ((6 : Int) ≤ 3); decide), fun _ => rfl, fun e => absurd e (by show ¬ ((7 : Int) ≤ 3); decide)⟩
  · have hu := fu (by decide)
    rw [hu] at l4
    have e : (⟨3, k.D, g, o, s, q, w⟩ : Hp).step M = (⟨4, k.D, k.gd, k.out, s, Hp.placeZ k.out, w⟩, M.touch (k.D + 4)) := by
      unfold Hp.step
      rw [if_neg (show ¬ ((3 : Int) = 0) by decide), if_neg (show ¬ ((3 : Int) = 1) by decide), if_neg (show ¬ ((3 : Int) = 2) by decide), if_pos (show (3 : Int) = 3 from rfl)]
      simp only [fg (by decide), fo (by decide), l4]
      rfl
    refine ⟨u, z, ?_⟩
    refine ⟨by rw [e]; exact S.touch _, ?_, id, id, fun h1 h2 => h1 h2, by rw [e]; rfl⟩
    rw [e]
    exact ⟨⟨by show (0 : Int) ≤ 4; decide, by show (4 : Int) ≤ 7; decide⟩, rfl, fun _ => rfl, fun _ => rfl, fun e => absurd e (by show ¬ ((4 : Int) ≤ 3); decide), fun _ => rfl, fun e => absurd e (by show ¬ ((5 : Int) ≤ 4); decide), fun e => absurd e (by show ¬ ((6 : Int) ≤ 4); decide), fun _ => hu, fun e => absurd e (by show ¬ ((7 : Int) ≤ 4); decide)⟩
  · have hu := fu (by decide)
    have e : (⟨4, k.D, g, o, s, q, w⟩ : Hp).step M = (⟨5, k.D, k.gd, k.out, k.s, Hp.placeZ k.out, w⟩, M.touch (k.D + 1)) := by
      unfold Hp.step
      rw [if_neg (show ¬ ((4 : Int) = 0) by decide), if_neg (show ¬ ((4 : Int) = 1) by decide), if_neg (show ¬ ((4 : Int) = 2) by decide), if_neg (show ¬ ((4 : Int) = 3) by decide), if_pos (show (4 : Int) = 4 from rfl)]
      simp only [fg (by decide), fo (by decide), fp (by decide), l1]
    refine ⟨u, z, ?_⟩
    refine ⟨by rw [e]; exact S.touch _, ?_, id, id, fun h1 h2 => h1 h2, by rw [e]; rfl⟩
    rw [e]
    exact ⟨⟨by show (0 : Int) ≤ 5; decide, by show (5 : Int) ≤ 7; decide⟩, rfl, fun _ => rfl, fun _ => rfl, fun e => absurd e (by show ¬ ((5 : Int) ≤ 3); decide), fun _ => rfl, fun _ => rfl, fun e => absurd e (by show ¬ ((6 : Int) ≤ 5); decide), fun _ => hu, fun e => absurd e (by show ¬ ((7 : Int) ≤ 5); decide)⟩
  · have hu := fu (by decide)
    have lw : M.look (k.D + Hp.placeZ k.out) = k.wd := by
      unfold Hp.placeZ wd
      by_cases e1 : k.out = 1
      · rw [if_pos e1, if_pos e1, l3]
      · rw [if_neg e1, if_neg e1, l2]
    have e : (⟨5, k.D, g, o, s, q, w⟩ : Hp).step M = (⟨6, k.D, k.gd, k.out, k.s, Hp.placeZ k.out, k.wd⟩, M.touch (k.D + Hp.placeZ k.out)) := by
      unfold Hp.step
      rw [if_neg (show ¬ ((5 : Int) = 0) by decide), if_neg (show ¬ ((5 : Int) = 1) by decide), if_neg (show ¬ ((5 : Int) = 2) by decide), if_neg (show ¬ ((5 : Int) = 3) by decide), if_neg (show ¬ ((5 : Int) = 4) by decide), if_pos (show (5 : Int) = 5 from rfl)]
      simp only [fg (by decide), fo (by decide), fp (by decide), fs (by decide), lw]
    refine ⟨u, z, ?_⟩
    refine ⟨by rw [e]; exact S.touch _, ?_, id, id, fun h1 h2 => h1 h2, by rw [e]; rfl⟩
    rw [e]
    exact ⟨⟨by show (0 : Int) ≤ 6; decide, by show (6 : Int) ≤ 7; decide⟩, rfl, fun _ => rfl, fun _ => rfl, fun e => absurd e (by show ¬ ((6 : Int) ≤ 3); decide), fun _ => rfl, fun _ => rfl, fun _ => rfl, fun _ => hu, fun e => absurd e (by show ¬ ((7 : Int) ≤ 6); decide)⟩
  · have hu := fu (by decide)
    have e : (⟨6, k.D, g, o, s, q, w⟩ : Hp).step M = (⟨7, k.D, k.gd, k.out, k.s, Hp.placeZ k.out, k.wd⟩, M.cas k.s (Rf.ofZ 5 k.D) k.wd) := by
      unfold Hp.step
      rw [if_neg (show ¬ ((6 : Int) = 0) by decide), if_neg (show ¬ ((6 : Int) = 1) by decide), if_neg (show ¬ ((6 : Int) = 2) by decide), if_neg (show ¬ ((6 : Int) = 3) by decide), if_neg (show ¬ ((6 : Int) = 4) by decide), if_neg (show ¬ ((6 : Int) = 5) by decide), if_pos (show (6 : Int) = 6 from rfl)]
      simp only [fg (by decide), fo (by decide), fp (by decide), fs (by decide), fw (by decide)]
    refine ⟨u, true, ?_⟩
    have C := S.cas (a := k.s) (old := Rf.ofZ 5 k.D) (x := k.wd) (by rw [S.used]; exact h.dk.us) (iwd h)
    refine ⟨?_, ?_, id, fun _ => rfl, fun _ _ => hu, by rw [e]; rfl⟩
    · rw [e]
      refine ⟨fun c => ?_, C.size, C.len, C.ok⟩
      refine (C.look c).trans ?_
      have ps : k.phi u z k.s = if z then k.wd else Rf.ofZ 5 k.D := by unfold phi; rw [if_neg ne.2.2.2.2, if_pos rfl]
      rw [ps]
      unfold phi
      by_cases es : c = k.s
      · have e4 : c ≠ k.D + 4 := by rw [es]; exact ne.2.2.2.2
        rw [if_neg e4, if_neg e4, if_pos es, if_pos es]
        cases z with
        | true => simp
        | false => simp [es]
      · rw [if_neg (fun q => es q.1)]
        by_cases e4 : c = k.D + 4
        · rw [if_pos e4, if_pos e4]
        · rw [if_neg e4, if_neg e4, if_neg es, if_neg es]
    · rw [e]
      exact ⟨⟨by show (0 : Int) ≤ 7; decide, by show (7 : Int) ≤ 7; decide⟩, rfl, fun _ => rfl, fun _ => rfl, fun e => absurd e (by show ¬ ((7 : Int) ≤ 3); decide), fun _ => rfl, fun _ => rfl, fun _ => rfl, fun _ => hu, fun _ => rfl⟩
  · have e : (⟨7, k.D, g, o, s, q, w⟩ : Hp).step M = (⟨7, k.D, g, o, s, q, w⟩, M) := by
      unfold Hp.step
      rw [if_neg (show ¬ ((7 : Int) = 0) by decide), if_neg (show ¬ ((7 : Int) = 1) by decide), if_neg (show ¬ ((7 : Int) = 2) by decide), if_neg (show ¬ ((7 : Int) = 3) by decide), if_neg (show ¬ ((7 : Int) = 4) by decide), if_neg (show ¬ ((7 : Int) = 5) by decide), if_neg (show ¬ ((7 : Int) = 6) by decide)]
    refine ⟨u, z, ?_⟩
    refine ⟨by rw [e]; exact S, ?_, id, id, fun h1 h2 => h1 h2, by rw [e]; rfl⟩
    rw [e]
    exact ⟨n0, rfl, fg, fo, fp0, fp, fs, fw, fu, fz⟩
/-- What the slot stands for. -/
theorem hl_logic (h : k.Ok) {M : Mst} {u z : Bool} (S : Sh k.m M (k.phi u z)) (hz : z = true → u = true) : M.logicZ k.s = if u = true ∧ k.out = 1 then k.x else k.o := by
  have ne := h.dk.ne
  have l2 : M.look (k.D + 2) = k.o := by rw [S.look]; unfold phi; rw [if_neg (by omega), if_neg (fun e => ne.2.2.1 e.symm)]; exact h.dk.c2
  have l3 : M.look (k.D + 3) = k.x := by rw [S.look]; unfold phi; rw [if_neg (by omega), if_neg (fun e => ne.2.2.2.1 e.symm)]; exact h.dk.c3
  have l4 : M.look (k.D + 4) = if u then k.out else 0 := by rw [S.look]; unfold phi; rw [if_pos rfl]
  have ls : M.look k.s = if z then k.wd else Rf.ofZ 5 k.D := by rw [S.look]; unfold phi; rw [if_neg ne.2.2.2.2, if_pos rfl]
  have kz : Rf.kindZ (Rf.ofZ 5 k.D) = 5 := by have := h.dk.kz.1; rw [h.dk.z] at this; exact this
  have az : Rf.atZ (Rf.ofZ 5 k.D) = k.D := by have := h.dk.kz.2; rw [h.dk.z] at this; exact this
  unfold Mst.logicZ
  rw [ls]
  cases z with
  | true =>
    rw [hz rfl]
    have := kwd h
    rw [if_pos rfl, if_neg (show ¬ Rf.kindZ k.wd = 5 from this)]
    unfold wd
    simp
  | false =>
    have ez : (if false = true then k.wd else Rf.ofZ 5 k.D) = Rf.ofZ 5 k.D := rfl
    rw [ez, if_pos kz, az, l2, l3, l4]
    cases u with
    | true =>
      by_cases e : k.out = 1
      · simp [e]
      · simp [e]
    | false => simp
theorem Hl.ok {p : Hp} {u z : Bool} (h : k.Ok) (F : Hl k p u z) : p.Ok := by
  have b := h.dk.b
  refine ⟨F.hn, ⟨by rw [F.ha]; omega, by rw [F.ha]; omega⟩, ?_⟩
  by_cases e : p.n ≤ 3
  · rw [F.hq e]; exact ⟨by decide, by decide⟩
  · rw [F.hp (by omega)]
    unfold Hp.placeZ
    split <;> exact ⟨by decide, by decide⟩
end Hc
end Go.Proofs.YtibnlaihiahjpaaGreat
