/-
  HelpOnce in plain: the memory with one Dcss at 8 in the slot 6 ('onceM'), what is true of it ('OInv') and of each frame that helps it ('FInv') at any moment ('once_step'). No conditions beyond each theorem's own.
-/
import Derived.Test.YtejdgdpiddngiaaHelpP
namespace Go.Proofs.Ytejdgdpiddngiaa
open Go.RowKit

/-- The memory: guard g, slot s, Outcome o. -/
def onceM (old x g s o c : Int) : Mst := ⟨[1, 0, g, 0, 0, s, 0, 3, 6, old, x, o], 40, c, 0, 0⟩
/-- The word that the slot gets. -/
def finZ (old x o : Int) : Int := if o = 1 then x else old
structure OInv (old x : Int) (gd : Bool) (g s o : Int) : Prop where
  oo : o = 0 ∨ o = 1 ∨ o = 2
  ss : s = 69 ∨ (o ≠ 0 ∧ s = finZ old x o)
  gg : gd = true → g ≠ 0 ∧ o ≠ 1
  gi : g = 0 ∨ g = 1
structure FInv (old x : Int) (gd : Bool) (s o : Int) (p : Hp) : Prop where
  n1 : 0 ≤ p.n ∧ p.n ≤ 7
  a1 : p.a = 8
  g1 : 1 ≤ p.n → p.g = 3
  o1 : 2 ≤ p.n → (p.o = 1 ∨ p.o = 2) ∧ (gd = true → p.o = 2)
  oo : 3 ≤ p.n → o ≠ 0
  p1 : 4 ≤ p.n → p.p = Hp.placeZ o
  pb : 0 ≤ p.p ∧ p.p ≤ 10
  s1 : 5 ≤ p.n → p.s = 6
  w1 : 6 ≤ p.n → p.w = finZ old x o
  e1 : p.n = 7 → s ≠ 69
theorem FInv.ok {old x : Int} {gd : Bool} {s o : Int} {p : Hp} (h : FInv old x gd s o p) : p.Ok := ⟨h.n1, by rw [h.a1]; decide, h.pb⟩
theorem once_i64 {old x g s o c : Int} {gd : Bool} (h : OInv old x gd g s o) (h1 : I64 old) (h2 : I64 x) : ∀ a, I64 ((onceM old x g s o c).look a) := by
  have k : ∀ z ∈ (onceM old x g s o c).xs, I64 z := by
    have hs : I64 s := by
      rcases h.ss with rfl | ⟨_, rfl⟩
      · exact ⟨by decide, by decide⟩
      · unfold finZ; split <;> assumption
    have hg : I64 g := by rcases h.gi with rfl | rfl <;> exact ⟨by decide, by decide⟩
    have ho : I64 o := by rcases h.oo with rfl | rfl | rfl <;> exact ⟨by decide, by decide⟩
    intro z hz
    simp only [onceM, List.mem_cons, List.not_mem_nil, or_false] at hz
    rcases hz with rfl | rfl | rfl | rfl | rfl | rfl | rfl | rfl | rfl | rfl | rfl | rfl
    all_goals first | assumption | exact ⟨by decide, by decide⟩
  intro a
  unfold Mst.look
  split
  · rename_i hu
    cases hx : (onceM old x g s o c).xs[(a - 1).toNat]? with
    | none => rw [List.getD_eq_getElem?_getD, hx]; exact ⟨by decide, by decide⟩
    | some z => rw [List.getD_eq_getElem?_getD, hx]; exact k z (List.mem_of_getElem? hx)
  · exact ⟨by decide, by decide⟩
/-- What a step does with them. -/
structure Once (old x : Int) (gd : Bool) (g s o s' o' : Int) (p' : Hp) : Prop where
  inv : OInv old x gd g s' o'
  frame : FInv old x gd s' o' p'
  ok : o ≠ 0 → o' = o
  sk : s ≠ 69 → s' = s
  others : ∀ q, FInv old x gd s o q → FInv old x gd s' o' q
  ended : p'.n = 7 → o' ≠ 0 ∧ s' = finZ old x o'
theorem FInv.on {old x : Int} {gd : Bool} {s o s' o' : Int} {q : Hp} (h : FInv old x gd s o q) (h1 : o ≠ 0 → o' = o) (h2 : s ≠ 69 → s' = s) : FInv old x gd s' o' q := by
  refine ⟨h.n1, h.a1, h.g1, h.o1, fun e => ?_, fun e => ?_, h.pb, h.s1, fun e => ?_, fun e => ?_⟩
  · rw [h1 (h.oo e)]; exact h.oo e
  · rw [h1 (h.oo (by omega))]; exact h.p1 e
  · rw [h1 (h.oo (by omega))]; exact h.w1 e
  · rw [h2 (h.e1 e)]; exact h.e1 e
theorem once_keep {old x : Int} {gd : Bool} {g s o : Int} {p' : Hp} (h : OInv old x gd g s o) (h' : FInv old x gd s o p') (he : p'.n = 7 → o ≠ 0 ∧ s = finZ old x o) : Once old x gd g s o s o p' :=
  ⟨h, h', fun _ => rfl, fun _ => rfl, fun _ h => h, he⟩
theorem once_step {old x : Int} {gd : Bool} {g s o c : Int} {p : Hp} (n1 : old ≠ 69) (n2 : x ≠ 69) (h : OInv old x gd g s o) (hf : FInv old x gd s o p) :
    ∃ p' s' o' c', p.step (onceM old x g s o c) = (p', onceM old x g s' o' c') ∧ Once old x gd g s o s' o' p' := by
  obtain ⟨n, a, pg, po, ps, pp, pw⟩ := p
  obtain rfl : a = 8 := hf.a1
  have hn := hf.n1
  simp only at hn
  have l8 : (onceM old x g s o c).look 8 = 3 := by simp [Mst.look, Mst.used, onceM]
  have l3 : (onceM old x g s o c).look 3 = g := by simp [Mst.look, Mst.used, onceM]
  have l9 : (onceM old x g s o c).look 9 = 6 := by simp [Mst.look, Mst.used, onceM]
  have l10 : (onceM old x g s o c).look 10 = old := by simp [Mst.look, Mst.used, onceM]
  have l11 : (onceM old x g s o c).look 11 = x := by simp [Mst.look, Mst.used, onceM]
  have l12 : (onceM old x g s o c).look 12 = o := by simp [Mst.look, Mst.used, onceM]
  have l6 : (onceM old x g s o c).look 6 = s := by simp [Mst.look, Mst.used, onceM]
  have tt : ∀ a, 1 ≤ a → a ≤ 12 → (onceM old x g s o c).touch a = onceM old x g s o (wrap64 (c + 1)) := fun a a1 a2 => by
    have hu : (onceM old x g s o c).used a = true := by simp [Mst.used, onceM]; omega
    rw [Mst.touch, if_pos hu]
    rfl
  obtain rfl | rfl | rfl | rfl | rfl | rfl | rfl | rfl : n = 0 ∨ n = 1 ∨ n = 2 ∨ n = 3 ∨ n = 4 ∨ n = 5 ∨ n = 6 ∨ n = 7 := by omega
  · refine ⟨_, s, o, wrap64 (c + 1), by simp only [Hp.step, if_true]; rw [tt 8 (by decide) (by decide), l8], once_keep h ?_ (fun e => by simp at e)⟩
    exact ⟨by simp, rfl, fun _ => rfl, fun e => by simp at e, fun e => by simp at e, fun e => by simp at e, hf.pb, fun e => by simp at e, fun e => by simp at e, fun e => by simp at e⟩
  · obtain rfl : pg = 3 := hf.g1 (by simp)
    refine ⟨_, s, o, wrap64 (c + 1), by simp (config := { decide := true }) only [Hp.step, if_true, if_false]; rw [tt 3 (by decide) (by decide), l3], once_keep h ?_ (fun e => by simp at e)⟩
    refine ⟨by simp, rfl, fun _ => rfl, fun _ => ⟨?_, fun e => ?_⟩, fun e => by simp at e, fun e => by simp at e, hf.pb, fun e => by simp at e, fun e => by simp at e, fun e => by simp at e⟩
    · simp only [Hp.outZ]; split <;> simp
    · simp only [Hp.outZ]; rw [if_neg (h.gg e).1]
  · obtain rfl : pg = 3 := hf.g1 (by simp)
    obtain ⟨ho, hog⟩ := hf.o1 (by simp)
    simp only at ho hog
    by_cases h0 : o = 0
    · subst h0
      have hs : s = 69 := by
        rcases h.ss with h1 | ⟨h1, _⟩
        · exact h1
        · exact absurd rfl h1
      refine ⟨⟨3, 8, 3, po, ps, pp, pw⟩, s, po, wrap64 (c + 1), ?_, ?_, ?_, ?_, ?_, ?_, ?_⟩
      · simp (config := { decide := true }) only [Hp.step, if_true, if_false]
        rw [show (8 : Int) + 4 = 12 by decide, Mst.cas, if_pos (by rw [Mst.did, l12]; simp [Mst.used, onceM]), Mst.write, tt 12 (by decide) (by decide), Mst.put, if_pos (by simp [Mst.used, onceM])]
        rfl
      · refine ⟨by omega, .inl hs, fun e => ⟨(h.gg e).1, by rw [hog e]; decide⟩, h.gi⟩
      · refine ⟨by simp, rfl, fun _ => rfl, fun _ => ⟨ho, hog⟩, fun _ => by omega, fun e => by simp at e, hf.pb, fun e => by simp at e, fun e => by simp at e, fun e => by simp at e⟩
      · exact fun e => absurd rfl e
      · exact fun _ => rfl
      · exact fun q hq => hq.on (fun e => absurd rfl e) (fun _ => rfl)
      · exact fun e => by simp at e
    · refine ⟨⟨3, 8, 3, po, ps, pp, pw⟩, s, o, wrap64 (c + 1), ?_, once_keep h ?_ (fun e => by simp at e)⟩
      · simp (config := { decide := true }) only [Hp.step, if_true, if_false]
        rw [show (8 : Int) + 4 = 12 by decide, Mst.cas, if_neg (by rw [Mst.did, l12]; simp [h0]), tt 12 (by decide) (by decide)]
      · refine ⟨by simp, rfl, fun _ => rfl, fun _ => ⟨ho, hog⟩, fun _ => h0, fun e => by simp at e, hf.pb, fun e => by simp at e, fun e => by simp at e, fun e => by simp at e⟩
  · have h0 := hf.oo (by simp)
    refine ⟨_, s, o, wrap64 (c + 1), by simp (config := { decide := true }) only [Hp.step, if_true, if_false]; rw [show (8 : Int) + 4 = 12 by decide, tt 12 (by decide) (by decide), l12], once_keep h ?_ (fun e => by simp at e)⟩
    exact ⟨by simp, rfl, fun _ => hf.g1 (by simp), fun _ => hf.o1 (by simp), fun _ => h0, fun _ => rfl, by simp only [Hp.placeZ]; split <;> decide, fun e => by simp at e, fun e => by simp at e, fun e => by simp at e⟩
  · have h0 := hf.oo (by simp)
    refine ⟨_, s, o, wrap64 (c + 1), by simp (config := { decide := true }) only [Hp.step, if_true, if_false]; rw [show (8 : Int) + 1 = 9 by decide, tt 9 (by decide) (by decide), l9], once_keep h ?_ (fun e => by simp at e)⟩
    exact ⟨by simp, rfl, fun _ => hf.g1 (by simp), fun _ => hf.o1 (by simp), fun _ => h0, fun _ => hf.p1 (by simp), hf.pb, fun _ => rfl, fun e => by simp at e, fun e => by simp at e⟩
  · have h0 := hf.oo (by simp)
    have hp : pp = Hp.placeZ o := hf.p1 (by simp)
    have hl : (onceM old x g s o c).look (8 + pp) = finZ old x o ∧ (onceM old x g s o c).touch (8 + pp) = onceM old x g s o (wrap64 (c + 1)) := by
      rw [hp, Hp.placeZ, finZ]
      split
      · exact ⟨l11, tt 11 (by decide) (by decide)⟩
      · exact ⟨l10, tt 10 (by decide) (by decide)⟩
    refine ⟨_, s, o, wrap64 (c + 1), by simp (config := { decide := true }) only [Hp.step, if_true, if_false]; rw [hl.1, hl.2], once_keep h ?_ (fun e => by simp at e)⟩
    exact ⟨by simp, rfl, fun _ => hf.g1 (by simp), fun _ => hf.o1 (by simp), fun _ => h0, fun _ => hf.p1 (by simp), hf.pb, fun _ => hf.s1 (by simp), fun _ => rfl, fun e => by simp at e⟩
  · have h0 := hf.oo (by simp)
    obtain rfl : ps = 6 := hf.s1 (by simp)
    have hw : pw = finZ old x o := hf.w1 (by simp)
    have hx : finZ old x o ≠ 69 := by unfold finZ; split <;> assumption
    have hme : Rf.ofZ 5 8 = 69 := by decide
    by_cases hs : s = 69
    · refine ⟨⟨7, 8, pg, po, 6, pp, pw⟩, pw, o, wrap64 (c + 1), ?_, ?_, ?_, ?_, ?_, ?_, ?_⟩
      · simp (config := { decide := true }) only [Hp.step, if_true, if_false]
        rw [hme, Mst.cas, if_pos (by rw [Mst.did, l6]; simp [Mst.used, onceM, hs]), Mst.write, tt 6 (by decide) (by decide), Mst.put, if_pos (by simp [Mst.used, onceM])]
        rfl
      · exact ⟨h.oo, .inr ⟨h0, hw⟩, h.gg, h.gi⟩
      · exact ⟨by simp, rfl, fun _ => hf.g1 (by simp), fun _ => hf.o1 (by simp), fun _ => h0, fun _ => hf.p1 (by simp), hf.pb, fun _ => rfl, fun _ => hw, fun _ => by rw [hw]; exact hx⟩
      · exact fun _ => rfl
      · exact fun e => absurd hs e
      · exact fun q hq => hq.on (fun _ => rfl) (fun e => absurd hs e)
      · exact fun _ => ⟨h0, hw⟩
    · have hs' : s = finZ old x o := by
        rcases h.ss with h1 | ⟨_, h1⟩
        · exact absurd h1 hs
        · exact h1
      refine ⟨⟨7, 8, pg, po, 6, pp, pw⟩, s, o, wrap64 (c + 1), ?_, once_keep h ?_ (fun _ => ⟨h0, hs'⟩)⟩
      · simp (config := { decide := true }) only [Hp.step, if_true, if_false]
        rw [hme, Mst.cas, if_neg (by rw [Mst.did, l6]; simp [hs]), tt 6 (by decide) (by decide)]
      · exact ⟨by simp, rfl, fun _ => hf.g1 (by simp), fun _ => hf.o1 (by simp), fun _ => h0, fun _ => hf.p1 (by simp), hf.pb, fun _ => rfl, fun _ => hw, fun _ => hs⟩
  · refine ⟨⟨7, 8, pg, po, ps, pp, pw⟩, s, o, c, by simp (config := { decide := true }) only [Hp.step, if_false], once_keep h hf (fun _ => ?_)⟩
    have hs := hf.e1 rfl
    rcases h.ss with h1 | h1
    · exact absurd h1 hs
    · exact h1
end Go.Proofs.Ytejdgdpiddngiaa
