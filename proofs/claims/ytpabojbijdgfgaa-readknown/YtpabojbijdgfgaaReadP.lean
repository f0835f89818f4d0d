/-
  What the program's frames of chapter 13 (read) answer and leave: 'Rd' a frame in plain, 'Rd.step' its next access at a memory. No conditions beyond each theorem's own.
-/
import Derived.Test.YtpabojbijdgfgaaHelpP
namespace Go.Proofs.Ytpabojbijdgfgaa
open Go.RowKit
set_option maxRecDepth 20000
attribute [local go_sem] Oper.semAt_some

/-- A frame of read: its slot, the help of the change that it found, the word, whether it is at its end. -/
structure Rd where
  s : Int
  c : Option Hp
  w : Int
  d : Bool
namespace Rd
def new (s : Int) : Rd := ⟨s, none, 0, false⟩
def take (p : Rd) (z : Int) : Rd := if kd z = 5 then { p with c := some (Hp.new (ad z)) } else { p with w := z, d := true }
/-- The next access. -/
def step (p : Rd) (m : Mst) : Rd × Mst :=
  if p.d = true then (p, m) else
  match p.c with
  | none => (p.take (m.look p.s), m.touch p.s)
  | some h => ({ p with c := if ((h.step m).1.n == 7) = true then none else some (h.step m).1 }, (h.step m).2)
end Rd
/-- It lies at f, its help at g. -/
def RdAt (W : World) (f g : Nat) (p : Rd) : Prop := W.heap[f]? = some (.cells #[.int .i64 p.s, .pointer (if p.c.isSome then some ⟨g, 0, none⟩ else none), .int .i64 p.w, .bool p.d] 47) ∧ ∀ h, p.c = some h → HpAt W g h
theorem box4 {W : World} {f : Nat} {a b c d : Value} {T : TypeId} (h : W.heap[f]? = some (.cells #[a, b, c, d] T)) : (W.cell? ⟨f, 0, none⟩ = some a ∧ W.cell? ⟨f, 1, none⟩ = some b ∧ W.cell? ⟨f, 2, none⟩ = some c ∧ W.cell? ⟨f, 3, none⟩ = some d) ∧ ∀ i, W.frozen? ⟨f, i, none⟩ = false := by
  simp [World.cell?, World.frozen?, h]
theorem RdAt.lt {W : World} {f g : Nat} {p : Rd} (h : RdAt W f g p) : f < W.heap.size := (Array.getElem?_eq_some_iff.1 h.1).1
theorem RdAt.turned {W W' : World} {f g : Nat} {p : Rd} {R : Nat → Prop} (h : RdAt W f g p) (t : Turned R W W') (h1 : ¬ R f) (h2 : p.c.isSome = true → ¬ R g) : RdAt W' f g p :=
  ⟨t.heap h.1 h1, fun q hq => (h.2 q hq).turned t (h2 (by rw [hq]; rfl))⟩
/-- A block of another type is none of a memory's. -/
theorem MemAt.other {W : World} {n₀ b k : Nat} {v : Value} {m : Mst} {cs : Array Value} {T : TypeId} (h : PMem W n₀ b v m) (hk : W.heap[k]? = some (.cells cs T)) (h1 : T ≠ 39) (h2 : T ≠ 2) : ¬ Foot b v k := by
  rintro (rfl | e)
  · have := h.box.symm.trans hk
    simp at this
    exact h1 this.2.symm
  · rcases h.row.2 with ⟨h0, _⟩ | ⟨g, cap, cur, h0, _, hg, _⟩
    · rw [h0] at e; simp [Value.ownBlock] at e
    · rw [h0] at e
      obtain rfl : g = k := by simpa [Value.ownBlock] using e
      have := hg.symm.trans hk
      simp at this
      exact h2 this.2.symm
theorem rd_new (W : World) (s : Int) : Calls Try.prog 9 #[.int .i64 s] W fun e W' => e = .returned (.pointer (some ⟨W.heap.size, 0, none⟩)) ∧ RdAt W' W.heap.size 0 (Rd.new s) ∧ Kept W W' := by
  go_enter Try.func9, Try.ntmps9
  go_wp2
  go_ret
  exact ⟨rfl, ⟨heap_new _ _, fun _ e => by cases e⟩, Turned.alloc _ _ _⟩
theorem rd_word (W : World) (f g : Nat) (p : Rd) (h : RdAt W f g p) (r : Int) (e1 : p.w = r) : Calls Try.prog 13 #[.pointer (some ⟨f, 0, none⟩)] W fun e W' => e = .returned (.int .i64 r) ∧ W = W' := by
  obtain ⟨⟨_, _, c2, _⟩, _⟩ := box4 h.1
  subst e1
  clear h
  go_enter Try.func13, Try.ntmps13
  go_wp2
  go_ret
  exact ⟨rfl, rfl⟩
theorem kd_q (w : World) (a k : Int) (h : I64 a) (e1 : kd a = k) : Calls Try.prog 28 #[.int .i64 a] w fun e w' => e = .returned (.int .i64 k) ∧ w = w' := by
  subst e1
  refine (Rf.kind_c a h.wf w).mono ?_
  rintro e w' ⟨rfl, rfl⟩
  exact ⟨rfl, rfl⟩
theorem ad_q (w : World) (a k : Int) (h : I64 a) (e1 : ad a = k) : Calls Try.prog 30 #[.int .i64 a] w fun e w' => e = .returned (.int .i64 k) ∧ w = w' := by
  subst e1
  refine (Rf.at_c a h.wf w).mono ?_
  rintro e w' ⟨rfl, rfl⟩
  exact ⟨rfl, rfl⟩
/-- take, as the step calls it. -/
theorem rd_take (W : World) (f : Nat) (p : Rd) (h : RdAt W f 0 p) (hc : p.c = none) (hd : p.d = false) (z : Int) (hz : I64 z) (p' : Rd) (e1 : p.take z = p') : Calls Try.prog 21 #[.pointer (some ⟨f, 0, none⟩), .int .i64 z] W fun e W' => e = .returned (.tuple #[]) ∧ ∃ g, RdAt W' f g p' ∧ W.heap.size ≤ g ∧ Turned (fun k => k = f) W W' := by
  have H := hide h
  obtain ⟨s, c, w, d⟩ := p
  simp only at hc hd
  subst hc hd
  have hlt := h.lt
  obtain ⟨⟨c0, c1, c2, c3⟩, fz⟩ := box4 h.1
  simp only at c0 c2 c3
  obtain ⟨k, hk⟩ : ∃ k, kd z = k := ⟨_, rfl⟩
  obtain ⟨a, ha⟩ : ∃ a, ad z = a := ⟨_, rfl⟩
  have K : ∀ X, Calls Try.prog 28 #[.int .i64 z] X fun e w' => e = .returned (.int .i64 k) ∧ X = w' := fun X => kd_q X z k hz hk
  have A : ∀ X, Calls Try.prog 30 #[.int .i64 z] X fun e w' => e = .returned (.int .i64 a) ∧ X = w' := fun X => ad_q X z a hz ha
  unfold Rd.take at e1
  rw [hk, ha] at e1
  have f1 := fz 1
  have f2 := fz 2
  have f3 := fz 3
  clear fz hk ha h hz
  by_cases h5 : k = 5
  · subst h5
    rw [if_pos rfl] at e1
    subst e1
    go_enter Try.func21, Try.ntmps21
    go_wp2_with (fail)
    refine (K W).mono ?_
    rintro e w' ⟨rfl, rfl⟩
    go_wp2_with (fail)
    refine (A W).mono ?_
    rintro e w' ⟨rfl, rfl⟩
    go_wp2_with (fail)
    refine (hp_new W a).mono ?_
    rintro e W1 ⟨rfl, p1, k1⟩
    obtain ⟨⟨d0, d1, d2, d3⟩, df⟩ := box4 (k1.heap H.out.1 id)
    have df1 := df 1
    have K1 := hide k1
    have P1 := hide p1
    obtain ⟨g, hg⟩ : ∃ g, W.heap.size = g := ⟨_, rfl⟩
    have HG := hide hg
    rw [hg] at P1
    clear k1 p1 c0 c1 c2 c3 f1 f2 f3 df
    rw [hg]
    clear hg
    go_wp2
    refine bodyPost_ret (results_none rfl _ _ _) rfl ?_
    refine ⟨rfl, g, ⟨?_, ?_⟩, Nat.le_of_eq HG.out, K1.out.then (Turned.setCell (R := fun k => k = f) _ _ _ rfl)⟩
    · rw [box_set _ (K1.out.heap H.out.1 id)]
      rfl
    · intro q hq
      cases hq
      exact P1.out.turned (Turned.setCell (R := fun k => k = f) _ _ _ rfl) (by have := HG.out; omega)
  · have g5 : (k == 5) = false := by simp [h5]
    rw [if_neg h5] at e1
    subst e1
    go_enter Try.func21, Try.ntmps21
    go_wp2_with (fail)
    refine (K W).mono ?_
    rintro e w' ⟨rfl, rfl⟩
    go_wp2
    go_end0
    refine ⟨rfl, W.heap.size, ⟨?_, fun _ e => by cases e⟩, Nat.le_refl _, (Turned.setCell (R := fun k => k = f) _ _ _ rfl).trans (Turned.setCell (R := fun k => k = f) _ _ _ rfl) (fun _ e => e) (fun _ _ e => e)⟩
    rw [box_set _ (box_set _ H.out.1)]
    rfl
/-- What a frame and its memory are in then. -/
def RdRan (W : World) (n₀ b : Nat) (v : Value) (f g : Nat) (p p' : Rd) (m' : Mst) (W' : World) : Prop :=
  ∃ g', RdAt W' f g' p' ∧ PMem W' n₀ b v m' ∧ (p'.c.isSome = true → (p.c.isSome = true ∧ g' = g) ∨ W.heap.size ≤ g') ∧ Turned (fun k => k = f ∨ (p.c.isSome = true ∧ k = g) ∨ Foot b v k) W W'
theorem RdAt.some {W : World} {f g g' : Nat} {p : Rd} (h : RdAt W f g p) (hc : p.c = none) : RdAt W f g' p := by
  obtain ⟨s, c, w, d⟩ := p
  subst hc
  exact ⟨h.1, fun _ e => by cases e⟩
set_option maxHeartbeats 1000000 in
theorem rd_step (W : World) (n₀ b : Nat) (v : Value) (f g : Nat) (p : Rd) (m : Mst) (h : RdAt W f g p) (hm : PMem W n₀ b v m) (hok : ∀ q, p.c = some q → q.Ok) (ho : ∀ a, I64 (m.look a)) (p' : Rd) (m' : Mst) (r : Bool) (e1 : p.step m = (p', m')) (e2 : p'.d = r) :
    Calls Try.prog 10 #[.pointer (some ⟨f, 0, none⟩), .pointer (some ⟨b, 0, none⟩)] W fun e W' => e = .returned (.bool r) ∧ RdRan W n₀ b v f g p p' m' W' := by
  have H := hide h
  have HM := hide hm
  have HO := hide ho
  have HF := hide (hm.other h.1 (by decide) (by decide))
  obtain ⟨s, c, w, d⟩ := p
  obtain ⟨⟨c0, c1, c2, c3⟩, fz⟩ := box4 h.1
  simp only at c0 c1 c2 c3
  unfold Rd.step at e1
  simp only at e1
  cases d with
  | true =>
    rw [if_pos rfl] at e1
    obtain ⟨rfl, rfl⟩ := Prod.mk.inj e1
    simp only at e2
    subst e2
    clear h hm ho hok e1 fz
    go_enter Try.func10, Try.ntmps10
    go_wp2
    go_ret
    exact ⟨rfl, g, H.out, HM.out, fun e => .inl ⟨e, rfl⟩, Turned.refl _ _⟩
  | false =>
    rw [if_neg (by decide)] at e1
    cases c with
    | none =>
      simp only at e1
      obtain ⟨z, hz⟩ : ∃ z, m.look s = z := ⟨_, rfl⟩
      rw [hz] at e1
      obtain ⟨e3, rfl⟩ := Prod.mk.inj e1
      have HZ := hide hz
      have hz' : I64 z := by rw [← hz]; exact ho _
      have HI := hide hz'
      have HT := hide e3
      have H0 := hide (H.out.some (g' := 0) rfl)
      clear h hm ho hok e1 fz hz hz' e3
      simp only [Option.isSome_none, Bool.false_eq_true, if_false] at c1
      go_enter Try.func10, Try.ntmps10
      go_wp2_with (fail)
      refine (read_p W n₀ b v m s HM.out).mono ?_
      rw [HZ.out]
      rintro e W1 ⟨rfl, m1, t1⟩
      have M1 := hide m1
      have T1 : Hid (Turned (Foot b v) W W1) := hide (t1.mono (fun _ _ e => .inl e))
      have H1 := hide (H0.out.turned T1.out HF.out (fun e => by cases e))
      clear m1 t1 c0 c1 c2 c3
      go_wp2_with (fail)
      refine (rd_take W1 f _ H1.out rfl rfl z HI.out p' HT.out).mono ?_
      rintro e W2 ⟨rfl, g', h2, l2, t2⟩
      obtain ⟨⟨d0, d1, d2, d3⟩, _⟩ := box4 h2.1
      rw [e2] at d3
      have H2 := hide h2
      have T2 := hide t2
      have L2 := hide l2
      clear h2 t2 l2 e2
      go_wp2
      go_ret
      exact ⟨rfl, g', H2.out, M1.out.turned T2.out (fun k hk e => HF.out (by rw [← e]; exact hk)), fun _ => .inr (Nat.le_trans T1.out.size L2.out), T1.out.trans T2.out (fun _ e => .inr (.inr e)) (fun _ _ e => .inl e)⟩
    | some q =>
      simp only [Option.isSome_some, if_true] at c1
      have hq := h.2 q rfl
      have HQ := hide hq
      have HK := hide (hok q rfl)
      have HG := hide (hm.other hq (by decide) (by decide))
      have hfg : f ≠ g := by
        rintro rfl
        have := h.1.symm.trans hq
        simp at this
      have HFG := hide hfg
      obtain ⟨q', m1, hs⟩ : ∃ q' m1, q.step m = (q', m1) := ⟨_, _, rfl⟩
      obtain ⟨u, hu⟩ : ∃ u, (q'.n == 7) = u := ⟨_, rfl⟩
      simp only [hs] at e1
      obtain ⟨e3, rfl⟩ := Prod.mk.inj e1
      have HS := hide hs
      have HU := hide hu
      rw [hu] at e3
      subst e3
      simp only at e2
      subst e2
      clear h hm ho hok e1 fz hq hs hu hfg
      go_enter Try.func10, Try.ntmps10
      go_wp2_with (fail)
      refine (hp_step W n₀ b v g q m HQ.out HM.out HK.out HO.out HG.out q' m1 u HS.out HU.out).mono ?_
      rintro e W1 ⟨rfl, R⟩
      obtain ⟨r1, r2, r3⟩ := R
      have R1 := hide r1
      have R2 := hide r2
      have R3 := hide r3
      have hb : W1.heap[f]? = _ := r3.heap H.out.1 (fun e => e.elim (fun e => HFG.out e) HF.out)
      have HB := hide hb
      obtain ⟨⟨d0, d1, d2, d3⟩, df⟩ := box4 hb
      simp only at d0 d1 d2 d3
      have df1 := df 1
      clear r1 r2 r3 hb df c0 c1 c2 c3
      cases u with
      | true =>
        go_wp2
        go_ret
        refine ⟨rfl, g, ⟨?_, fun _ e => by cases e⟩, R2.out.turned (Turned.setCell (R := fun k => k = f) _ _ _ rfl) (fun k hk e => HF.out (by rw [← e]; exact hk)), fun e => (by cases e), R3.out.trans (Turned.setCell (R := fun k => k = f) _ _ _ rfl) (fun _ e => e.elim (fun e => .inr (.inl ⟨rfl, e⟩)) (fun e => .inr (.inr e))) (fun _ _ e => .inl e)⟩
        rw [box_set _ HB.out]
        rfl
      | false =>
        go_wp2
        go_ret
        refine ⟨rfl, g, ⟨HB.out, ?_⟩, R2.out, fun _ => .inl ⟨rfl, rfl⟩, R3.out.mono (fun _ _ e => e.elim (fun e => .inr (.inl ⟨rfl, e⟩)) (fun e => .inr (.inr e)))⟩
        rintro x e
        cases e
        exact R1.out
end Go.Proofs.Ytpabojbijdgfgaa
