/-
  DcssMany as it lies: the memory, five frames, their helpers, the rows that hold them ('MS'); the calls of a round. No conditions beyond each theorem's own.
-/
import Derived.Test.YtoaicedkepcalaaDcH
import Derived.Test.YtoaicedkepcalaaDcL
import Derived.Test.YtoaicedkepcalaaHeldQ
namespace Go.Proofs.Ytoaicedkepcalaa
open Go.RowKit
set_option maxRecDepth 20000

theorem few_c (w : World) (a : Option Addr) (zs : List Int) (M cap : Nat) (n : Nat) (hr : Reads w a zs) (hM : zs.length = M) (hc : M ≤ cap) (hm : cap ≤ maxLen) (hn : n ≤ 1000) :
    Calls Try.prog 15 #[.slice a M cap, .int .i64 (n : Int)] w fun e w' => e = .returned (.slice a (min M n) cap) ∧ w = w' := by
  have hm' : (M : Int) ≤ 9223372036854775807 := by unfold maxLen at hm; omega
  by_cases hlt : n < M
  · have i1 : (n : Int) < (M : Int) := by omega
    have i2 : n ≤ cap := by omega
    have e1 : min M n = n := by omega
    rcases hr with h | ⟨bl, off, rfl, _⟩
    · rw [h] at hM; simp at hM; omega
    · rw [e1]
      clear hm hM e1
      go_enter Try.func15, Try.ntmps15
      go_wp2
      go_ret
      exact ⟨rfl, rfl⟩
  · have i1 : ¬ ((n : Int) < (M : Int)) := by omega
    have e1 : min M n = M := by omega
    rw [e1]
    clear hm hM e1 hr
    go_enter Try.func15, Try.ntmps15
    go_wp2
    go_ret
    exact ⟨rfl, rfl⟩
/-- Five cells. -/
def rowV (h : Nat → Value) : Array Value := #[h 0, h 1, h 2, h 3, h 4]
theorem rowV_at {W : World} {y : Nat} {h : Nat → Value} {T : TypeId} (hb : W.heap[y]? = some (.cells (rowV h) T)) {j : Nat} (hj : j < 5) : W.cell? ⟨y, j, none⟩ = some (h j) := by
  obtain rfl | rfl | rfl | rfl | rfl : j = 0 ∨ j = 1 ∨ j = 2 ∨ j = 3 ∨ j = 4 := by omega
  all_goals simp [World.cell?, hb, rowV]
theorem rowV_fz {W : World} {y : Nat} {h : Nat → Value} {T : TypeId} (hb : W.heap[y]? = some (.cells (rowV h) T)) (j : Nat) : W.frozen? ⟨y, j, none⟩ = false := by simp [World.frozen?, hb]
theorem rowV_set {W : World} {y : Nat} {h : Nat → Value} {T : TypeId} (hb : W.heap[y]? = some (.cells (rowV h) T)) {j : Nat} (hj : j < 5) (v : Value) : (W.setCell ⟨y, j, none⟩ v).heap[y]? = some (.cells (rowV (upd h j v)) T) := by
  rw [box_set v hb]
  obtain rfl | rfl | rfl | rfl | rfl : j = 0 ∨ j = 1 ∨ j = 2 ∨ j = 3 ∨ j = 4 := by omega
  all_goals rfl
theorem rowV_ext {h h' : Nat → Value} (e : ∀ j, j < 5 → h j = h' j) : rowV h = rowV h' := by
  unfold rowV
  rw [e 0 (by omega), e 1 (by omega), e 2 (by omega), e 3 (by omega), e 4 (by omega)]
abbrev ptr (f : Nat) : Value := .pointer (some ⟨f, 0, none⟩)
def hpV (q : Option Hp) (g : Nat) : Value := match q with | none => .pointer none | some _ => ptr g
/-- All of it. -/
structure MS (w W : World) (b bo bn bf bh : Nat) (f g : Nat → Nat) (old new : Nat → Int) (m : Mst) (s : Int) (o : Nat → Int) (p : Nat → Dp) (q : Nat → Option Hp) : Prop where
  now : Now w W b m
  di : DI old new m s o p q
  fr : ∀ j, j < 5 → DpAt W (f j) (p j) ∧ w.heap.size ≤ f j
  fa : ∀ i j, i < 5 → j < 5 → f i = f j → i = j
  hp : ∀ j, j < 5 → ∀ x, q j = some x → HpAt W (g j) x ∧ w.heap.size ≤ g j
  ha : ∀ i j, i < 5 → j < 5 → q i ≠ none → q j ≠ none → g i = g j → i = j
  ro : W.heap[bo]? = some (.cells (rowV fun j => .int .i64 (old j)) 32)
  rn : W.heap[bn]? = some (.cells (rowV fun j => .int .i64 (new j)) 32)
  rf : W.heap[bf]? = some (.cells (rowV fun j => ptr (f j)) 33)
  rh : W.heap[bh]? = some (.cells (rowV fun j => hpV (q j) (g j)) 35) ∧ w.heap.size ≤ bh
namespace MS
variable {w W W' : World} {b bo bn bf bh : Nat} {f g : Nat → Nat} {old new : Nat → Int} {m : Mst} {s : Int} {o : Nat → Int} {p : Nat → Dp} {q : Nat → Option Hp}
theorem kept (h : MS w W b bo bn bf bh f g old new m s o p q) (k : Kept W W') : MS w W' b bo bn bf bh f g old new m s o p q :=
  ⟨h.now.on k, h.di, fun j hj => ⟨(h.fr j hj).1.kept k, (h.fr j hj).2⟩, h.fa, fun j hj x hx => ⟨(h.hp j hj x hx).1.kept k, (h.hp j hj x hx).2⟩, h.ha, k.heap h.ro id, k.heap h.rn id, k.heap h.rf id, k.heap h.rh.1 id, h.rh.2⟩
theorem pm (h : MS w W b bo bn bf bh f g old new m s o p q) : PM W b m := by
  obtain ⟨⟨v, hv⟩, _⟩ := h.now
  exact ⟨_, v, hv⟩
theorem dok (h : MS w W b bo bn bf bh f g old new m s o p q) {j : Nat} (hj : j < 5) : (0 ≤ (p j).n ∧ (p j).n ≤ 6) ∧ 0 ≤ (p j).r ∧ (p j).r ≤ 1000000 := by
  have F := h.di.fr j hj
  refine ⟨F.n, ?_⟩
  by_cases h1 : 1 ≤ (p j).n
  · have := h.di.rng hj h1
    omega
  · have := (F.r0 (by have := F.n; omega)).1
    omega
/-- A frame goes on. -/
theorem frame (T : Two old new) (h : MS w W b bo bn bf bh f g old new m s o p q) {j : Nat} (hj : j < 5) :
    Calls Try.prog 11 #[.pointer (some ⟨f j, 0, none⟩), .pointer (some ⟨b, 0, none⟩)] W fun e W' => ∃ r p' m' s' o', e = .returned (.bool r) ∧ MS w W' b bo bn bf bh f g old new m' s' (upd o j o') (upd p j p') q ∧ Tn m m' (old j) (new j) (o j) o' (1 ≤ p'.n) ∧ ((p j).n < 6 → (p j).n < p'.n) ∧ (¬ (p j).n < 6 → p' = p j) := by
  obtain ⟨p', m', s', o', e1, S⟩ := frame_step T h.di hj
  have same : ¬ (p j).n < 6 → p' = p j := fun e => by
    have n6 : (p j).n = 6 := by have := (h.di.fr j hj).n; omega
    rw [Dp.step, n6] at e1
    simp at e1
    exact e1.1.symm
  obtain ⟨d1, d2⟩ := h.dok hj
  refine (d_step w W b m (f j) (p j) h.now (h.fr j hj).1 (h.fr j hj).2 d1 d2 (fun a => h.di.ok.look a) p' m' _ e1 rfl).mono ?_
  rintro e W' ⟨rfl, n', f', ot⟩
  have di := S.di
  rw [upd_id q j] at di
  refine ⟨_, p', m', s', o', rfl, ⟨n', di, fun i hi => ?_, h.fa, fun i hi x hx => ?_, h.ha, ?_, ?_, ?_, ?_, h.rh.2⟩, S.tn, S.go, same⟩
  · by_cases hij : i = j
    · subst hij; rw [upd_self]; exact ⟨f', (h.fr i hi).2⟩
    · rw [upd_ne _ _ hij]; exact ⟨(h.fr i hi).1.ot ot (fun e => hij (h.fa i j hi hj e)), (h.fr i hi).2⟩
  · have H := h.hp i hi x hx
    refine ⟨ot _ _ _ (fun e => ?_) H.1 (by decide) (by decide), H.2⟩
    have h1 : W.heap[g i]? = _ := H.1
    have h2 : W.heap[f j]? = _ := (h.fr j hj).1
    rw [e, h2] at h1
    simp at h1
  all_goals
    refine ot _ _ _ (fun e => ?_) (by first | exact h.ro | exact h.rn | exact h.rf | exact h.rh.1) (by decide) (by decide)
    have h2 : W.heap[f j]? = _ := (h.fr j hj).1
    first
    | (have h1 := h.ro; rw [e, h2] at h1; simp at h1; done)
    | (have h1 := h.rn; rw [e, h2] at h1; simp at h1; done)
    | (have h1 := h.rf; rw [e, h2] at h1; simp at h1; done)
    | (have h1 := h.rh.1; rw [e, h2] at h1; simp at h1; done)
/-- A helper goes on. -/
theorem help (T : Two old new) (h : MS w W b bo bn bf bh f g old new m s o p q) {j : Nat} (hj : j < 5) {x : Hp} (hq : q j = some x) :
    Calls Try.prog 23 #[.pointer (some ⟨g j, 0, none⟩), .pointer (some ⟨b, 0, none⟩)] W fun e W' => ∃ r h' m' s' o', e = .returned (.bool r) ∧ MS w W' b bo bn bf bh f g old new m' s' (upd o j o') p (upd q j (some h')) ∧ Tn m m' (old j) (new j) (o j) o' (1 ≤ (p j).n) := by
  obtain ⟨h', m', s', o', e1, S⟩ := help_step T h.di hj hq
  obtain ⟨hx, hgn⟩ := h.hp j hj x hq
  obtain ⟨_, d2⟩ := h.dok hj
  have X := (h.di.fr j hj).hp x hq
  obtain ⟨⟨v, hm⟩, hk⟩ := h.now
  have nf : ¬ Foot b v (g j) := foot_ty hm hx (by decide) (by decide)
  refine (hp_step W _ b v (g j) x m hx hm (X.ok d2.1 d2.2) (fun a => h.di.ok.look a) nf h' m' _ e1 rfl).mono ?_
  rintro e W' ⟨rfl, R⟩
  have ot : Ot (g j) W W' := Ot.turned hm R.turned
  refine ⟨_, h', m', s', o', rfl, ⟨⟨⟨v, R.mem⟩, hk.own (fun i hi => hi.elim (fun e => e ▸ hgn) (fun e => (hm.lt i e).1)) R.turned⟩, S.di, fun i hi => ?_, h.fa, fun i hi y hy => ?_, fun i k hi hk a1 a2 e => ?_, ?_, ?_, ?_, ?_, h.rh.2⟩, S.tn⟩
  · refine ⟨(h.fr i hi).1.ot ot (fun e => ?_), (h.fr i hi).2⟩
    have h1 : W.heap[g j]? = _ := hx
    have h2 : W.heap[f i]? = _ := (h.fr i hi).1
    rw [← e, h2] at h1
    simp at h1
  · by_cases hij : i = j
    · subst hij
      rw [upd_self] at hy
      cases hy
      exact ⟨R.frame, hgn⟩
    · rw [upd_ne _ _ hij] at hy
      have H := h.hp i hi y hy
      exact ⟨ot _ _ _ (fun e => hij (h.ha i j hi hj (by rw [hy]; simp) (by rw [hq]; simp) e)) H.1 (by decide) (by decide), H.2⟩
  · refine h.ha i k hi hk (fun e' => ?_) (fun e' => ?_) e
    · by_cases hij : i = j
      · subst hij; rw [hq] at e'; cases e'
      · rw [upd_ne _ _ hij] at a1; exact a1 e'
    · by_cases hij : k = j
      · subst hij; rw [hq] at e'; cases e'
      · rw [upd_ne _ _ hij] at a2; exact a2 e'
  · refine ot _ _ _ (fun e => ?_) h.ro (by decide) (by decide)
    have h1 := h.ro
    have h2 : W.heap[g j]? = _ := hx
    rw [e, h2] at h1
    simp at h1
  · refine ot _ _ _ (fun e => ?_) h.rn (by decide) (by decide)
    have h1 := h.rn
    have h2 : W.heap[g j]? = _ := hx
    rw [e, h2] at h1
    simp at h1
  · refine ot _ _ _ (fun e => ?_) h.rf (by decide) (by decide)
    have h1 := h.rf
    have h2 : W.heap[g j]? = _ := hx
    rw [e, h2] at h1
    simp at h1
  · rw [rowV_ext (h' := fun i => hpV (q i) (g i)) (fun i _ => by
      by_cases hij : i = j
      · subst hij; simp only [upd_self, hq, hpV]
      · simp only [upd_ne _ _ hij])]
    refine ot _ _ _ (fun e => ?_) h.rh.1 (by decide) (by decide)
    have h1 := h.rh.1
    have h2 : W.heap[g j]? = _ := hx
    rw [e, h2] at h1
    simp at h1
/-- The guard is shut. -/
theorem shut (h : MS w W b bo bn bf bh f g old new m s o p q) :
    Calls Try.prog 18 #[.pointer (some ⟨b, 0, none⟩), .int .i64 3, .int .i64 1] W fun e W' => e = .returned (.tuple #[]) ∧ MS w W' b bo bn bf bh f g old new (m.write 3 1) s o p q ∧ (m.write 3 1).logicZ 6 = m.logicZ 6 := by
  obtain ⟨D, L⟩ := h.di.shut
  have bb : ∃ c, W.heap[b]? = some (.cells c 50) := by
    obtain ⟨⟨v, hv⟩, _⟩ := h.now
    exact ⟨_, hv.box⟩
  obtain ⟨cb, hb⟩ := bb
  refine (d_write w W b m 3 1 _ h.now rfl).mono ?_
  rintro e W' ⟨rfl, n', ot⟩
  have key : ∀ {k : Nat} {c : Array Value} {T : TypeId}, W.heap[k]? = some (.cells c T) → T ≠ 2 → T ≠ 50 → W'.heap[k]? = some (.cells c T) := fun hk h1 h2 => ot _ _ _ (fun e => by
    rw [e, hb] at hk
    simp at hk
    exact h2 hk.2.symm) hk h1 h2
  exact ⟨rfl, ⟨n', D, fun j hj => ⟨key (h.fr j hj).1 (by decide) (by decide), (h.fr j hj).2⟩, h.fa, fun j hj x hx => ⟨key (h.hp j hj x hx).1 (by decide) (by decide), (h.hp j hj x hx).2⟩, h.ha, key h.ro (by decide) (by decide), key h.rn (by decide) (by decide), key h.rf (by decide) (by decide), key h.rh.1 (by decide) (by decide), h.rh.2⟩, L⟩
/-- A helper has begun. -/
theorem begun (h : MS w W b bo bn bf bh f g old new m s o p q) {j : Nat} (hj : j < 5) (hq : q j = none) (h1 : 1 ≤ (p j).n) (hs : s = (p j).w) {V : World} (kV : Kept W V) {k : Nat} (hk : W.heap.size ≤ k) (hf : HpAt V k (Hp.new (p j).r)) :
    MS w (V.setCell ⟨bh, j, none⟩ (ptr k)) b bo bn bf bh f (upd g j k) old new m s o p (upd q j (some (Hp.new (p j).r))) := by
  have H := h.kept kV
  have t : Turned (fun i => i = bh) V (V.setCell ⟨bh, j, none⟩ (ptr k)) := Turned.setCell _ _ _ rfl
  have key : ∀ {i : Nat} {c : Array Value} {T : TypeId}, V.heap[i]? = some (.cells c T) → T ≠ 35 → (V.setCell ⟨bh, j, none⟩ (ptr k)).heap[i]? = some (.cells c T) := fun hi h1 => t.heap hi (fun e => by
    have h2 := H.rh.1
    rw [← e, hi] at h2
    simp at h2
    exact h1 h2.2)
  have lt : ∀ i, i < 5 → q i ≠ none → g i < k := fun i hi hn => by
    cases hx : q i with
    | none => exact absurd hx hn
    | some x =>
      have := (Array.getElem?_eq_some_iff.1 (h.hp i hi x hx).1).1
      omega
  have qn : ∀ i, i ≠ j → upd q j (some (Hp.new (p j).r)) i = q i := fun i hi => upd_ne _ _ hi
  obtain ⟨⟨v, hv⟩, hw⟩ := H.now
  refine ⟨⟨⟨v, hv.turned t (fun i hi e => ?_)⟩, hw.own (O := fun i => i = bh) (fun i e => by rw [e]; exact h.rh.2) t⟩, h.di.begin hj h1 hs, fun i hi => ⟨key (H.fr i hi).1 (by decide), (H.fr i hi).2⟩, h.fa, fun i hi x hx => ?_, fun a c ha hc a1 a2 e => ?_, key H.ro (by decide), key H.rn (by decide), key H.rf (by decide), ?_, h.rh.2⟩
  · rw [e] at hi
    exact foot_ty hv H.rh.1 (by decide) (by decide) hi
  · by_cases hij : i = j
    · subst hij
      rw [upd_self] at hx
      cases hx
      rw [upd_self]
      exact ⟨key hf (by decide), Nat.le_trans h.now.2.size hk⟩
    · rw [qn i hij] at hx
      rw [upd_ne _ _ hij]
      exact ⟨key (H.hp i hi x hx).1 (by decide), (H.hp i hi x hx).2⟩
  · by_cases haj : a = j
    · by_cases hcj : c = j
      · rw [haj, hcj]
      · rw [haj, upd_self, upd_ne _ _ hcj] at e
        rw [qn c hcj] at a2
        have := lt c hc a2
        omega
    · rw [qn a haj] at a1
      rw [upd_ne _ _ haj] at e
      by_cases hcj : c = j
      · rw [hcj, upd_self] at e
        have := lt a ha a1
        omega
      · rw [qn c hcj] at a2
        rw [upd_ne _ _ hcj] at e
        exact h.ha a c ha hc a1 a2 e
  · rw [rowV_ext (h' := upd (fun i => hpV (q i) (g i)) j (ptr k)) (fun i _ => by
      by_cases hij : i = j
      · subst hij; simp only [upd_self, hpV]
      · simp only [upd_ne _ _ hij])]
    exact rowV_set H.rh.1 hj (ptr k)
end MS
end Go.Proofs.Ytoaicedkepcalaa
