/-
  package omap, keys Int, values Int: a map as it lies ('Mp_i'); what Len, Get and Put answer, and what they turn.
-/
import Derived.Test.YtfckphcbleodbaaWith
import Derived.Test.YtfckphcbleodbaaMapAt
namespace Go.Proofs.Ytfckphcbleodbaa
open Go.RowKit Go.Shelf

/-- A map lies at b, and has just these pairs, rising. -/
def Mp_i (w : World) (b : Nat) (xs : List (Int × Int)) : Prop :=
  ∃ t p, MapAt 26 w b p (xs.length : Int) ∧ Lies 71 (Value.int .i64) (Value.int .i64) w t p ∧ t.list = xs ∧ Asc ltI xs

theorem Mp_i.lt {w : World} {b : Nat} {xs : List (Int × Int)} (h : Mp_i w b xs) : b < w.heap.size := by
  obtain ⟨t, p, hb, _⟩ := h
  exact hb.lt
theorem Mp_i.asc {w : World} {b : Nat} {xs : List (Int × Int)} (h : Mp_i w b xs) : Asc ltI xs := by
  obtain ⟨t, p, _, _, _, ha⟩ := h
  exact ha
theorem Mp_i.turned {w w' : World} {b : Nat} {xs : List (Int × Int)} (h : Mp_i w b xs) {R : Nat → Prop} (ht : Turned R w w') (hb : ¬ R b) (hR : ∀ k, IsNode 71 w k → ¬ R k) : Mp_i w' b xs := by
  obtain ⟨t, p, hm, hl, e, ha⟩ := h
  exact ⟨t, p, hm.turned ht hb, hl.turned ht hR, e, ha⟩
theorem Mp_i.kept {w w' : World} {b : Nat} {xs : List (Int × Int)} (h : Mp_i w b xs) (ht : Kept w w') : Mp_i w' b xs := h.turned ht id (fun _ _ e => e)
theorem Mp_i.new (w : World) : Mp_i (w.alloc (.cells #[.pointer none, .int .i64 0] 26)) w.heap.size [] :=
  ⟨.nil, .pointer none, World.alloc_heap_new w _, rfl, rfl, List.Pairwise.nil⟩

/-- (*Map).Len -/
theorem len_i (w : World) (b : Nat) (xs : List (Int × Int)) (h : Mp_i w b xs) :
    Calls Try.prog 17 #[.pointer (some ⟨b, 0, none⟩)] w fun e w' => e = .returned (.int .i64 (xs.length : Int)) ∧ w = w' := by
  obtain ⟨t, p, hb, _⟩ := h
  have c1 := hb.cells.2
  clear hb
  go_enter Try.func17, Try.ntmps17
  go_wp2
  go_ret
  exact ⟨rfl, rfl⟩

/-- (*Map).Get -/
theorem get_i (w : World) (b : Nat) (xs : List (Int × Int)) (h : Mp_i w b xs) (k : Int) :
    Calls Try.prog 11 #[.pointer (some ⟨b, 0, none⟩), (.int .i64 k)] w fun e w' => e = .returned (.tuple #[(.int .i64 ((get ltI xs k).getD 0)), .bool (get ltI xs k).isSome]) ∧ w = w' := by
  obtain ⟨t, p, hb, hl, ht, ha⟩ := h
  have c0 := hb.cells.1
  obtain ⟨g, hg⟩ : ∃ g, get ltI xs k = g := ⟨_, rfl⟩
  rw [hg]
  have HL := Lib.hid hl
  have HG : Hid (get ltI t.list k = g) := Lib.hid (by rw [ht]; exact hg)
  have HA : Hid (Asc ltI t.list) := Lib.hid (by rw [ht]; exact ha)
  clear hb hl ht ha hg
  go_enter Try.func11, Try.ntmps11
  go_wp2
  go_loopw [6] (fun n wr => ∃ t', Hid (Lies 71 (Value.int .i64) (Value.int .i64) w t' n) ∧ Hid (get ltI t'.list k = g) ∧ Hid (Asc ltI t'.list) ∧ w = wr) (fun n wr => tallOf wr n)
  case atStart => exact ⟨t, HL, HG, HA, rfl⟩
  case round =>
    obtain ⟨t', hl', hg', ha', rfl⟩ := hrel
    cases t' with
    | nil =>
      obtain rfl : _ = Value.pointer none := hl'.out
      go_wp2
      go_ret2
      have := hg'.out
      simp only [Tr.list, get] at this
      subst this
      exact ⟨rfl, rfl⟩
    | node l nk nv r =>
      obtain ⟨nb, q1, q2, rfl, hn, h1, h2⟩ := hl'.out
      obtain ⟨d0, d1, d2, d3, _⟩ := hn.cells
      have M0 := Lib.hid (tallOf_lies hl'.out)
      have M1 := Lib.hid (tallOf_lies h1)
      have M2 := Lib.hid (tallOf_lies h2)
      have HCUT := Lib.hid (asc_cut (show Asc ltI (l.list ++ (nk, nv) :: r.list) from ha'.out))
      have HG' : Hid (get ltI (l.list ++ (nk, nv) :: r.list) k = g) := hg'
      have H1 := Lib.hid h1
      have H2 := Lib.hid h2
      clear hn h1 h2 hl' hg' ha'
      cases hlt : ltI k nk with
      | true =>
        have HLT := Lib.hid hlt
        clear hlt
        go_wp2_with (fail)
        refine (cmp_i w k nk (-1) (by rw [HLT.out]; rfl)).mono ?_
        rintro e w' ⟨rfl, rfl⟩
        go_wp2
        exact ⟨⟨l, H1, Lib.hid (by rw [← HG'.out]; exact (get_low HLT.out).symm), Lib.hid HCUT.out.1, trivial⟩, by rw [M0.out, M1.out]; simp only [Tr.ht]; omega⟩
      | false =>
        cases hgt : ltI nk k with
        | true =>
          have HLT := Lib.hid hlt
          have HGT := Lib.hid hgt
          clear hlt hgt
          go_wp2_with (fail)
          refine (cmp_i w k nk 1 (by rw [HLT.out, HGT.out]; rfl)).mono ?_
          rintro e w' ⟨rfl, rfl⟩
          go_wp2
          exact ⟨⟨r, H2, Lib.hid (by rw [← HG'.out]; exact (get_high linI HGT.out HCUT.out.2.2.1).symm), Lib.hid HCUT.out.2.1, trivial⟩, by rw [M0.out, M2.out]; simp only [Tr.ht]; omega⟩
        | false =>
          have HLT := Lib.hid hlt
          have HGT := Lib.hid hgt
          clear hlt hgt
          go_wp2_with (fail)
          refine (cmp_i w k nk 0 (by rw [HLT.out, HGT.out]; rfl)).mono ?_
          rintro e w' ⟨rfl, rfl⟩
          go_wp2
          go_ret2
          obtain rfl : k = nk := linI.tri HLT.out HGT.out
          have := HG'.out
          rw [get_eq linI rfl HCUT.out.2.2.1] at this
          subst this
          exact ⟨rfl, rfl⟩

/-- What a Put or a Del leaves: the map as it is then; of what lay, its own block alone has turned. -/
def Did_i (b : Nat) (ys : List (Int × Int)) (w w' : World) : Prop := Mp_i w' b ys ∧ Turned (fun i => i = b) w w'

/-- The stores of a Put or a Del. -/
theorem did_i {w w1 : World} {b : Nat} {p p' : Value} {n m : Int} (hb : MapAt 26 w b p n) (k : Kept w w1) {t : Tr Int Int} (hl : Lies 71 (Value.int .i64) (Value.int .i64) w1 t p') (ha : Asc ltI t.list) (hm : m = (t.list.length : Int)) :
    Did_i b t.list w ((w1.setCell ⟨b, 0, none⟩ p').setCell ⟨b, 1, none⟩ (.int .i64 m)) := by
  have h1 := (hb.kept k).set0 p'
  have h2 := h1.set1 m
  have t1 : Turned (fun i => i = b) w1 ((w1.setCell ⟨b, 0, none⟩ p').setCell ⟨b, 1, none⟩ (.int .i64 m)) := (Turned.setCell w1 ⟨b, 0, none⟩ p' (R := fun i => i = b) rfl).trans (Turned.setCell _ ⟨b, 1, none⟩ _ (R := fun i => i = b) rfl) (fun _ h => h) (fun _ _ h => h)
  refine ⟨⟨t, p', by rw [hm] at h2; rw [hm]; exact h2, hl.turned t1 (fun i hi e => ?_), rfl, ha⟩, k.then t1⟩
  subst e
  exact (hb.kept k).notNode (by decide) hi
theorem did0_i {w w1 : World} {b : Nat} {p p' : Value} {n : Int} (hb : MapAt 26 w b p n) (k : Kept w w1) {t : Tr Int Int} (hl : Lies 71 (Value.int .i64) (Value.int .i64) w1 t p') (ha : Asc ltI t.list) (hm : n = (t.list.length : Int)) :
    Did_i b t.list w (w1.setCell ⟨b, 0, none⟩ p') := by
  have h1 := (hb.kept k).set0 p'
  have t1 : Turned (fun i => i = b) w1 (w1.setCell ⟨b, 0, none⟩ p') := Turned.setCell w1 ⟨b, 0, none⟩ p' (R := fun i => i = b) rfl
  refine ⟨⟨t, p', by rw [hm] at h1; exact h1, hl.turned t1 (fun i hi e => ?_), rfl, ha⟩, k.then t1⟩
  subst e
  exact (hb.kept k).notNode (by decide) hi

/-- (*Map).Put -/
theorem put_i (w : World) (b : Nat) (xs : List (Int × Int)) (h : Mp_i w b xs) (k : Int) (v : Int) (hl : xs.length ≤ 5000) :
    Calls Try.prog 14 #[.pointer (some ⟨b, 0, none⟩), (.int .i64 k), (.int .i64 v)] w fun e w' => e = .returned (.tuple #[(.int .i64 ((get ltI xs k).getD 0)), .bool (get ltI xs k).isSome]) ∧ Did_i b (put ltI xs k v) w w' := by
  have hget := get_i w b xs h k
  obtain ⟨t, p, hb, hlt, ht, ha⟩ := h
  have hwith := with_i t w p k v hlt (by rw [ht]; exact ha) (by rw [ht]; omega)
  rw [ht] at hwith
  have c0 := hb.cells.1
  have lp := length_put (lt := ltI) (xs := xs) (k := k) (v := v)
  have hle : (xs.length : Int) ≤ 5000 := by omega
  have hge : (0 : Int) ≤ (xs.length : Int) := by omega
  have HB := Lib.hid hb
  have HA := Lib.hid ha
  have HGET := Lib.hid hget
  have HWITH := Lib.hid hwith
  cases hg : get ltI xs k with
  | none =>
    rw [hg] at lp
    have LP := Lib.hid lp
    have HG := Lib.hid hg
    clear hget hwith hb hlt ht ha lp hl hg
    go_enter Try.func14, Try.ntmps14
    go_wp2_with (fail)
    refine HGET.out.mono ?_
    rintro e w' ⟨rfl, rfl⟩
    rw [HG.out]
    simp only [Option.getD_none, Option.isSome_none]
    go_wp2_with (fail)
    refine HWITH.out.mono ?_
    rintro e w1 ⟨p3, t3, rfl, l3, e3, k3⟩
    obtain ⟨f0, f1, f2, f3⟩ := (HB.out.kept k3).opened
    obtain ⟨a3, rfl⟩ := l3.pointer
    have L3 := Lib.hid l3
    have E3 := Lib.hid e3
    have K3 := Lib.hid k3
    clear l3 e3 k3
    go_wp2
    go_ret2
    refine ⟨rfl, ?_⟩
    rw [← E3.out]
    exact did_i HB.out K3.out L3.out (by rw [E3.out]; exact asc_put linI HA.out) (by have := LP.out; rw [E3.out, this]; omega)
  | some u =>
    rw [hg] at lp
    have LP := Lib.hid lp
    have HG := Lib.hid hg
    clear hget hwith hb hlt ht ha lp hl hg
    go_enter Try.func14, Try.ntmps14
    go_wp2_with (fail)
    refine HGET.out.mono ?_
    rintro e w' ⟨rfl, rfl⟩
    rw [HG.out]
    simp only [Option.getD_some, Option.isSome_some]
    go_wp2_with (fail)
    refine HWITH.out.mono ?_
    rintro e w1 ⟨p3, t3, rfl, l3, e3, k3⟩
    obtain ⟨f0, f1, f2, f3⟩ := (HB.out.kept k3).opened
    obtain ⟨a3, rfl⟩ := l3.pointer
    have L3 := Lib.hid l3
    have E3 := Lib.hid e3
    have K3 := Lib.hid k3
    clear l3 e3 k3
    go_wp2
    go_ret2
    refine ⟨rfl, ?_⟩
    rw [← E3.out]
    exact did0_i HB.out K3.out L3.out (by rw [E3.out]; exact asc_put linI HA.out) (by have := LP.out; rw [E3.out, this])
end Go.Proofs.Ytfckphcbleodbaa
