/-
  What 'same' of the statements of chapter 4 answers where the map has just the slice's pairs: true; nothing that lay is turned.
-/
import Derived.Test.YtfckphcbleodbaaPairs
import Derived.Test.YtfckphcbleodbaaFall
namespace Go.Proofs.Ytfckphcbleodbaa
open Go.RowKit Go.Shelf
attribute [local go_sem] Oper.semAt_some

theorem backward_k (b : Nat) (w : World) : Calls Try.prog 44 #[.pointer (some ⟨b, 0, none⟩)] w fun e w' => e = .returned (.func (.func 53) #[] #[.pointer (some ⟨w.heap.size, 0, none⟩)]) ∧ Kept w w' ∧ Boxed w' w.heap.size 23 (.pointer (some ⟨b, 0, none⟩)) ∧ w'.heap.size = w.heap.size + 1 := by
  refine (backward_i b w).mono ?_
  rintro e w' ⟨rfl, rfl⟩
  exact ⟨rfl, Turned.alloc _ _ _, Boxed.new _ _ _, by simp⟩

theorem len_still (w : World) (b : Nat) (xs : List (Int × Int)) (h : Mp_i w b xs) :
    Calls Try.prog 17 #[.pointer (some ⟨b, 0, none⟩)] w fun e w' => e = .returned (.int .i64 (xs.length : Int)) ∧ w' = w := (len_i w b xs h).mono fun _ _ h => ⟨h.1, h.2.symm⟩

/-- A loop that counts in a box at b. -/
def Cnt (b : Nat) (f : Nat → Int) : Inv (Int × Int) := fun O pre A => (∀ j, O j ↔ j = b) ∧ Boxed A b 3 (.int .i64 (f pre.length))
theorem Cnt.good (b : Nat) (f : Nat → Int) : Good (Cnt b f) := by
  constructor
  · rintro O pre A B ⟨hO, hb⟩ ht
    exact ⟨hO, Boxed.own hb ((hO b).2 rfl) ht⟩
  · rintro O pre A ⟨hO, hb⟩ k hk
    obtain rfl := (hO k).1 hk
    exact hb.lt
theorem Cnt.next {b : Nat} {f : Nat → Int} {O : Nat → Prop} {pre : List (Int × Int)} {x : Int × Int} {A : World} {v : Value} {n : Int} (hO : ∀ j, O j ↔ j = b) (hb : Boxed A b 3 v) (e : f (pre.length + 1) = n) :
    ∃ O', Sub O' O A.heap.size ∧ Turned O A (A.setCell ⟨b, 0, none⟩ (.int .i64 n)) ∧ Cnt b f O' (pre ++ [x]) (A.setCell ⟨b, 0, none⟩ (.int .i64 n)) :=
  ⟨O, Sub.refl _ _, Turned.setCell _ _ _ ((hO b).2 rfl), hO, by rw [List.length_append, List.length_singleton, e]; exact hb.set _⟩

set_option maxRecDepth 100000 in
set_option maxHeartbeats 4000000 in
theorem same_c (w : World) (b : Nat) (xs : List (Int × Int)) (hM : Mp_i w b xs) (a : Option Addr) (cap : Nat) (hr : PReads w a xs) (hc : xs.length ≤ cap) (hl : xs.length ≤ 5000) :
    Calls Try.prog 25 #[.pointer (some ⟨b, 0, none⟩), .slice a xs.length cap] w fun e w' => e = .returned (.bool true) ∧ Kept w w' := by
  have HR := Lib.hid hr
  have M := Lib.hid hM
  have hbl := hM.lt
  have nbl : Hid (∀ bl, a = some ⟨bl, 0, none⟩ → xs ≠ [] → bl < w.heap.size) := Lib.hid fun bl e hne => by
    obtain ⟨p, hp⟩ : ∃ p, xs[0]? = some p := by
      cases xs with
      | nil => exact (hne rfl).elim
      | cons p xs => exact ⟨p, rfl⟩
    obtain ⟨bl', e', h, _⟩ := hr.at hp
    rw [e] at e'
    cases e'
    exact h
  clear hr hM
  refine calls_marks Try.func25 rfl ?_
  simp only [Try.ntmps25, List.size_toArray, List.length_cons, List.length_nil, Nat.reduceAdd, Nat.reduceSub, Array.replicate_succ, Array.replicate_zero, List.push_toArray, List.append_toArray, List.nil_append, List.cons_append]
  go_wp2_with (fail)
  refine (all_k _ _).mono ?_
  rintro e W ⟨rfl, hk, bA, zA⟩
  simp at zA
  have a1 : Kept w (w.alloc (.cells #[.slice a xs.length cap] 39)) := Turned.alloc _ _ _
  have a2 : Kept (w.alloc (.cells #[.slice a xs.length cap] 39)) ((w.alloc (.cells #[.slice a xs.length cap] 39)).alloc (.cells #[.bool false] 4)) := Turned.alloc _ _ _
  have a3 : Kept ((w.alloc (.cells #[.slice a xs.length cap] 39)).alloc (.cells #[.bool false] 4)) (((w.alloc (.cells #[.slice a xs.length cap] 39)).alloc (.cells #[.bool false] 4)).alloc (.cells #[.int .i64 0] 3)) := Turned.alloc _ _ _
  have kW : Hid (Kept w W) := Lib.hid (((a1.trans a2).trans a3).trans hk)
  have B3 : Hid (Boxed W w.heap.size 39 (.slice a xs.length cap)) := Lib.hid (((a2.trans a3).trans hk).boxed (Boxed.new w 39 _) id)
  have B4 : Hid (Boxed W (w.heap.size + 1) 4 (.bool false)) := Lib.hid (by
    have := (a3.trans hk).boxed (Boxed.new (w.alloc (.cells #[.slice a xs.length cap] 39)) 4 (.bool false)) id
    simpa using this)
  have B5 : Hid (Boxed W (w.heap.size + 1 + 1) 3 (.int .i64 0)) := Lib.hid (by
    have := hk.boxed (Boxed.new ((w.alloc (.cells #[.slice a xs.length cap] 39)).alloc (.cells #[.bool false] 4)) 3 (.int .i64 0)) id
    simpa using this)
  have BA : Hid (Boxed W (w.heap.size + 1 + 1 + 1) 23 (.pointer (some ⟨b, 0, none⟩))) := Lib.hid (by simpa using bA)
  have MW := Lib.hid (M.out.kept kW.out)
  have zW : w.heap.size + 3 < W.heap.size := by omega
  clear a1 a2 a3 hk bA zA M
  go_wp2_with (fail)
  refine wp_range2 (gf := 37) rfl (enters_of Try.func37 (by kernel_rfl) rfl) (encs := enc_i) (xs := xs) (R := Reads_i W (w.heap.size + 1 + 1 + 1) b)
    (fun X hX => all1_i W X hX _ _ xs BA.out MW.out) (fun _ => rfl) (fun j => j = w.heap.size + 1 + 1) (Cnt (w.heap.size + 1 + 1) (fun n => (n : Int))) (fun _ _ _ _ => False) (fun j hj => ⟨MW.out.reads (by omega) hj, ?notOwn⟩)
    (Cnt.good _ _) (fun _ => good_false) ⟨fun _ => Iff.rfl, B5.out⟩ ?ab ?done (fun _ _ _ _ _ _ _ _ _ _ _ h => h.elim)
  case notOwn =>
    rintro rfl
    rcases hj with hj | hj | ⟨cs, hj⟩
    · omega
    · omega
    · rw [show W.heap[_]? = _ from B5.out] at hj
      cases hj
  case ab =>
    apply Exists.intro
    refine ⟨?_, ?_⟩
    · intro l' x X K hK
      gi_wp2
      exact hK
    · rintro l' O pre ⟨x, xv⟩ rest A hx tA sA ⟨hO, b5⟩
      have hpl : pre.length < xs.length := by
        have := congrArg List.length hx
        simp at this
        omega
      have hxx : xs[pre.length]? = some (x, xv) := by rw [hx]; simp
      obtain ⟨bl, rfl, hbl', h1, h2⟩ := HR.out.at hxx
      have kA := kW.out.then tA
      have g1 := kA.cell h1 (by show ¬ bl = _; omega)
      have g2 := kA.cell h2 (by show ¬ bl = _; omega)
      have c3 := (tA.boxed B3.out (by omega)).cell
      have c5 := b5.cell
      have f5 := b5.frozen
      have HO := Lib.hid hO
      have HB5 := Lib.hid b5
      have i1 : (pre.length : Int) < (xs.length : Int) := by omega
      have i2 : (pre.length : Int) ≤ 5000 := by omega
      have i3 : pre.length < cap := by omega
      clear hx tA sA kA hO b5 hxx h1 h2
      gi_wp2
      exact Cnt.next HO.out HB5.out (by simp)
  case done =>
    rintro D O X hD nD tX sX ⟨hO, b5⟩ hK
    have kX := Lib.hid (kW.out.own (fun i hi => by omega) tX)
    have MX := Lib.hid (MW.out.turned tX (by omega) (fun j hj => by
      rintro rfl
      obtain ⟨cs, hj⟩ := hj
      rw [show W.heap[_]? = _ from B5.out] at hj
      cases hj))
    have B3X := Lib.hid (tX.boxed B3.out (by omega))
    have B4X := Lib.hid (tX.boxed B4.out (by omega))
    have B5X := Lib.hid b5
    have DX := Lib.hid hK
    have zX := tX.size
    clear kW MW B3 B4 B5 BA tX sX hO b5 hK nD
    go_wp2_with (fail)
    refine (backward_k _ _).mono ?_
    rintro e Y ⟨rfl, hk, bA, zA⟩
    have kY := Lib.hid (kX.out.trans hk)
    have MY := Lib.hid (MX.out.kept hk)
    have B3 := Lib.hid (hk.boxed B3X.out id)
    have B4 := Lib.hid (hk.boxed B4X.out id)
    have B5 := Lib.hid (hk.boxed B5X.out id)
    have DY := Lib.hid (hk.heap DX.out id)
    have BA := Lib.hid bA
    have zY : X.heap.size < Y.heap.size := by omega
    have dl : D < X.heap.size := (Array.getElem?_eq_some_iff.1 DX.out).1
    clear hk bA zA kX MX B3X B4X B5X DX
    go_wp2_with (fail)
    refine wp_range2 (gf := 53) rfl (enters_of Try.func53 (by kernel_rfl) rfl) (encs := enc_i) (xs := xs.reverse) (R := Reads_i Y X.heap.size b)
      (fun Z hZ => backward1_i Y Z hZ _ _ xs BA.out MY.out) (fun _ => rfl) (fun j => j = w.heap.size + 1 + 1) (Cnt (w.heap.size + 1 + 1) (fun n => (xs.length : Int) - (n : Int))) (fun _ _ _ _ => False) (fun j hj => ⟨MY.out.reads zY hj, ?notOwn2⟩)
      (Cnt.good _ _) (fun _ => good_false) ⟨fun _ => Iff.rfl, by have := B5.out; simpa using this⟩ ?ab2 ?done2 (fun _ _ _ _ _ _ _ _ _ _ _ h => h.elim)
    case notOwn2 =>
      rintro rfl
      rcases hj with hj | hj | ⟨cs, hj⟩
      · omega
      · omega
      · rw [show Y.heap[_]? = _ from B5.out] at hj
        cases hj
    case ab2 =>
      apply Exists.intro
      refine ⟨?_, ?_⟩
      · intro l' x X K hK
        gi_wp2
        exact hK
      · rintro l' O pre ⟨x, xv⟩ rest A hx tA sA ⟨hO, b5⟩
        have hx' : xs = rest.reverse ++ (x, xv) :: pre.reverse := by
          have := congrArg List.reverse hx
          simpa using this
        have hpl : pre.length + 1 + rest.length = xs.length := by
          have := congrArg List.length hx
          simp at this
          omega
        have hxx : xs[rest.length]? = some (x, xv) := by rw [hx']; simp
        obtain ⟨bl, rfl, hbl', h1, h2⟩ := HR.out.at hxx
        have kA := kY.out.then tA
        have g1 := kA.cell h1 (by show ¬ bl = _; omega)
        have g2 := kA.cell h2 (by show ¬ bl = _; omega)
        have c3 := (tA.boxed B3.out (by omega)).cell
        obtain ⟨q, hq⟩ : ∃ q, rest.length = q := ⟨_, rfl⟩
        rw [hq] at g1 g2 hpl
        have e0 : (xs.length : Int) - (pre.length : Int) = (q : Int) + 1 := by omega
        replace b5 : Boxed A (w.heap.size + 1 + 1) 3 (.int .i64 ((xs.length : Int) - (pre.length : Int))) := b5
        rw [e0] at b5
        have HE0 : Hid ((xs.length : Int) - ((pre.length + 1 : Nat) : Int) = (q : Int)) := Lib.hid (by omega)
        have c5 := b5.cell
        have f5 := b5.frozen
        have HO := Lib.hid hO
        have HB5 := Lib.hid b5
        have i1 : (q : Int) < (xs.length : Int) := by omega
        have i2 : (q : Int) ≤ 5000 := by omega
        have i3 : q < cap := by omega
        have i4 : q < xs.length := by omega
        have c3' := World.cell?_setCell_other A ⟨w.heap.size + 1 + 1, 0, none⟩ ⟨w.heap.size, 0, none⟩ (.int .i64 (q : Int)) (by simp)
        clear hx hx' tA sA kA hO b5 hxx h1 h2 e0 hpl hq
        gi_wp2
        exact Cnt.next HO.out HB5.out HE0.out
    case done2 =>
      rintro E O2 Z hE nE tZ sZ ⟨hO, b5⟩ hK
      have kZ := Lib.hid (kY.out.own (fun i hi => by omega) tZ)
      have MZ := Lib.hid (MY.out.turned tZ (by omega) (fun j hj => by
        rintro rfl
        obtain ⟨cs, hj⟩ := hj
        rw [show Y.heap[_]? = _ from B5.out] at hj
        cases hj))
      have c3 := (tZ.boxed B3.out (by omega)).cell
      have b4 := tZ.boxed B4.out (by omega)
      have c4 := b4.cell
      have f4 := b4.frozen
      have b5' : Boxed Z (w.heap.size + 1 + 1) 3 (.int .i64 0) := by
        have : Boxed Z (w.heap.size + 1 + 1) 3 (.int .i64 ((xs.length : Int) - (xs.reverse.length : Int))) := b5
        rw [List.length_reverse, Int.sub_self] at this
        exact this
      have c5 := b5'.cell
      have DZ := Lib.hid (tZ.heap DY.out (by omega))
      have EZ := Lib.hid hK
      have zZ := tZ.size
      clear kY MY B3 B4 B5 BA tZ sZ hO b5 hK nE DY b4 b5'
      go_wp2_with (fail)
      refine region_tail 9 (by kernel_rfl) (by kernel_rfl) ?_
      simp only [List.take_succ_cons, List.take_zero, List.drop_succ_cons, List.drop_zero]
      repeat (go_big_quiet_step (fail))
      go_big_quiet_want
      go_big_quiet_op
      refine ⟨_, len_still _ _ _ (MZ.out.kept (Kept.drew Z)), ?_⟩
      go_big_quiet_on
      repeat (go_big_quiet_step (fail))
      refine wpQuiet_nil ?_
      go_wp2
      have hs : ∀ j, j ≠ w.heap.size + 1 → ((Z.setCell ⟨w.heap.size + 1, 0, none⟩ (.bool true)).drew).heap[j]? = Z.heap[j]? := fun j hj => Below.heap_setCell Z ⟨w.heap.size + 1, 0, none⟩ (.bool true) j hj
      refine leave_marks [E, D] _ ?_ ?_ ?_
      · intro j hj
        simp at hj
        rcases hj with rfl | rfl
        · exact (hs _ (by omega)).trans EZ.out
        · exact (hs _ (by omega)).trans DZ.out
      · simp
        omega
      · intro X' hX'
        have hc5 : X'.cell? ⟨w.heap.size + 1, 0, none⟩ = some (.bool true) := hX'.cell (p := ⟨w.heap.size + 1, 0, none⟩) (World.cell?_setCell_same' Z _ _ (by rw [c4]; rfl)) (by simp; omega)
        refine ⟨.bool true, ?_, rfl, ((kZ.out.did (by omega) (Turned.setCell Z ⟨w.heap.size + 1, 0, none⟩ (.bool true) (R := fun i => i = w.heap.size + 1) rfl)).trans (Kept.drew _)).own (fun i hi => by simp at hi; omega) hX'⟩
        simp [results, Try.f25, go_sem, hc5]
end Go.Proofs.Ytfckphcbleodbaa
