/-
  What 'MapKnown' of the statements of chapter 4 answers: true; nothing that lay is turned.
-/
import Derived.Test.YtfckphcbleodbaaKn
import Derived.Test.YtfckphcbleodbaaRise
import Derived.Test.YtfckphcbleodbaaWithin
namespace Go.Proofs.Ytfckphcbleodbaa
open Go.RowKit Go.Shelf
attribute [local go_sem] Oper.semAt_some

/-- The loop's body is never met: no blocks are its own. -/
theorem good_none {α : Type} : Good (fun (O : Nat → Prop) (_ : List α) (_ : World) => ∀ k, ¬ O k) := ⟨fun _ _ _ _ h _ => h, fun _ _ _ h k hk => (h k hk).elim⟩
theorem good_false {α : Type} : Good (fun (_ : Nat → Prop) (_ : List α) (_ : World) => False) := ⟨fun _ _ _ _ h _ => h, fun _ _ _ h => h.elim⟩

theorem Mp_i.reads {w : World} {b : Nat} {xs : List (Int × Int)} (h : Mp_i w b xs) {B : Nat} (hB : B < w.heap.size) {k : Nat} (hk : Reads_i w B b k) : k < w.heap.size := by
  rcases hk with rfl | rfl | ⟨cs, hc⟩
  · exact hB
  · exact h.lt
  · exact (Array.getElem?_eq_some_iff.1 hc).1

theorem all_k (b : Nat) (w : World) : Calls Try.prog 13 #[.pointer (some ⟨b, 0, none⟩)] w fun e w' => e = .returned (.func (.func 37) #[] #[.pointer (some ⟨w.heap.size, 0, none⟩)]) ∧ Kept w w' ∧ Boxed w' w.heap.size 23 (.pointer (some ⟨b, 0, none⟩)) ∧ w'.heap.size = w.heap.size + 1 := by
  refine (all_i b w).mono ?_
  rintro e w' ⟨rfl, rfl⟩
  exact ⟨rfl, Turned.alloc _ _ _, Boxed.new _ _ _, by simp⟩

theorem range_k (b : Nat) (lo hi : Int) (w : World) : Calls Try.prog 16 #[.pointer (some ⟨b, 0, none⟩), .int .i64 lo, .int .i64 hi] w fun e w' => e = .returned (.func (.func 40) #[] #[.pointer (some ⟨w.heap.size, 0, none⟩), .pointer (some ⟨w.heap.size + 1, 0, none⟩), .pointer (some ⟨w.heap.size + 2, 0, none⟩)]) ∧ Kept w w' ∧ Boxed w' w.heap.size 23 (.pointer (some ⟨b, 0, none⟩)) ∧ Boxed w' (w.heap.size + 1) 2 (.int .i64 lo) ∧ Boxed w' (w.heap.size + 2) 2 (.int .i64 hi) ∧ w'.heap.size = w.heap.size + 3 := by
  refine (range_i b lo hi w).mono ?_
  rintro e w' ⟨rfl, rfl⟩
  refine ⟨rfl, ((Turned.alloc _ _ _).trans (Turned.alloc _ _ _) (fun _ e => e) (fun _ _ e => e)).trans (Turned.alloc _ _ _) (fun _ e => e) (fun _ _ e => e), ((Boxed.new w 23 _).alloc _).alloc _, ?_, ?_, by simp⟩
  · have := (Boxed.new (w.alloc (.cells #[.pointer (some ⟨b, 0, none⟩)] 23)) 2 (.int .i64 lo)).alloc (.cells #[.int .i64 hi] 2)
    rwa [World.size_alloc] at this
  · have := Boxed.new ((w.alloc (.cells #[.pointer (some ⟨b, 0, none⟩)] 23)).alloc (.cells #[.int .i64 lo] 2)) 2 (.int .i64 hi)
    rwa [World.size_alloc, World.size_alloc] at this

set_option maxRecDepth 100000 in
set_option maxHeartbeats 2000000 in
theorem mapKnown_c (w : World) : Calls Try.prog 3 #[] w fun e w' => e = .returned (.bool true) ∧ Kept w w' := by
  refine calls_marks Try.func3 rfl ?_
  simp only [Try.ntmps3, List.size_toArray, List.length_nil, Nat.reduceSub, Array.replicate_succ, Array.replicate_zero, List.push_toArray, List.append_toArray, List.nil_append, List.cons_append]
  go_wp2_with (fail)
  refine (known_c _).mono ?_
  rintro e w1 ⟨rfl, hk⟩
  have k1 := Lib.hid hk
  clear hk
  have M0 := Lib.hid (Mp_i.new w1)
  go_wp2_with (fail)
  refine (show Calls Try.prog 11 _ _ (fun e w' => e = .returned (.tuple #[.int .i64 0, .bool false]) ∧ _ = w') from get_i _ _ _ M0.out 0).mono ?_
  rintro e w' ⟨rfl, rfl⟩
  go_wp2_with (fail)
  refine (show Calls Try.prog 12 _ _ (fun e w' => e = .returned (.tuple #[.int .i64 0, .int .i64 0, .bool false]) ∧ ∃ n, w' = _) from ceil_i _ _ _ M0.out 0).mono ?_
  rintro e w' ⟨rfl, n1, rfl⟩
  go_wp2_with (fail)
  refine (all_k _ _).mono ?_
  rintro e W ⟨rfl, kW, bW, zW⟩
  simp at zW
  have ka : Kept (w1.alloc (.cells #[.pointer none, .int .i64 0] 26)) W := ((Kept.drewN _ n1).trans (Turned.alloc _ _ _)).trans kW
  have MW := Lib.hid (M0.out.kept ka)
  have bN : Hid (Boxed W (w1.heap.size + 1) 3 (.int .i64 0)) := Lib.hid (by
    have := kW.boxed (Boxed.new ((w1.alloc (.cells #[.pointer none, .int .i64 0] 26)).drewN n1) 3 (.int .i64 0)) id
    simpa using this)
  have bA : Hid (Boxed W (w1.heap.size + 1 + 1) 23 (.pointer (some ⟨w1.heap.size, 0, none⟩))) := Lib.hid (by simpa using bW)
  have kw := Lib.hid (k1.out.trans ((show Kept w1 (w1.alloc (.cells #[.pointer none, .int .i64 0] 26)) from Turned.alloc _ _ _).trans ka))
  have zw := k1.out.size
  clear kW bW ka M0 k1
  go_wp2_with (fail)
  refine wp_range2 (gf := 37) rfl (enters_of Try.func37 (by kernel_rfl) rfl) (encs := enc_i) (xs := []) (R := Reads_i W (w1.heap.size + 1 + 1) w1.heap.size)
    (fun X hX => all1_i W X hX _ _ [] bA.out MW.out) (fun _ => rfl) (fun _ => False) _ (fun _ _ _ _ => False) (fun k hk => ⟨MW.out.reads (by omega) hk, id⟩) good_none (fun _ => good_false) (fun _ h => h) ?ab ?done (fun _ _ _ _ _ _ _ _ _ _ _ h => h.elim)
  case ab =>
    apply Exists.intro
    refine ⟨?_, ?_⟩
    · intro l' x X K hK
      gi_wp2
      exact hK
    · intro l' O pre p rest A hx
      simp at hx
  case done =>
    rintro D O X hD nD tX sX _ hK
    have M1 := Lib.hid (MW.out.kept tX)
    have bN1 := Lib.hid (tX.boxed bN.out id)
    have kw1 := Lib.hid (kw.out.trans tX)
    have hD1 := Lib.hid hK
    have zX := tX.size
    clear MW bN bA kw tX hK nD sX
    go_wp2_with (fail)
    refine (show Calls Try.prog 14 _ _ (fun e w' => e = .returned (.tuple #[.int .i64 0, .bool false]) ∧ Did_i w1.heap.size [(-9223372036854775808, 1)] _ w') from put_i _ _ _ M1.out (-9223372036854775808) 1 (by decide)).mono ?_
    rintro e X2 ⟨rfl, m, k⟩
    have M2 := Lib.hid m
    have kw2 := Lib.hid (kw1.out.did zw k)
    have bN2 := Lib.hid (k.boxed bN1.out (by omega))
    have hD2 := Lib.hid (k.heap hD1.out (by omega))
    have zX2 := k.size
    clear m k M1 kw1 bN1 hD1
    go_wp2_with (fail)
    refine (show Calls Try.prog 14 _ _ (fun e w' => e = .returned (.tuple #[.int .i64 0, .bool false]) ∧ Did_i w1.heap.size [(-9223372036854775808, 1), (9223372036854775807, 2)] _ w') from put_i _ _ _ M2.out 9223372036854775807 2 (by decide)).mono ?_
    rintro e X3 ⟨rfl, m, k⟩
    have M3 := Lib.hid m
    have kw3 := Lib.hid (kw2.out.did zw k)
    have bN3 := Lib.hid (k.boxed bN2.out (by omega))
    have hD3 := Lib.hid (k.heap hD2.out (by omega))
    have zX3 := k.size
    clear m k M2 kw2 bN2 hD2
    go_wp2_with (fail)
    refine (show Calls Try.prog 15 _ _ (fun e w' => e = .returned (.tuple #[.int .i64 (-9223372036854775808), .int .i64 1, .bool true]) ∧ ∃ n, w' = _) from floor_i _ _ _ M3.out 9223372036854775806).mono ?_
    rintro e w' ⟨rfl, n2, rfl⟩
    have M4 := Lib.hid (M3.out.kept (Kept.drewN _ n2))
    go_wp2_with (fail)
    refine (show Calls Try.prog 12 _ _ (fun e w' => e = .returned (.tuple #[.int .i64 9223372036854775807, .int .i64 2, .bool true]) ∧ ∃ n, w' = _) from ceil_i _ _ _ M4.out (-9223372036854775807)).mono ?_
    rintro e w' ⟨rfl, n3, rfl⟩
    go_wp2_with (fail)
    refine (range_k _ 5 4 _).mono ?_
    rintro e Y ⟨rfl, kY, bB, bC, bD, zY⟩
    simp at zY
    have kd : Kept X3 Y := (Kept.drewN _ (n2 + n3)).trans kY
    have M5 := Lib.hid (M3.out.kept kd)
    have kw5 := Lib.hid (kw3.out.trans kd)
    have bN5 := Lib.hid (kd.boxed bN3.out id)
    have hD5 := Lib.hid (kd.heap hD3.out id)
    have BB : Hid (Boxed Y X3.heap.size 23 (.pointer (some ⟨w1.heap.size, 0, none⟩))) := Lib.hid bB
    have BC : Hid (Boxed Y (X3.heap.size + 1) 2 (.int .i64 5)) := Lib.hid bC
    have BD : Hid (Boxed Y (X3.heap.size + 2) 2 (.int .i64 4)) := Lib.hid bD
    clear kY bB bC bD kd M3 M4 kw3 bN3 hD3
    go_wp2_with (fail)
    refine wp_range2 (gf := 40) rfl (enters_of Try.func40 (by kernel_rfl) rfl) (encs := enc_i) (xs := []) (R := fun k => k = X3.heap.size + 1 ∨ k = X3.heap.size + 2 ∨ Reads_i Y X3.heap.size w1.heap.size k)
      (fun Z hZ => range1_i Y Z hZ _ _ _ _ 5 4 _ BB.out BC.out BD.out M5.out) (fun _ => rfl) (fun _ => False) _ (fun _ _ _ _ => False) (fun k hk => ⟨?hR, id⟩) good_none (fun _ => good_false) (fun _ h => h) ?ab ?done (fun _ _ _ _ _ _ _ _ _ _ _ h => h.elim)
    case hR =>
      rcases hk with rfl | rfl | hk
      · omega
      · omega
      · exact M5.out.reads (by omega) hk
    case ab =>
      apply Exists.intro
      refine ⟨?_, ?_⟩
      · intro l' x X K hK
        gi_wp2
        exact hK
      · intro l' O pre p rest A hx
        simp at hx
    case done =>
      rintro E O2 Z hE nE tZ sZ _ hK
      have M6 := Lib.hid (M5.out.kept tZ)
      have kw6 := Lib.hid (kw5.out.trans tZ)
      have bN6 := Lib.hid (tZ.boxed bN5.out id)
      have hD6 := Lib.hid (tZ.heap hD5.out id)
      have hE6 := Lib.hid hK
      have zZ := tZ.size
      have dl : D < Y.heap.size := (Array.getElem?_eq_some_iff.1 hD5.out).1
      clear M5 kw5 bN5 hD5 BB BC BD tZ hK nE sZ
      go_wp2_with (fail)
      refine (known_c _).mono ?_
      rintro e Z2 ⟨rfl, hk⟩
      have M7 := Lib.hid (M6.out.kept hk)
      have kw7 := Lib.hid (kw6.out.trans hk)
      have hcN := (hk.boxed bN6.out id).cell
      have hD7 := Lib.hid (hk.heap hD6.out id)
      have hE7 := Lib.hid (hk.heap hE6.out id)
      clear hk M6 kw6 bN6 hD6 hE6
      go_wp2_with (fail)
      refine (show Calls Try.prog 17 _ _ (fun e w' => e = .returned (.int .i64 2) ∧ _ = w') from len_i _ _ _ M7.out).mono ?_
      rintro e w' ⟨rfl, rfl⟩
      go_wp2
      refine leave_marks [E, D] Z2 ?_ ?_ ?_
      · intro k hk
        simp at hk
        rcases hk with rfl | rfl
        · exact hE7.out
        · exact hD7.out
      · simp
        omega
      · intro X' hX'
        exact ⟨_, results_tmp rfl _ _ _, rfl, kw7.out.own (fun i hi => by simp at hi; omega) hX'⟩
end Go.Proofs.Ytfckphcbleodbaa
