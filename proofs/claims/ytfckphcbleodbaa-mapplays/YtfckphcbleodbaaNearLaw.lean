/-
  What 'MapNear' of the statements of chapter 4 answers, for any slice of numbers and any key: true; nothing that lay is turned.
-/
import Derived.Test.YtfckphcbleodbaaFill
import Derived.Test.YtfckphcbleodbaaKnown
import Derived.Test.YtfckphcbleodbaaPlainC
namespace Go.Proofs.Ytfckphcbleodbaa
open Go.RowKit Go.Shelf
attribute [local go_sem] Oper.semAt_some

/-- What Floor, Ceiling and Get tell of a key, together. -/
def NearCase (xs : List (Int × Int)) (k fa : Int) (fo : Bool) (ca : Int) (co th : Bool) : Prop :=
  (fo = true ∧ k = fa ∧ co = true ∧ k = ca ∧ th = true) ∨
  (th = false ∧ (∀ y ∈ xs, y.1 ≠ k) ∧ ((fo = false ∧ ∀ y ∈ xs, k < y.1) ∨ (fo = true ∧ fa < k ∧ ∀ y ∈ xs, y.1 ≤ k → y.1 ≤ fa)) ∧ ((co = false ∧ ∀ y ∈ xs, y.1 < k) ∨ (co = true ∧ k < ca ∧ ∀ y ∈ xs, k ≤ y.1 → ca ≤ y.1)))

theorem nearCase {xs : List (Int × Int)} (k : Int) (h : Asc ltI xs) : NearCase xs k ((floor ltI xs k).getD (0, 0)).1 (floor ltI xs k).isSome ((ceil ltI xs k).getD (0, 0)).1 (ceil ltI xs k).isSome (get ltI xs k).isSome := by
  rcases near_cases k h with ⟨v, u, t, h1, h2, h3⟩ | ⟨h1, h2, h3, h4⟩
  · left
    rw [h1, h2, h3]
    exact ⟨rfl, rfl, rfl, rfl, rfl⟩
  · right
    rw [h1]
    refine ⟨rfl, h2, ?_, ?_⟩
    · rcases h3 with ⟨e, h⟩ | ⟨a, u, e, h, h'⟩
      · rw [e]
        exact .inl ⟨rfl, h⟩
      · rw [e]
        exact .inr ⟨rfl, h, h'⟩
    · rcases h4 with ⟨e, h⟩ | ⟨a, u, e, h, h'⟩
      · rw [e]
        exact .inl ⟨rfl, h⟩
      · rw [e]
        exact .inr ⟨rfl, h, h'⟩

theorem floor_k (w : World) (b : Nat) (xs : List (Int × Int)) (h : Mp_i w b xs) (k : Int) :
    Calls Try.prog 15 #[.pointer (some ⟨b, 0, none⟩), .int .i64 k] w fun e w' => e = .returned (near (floor ltI xs k)) ∧ Kept w w' := by
  refine (floor_i w b xs h k).mono ?_
  rintro e w' ⟨rfl, n, rfl⟩
  exact ⟨rfl, Kept.drewN _ _⟩
theorem ceil_k (w : World) (b : Nat) (xs : List (Int × Int)) (h : Mp_i w b xs) (k : Int) :
    Calls Try.prog 12 #[.pointer (some ⟨b, 0, none⟩), .int .i64 k] w fun e w' => e = .returned (near (ceil ltI xs k)) ∧ Kept w w' := by
  refine (ceil_i w b xs h k).mono ?_
  rintro e w' ⟨rfl, n, rfl⟩
  exact ⟨rfl, Kept.drewN _ _⟩

set_option maxRecDepth 100000 in
set_option maxHeartbeats 4000000 in
theorem mapNear_c (w : World) (a : Option Addr) (zs : List Int) (cap : Nat) (hr : Reads w a zs) (hc : zs.length ≤ cap) (hm : cap ≤ maxLen) (k : Int) :
    Calls Try.prog 6 #[.slice a zs.length cap, .int .i64 k] w fun e w' => e = .returned (.bool true) ∧ Kept w w' := by
  have HR := Lib.hid hr
  clear hr
  refine calls_marks Try.func6 rfl ?_
  simp only [Try.ntmps6, List.size_toArray, List.length_cons, List.length_nil, Nat.reduceAdd, Nat.reduceSub, Array.replicate_succ, Array.replicate_zero, List.push_toArray, List.append_toArray, List.nil_append, List.cons_append]
  go_wp2_with (fail)
  refine (known_c _).mono ?_
  rintro e w1 ⟨rfl, hk⟩
  have ka : Kept w w1 := ((show Kept w _ from Turned.alloc _ _ _).trans (Turned.alloc _ _ _)).trans hk
  have bK : Hid (Boxed w1 w.heap.size 2 (.int .i64 k)) := Lib.hid (hk.boxed ((Boxed.new w 2 (.int .i64 k)).alloc _) id)
  have bR : Hid (Boxed w1 (w.heap.size + 1) 4 (.bool false)) := Lib.hid (by
    have := hk.boxed (Boxed.new (w.alloc (.cells #[.int .i64 k] 2)) 4 (.bool false)) id
    simpa using this)
  have K1 := Lib.hid ka
  have z1 : w.heap.size + 2 ≤ w1.heap.size := by have := hk.size; simpa using this
  clear hk ka
  go_wp2_with (fail)
  refine (fill_c _ _ _ _ (HR.out.kept K1.out) hc hm).mono ?_
  rintro e w2 ⟨rfl, hM, hk⟩
  obtain ⟨xs, hxs⟩ : ∃ xs, fillN zs (min zs.length 200) = xs := ⟨_, rfl⟩
  rw [hxs] at hM
  have M2 := Lib.hid hM
  have K2 := Lib.hid (K1.out.trans hk)
  have bK2 := hk.boxed bK.out id
  have bR2 := Lib.hid (hk.boxed bR.out id)
  have cK := bK2.cell
  have BK2 := Lib.hid bK2
  have z2 := hk.size
  have zM := hM.lt
  clear hk hM hxs K1 bK bR bK2
  obtain ⟨fa, fv, fo, hfl, ca, cv, co, hce, tv, th, hge, hnc⟩ : ∃ fa fv fo, near (floor ltI xs k) = .tuple #[.int .i64 fa, .int .i64 fv, .bool fo] ∧ ∃ ca cv co, near (ceil ltI xs k) = .tuple #[.int .i64 ca, .int .i64 cv, .bool co] ∧ ∃ tv th, (Value.tuple #[.int .i64 ((get ltI xs k).getD 0), .bool (get ltI xs k).isSome]) = .tuple #[.int .i64 tv, .bool th] ∧ NearCase xs k fa fo ca co th := ⟨_, _, _, rfl, _, _, _, rfl, _, _, rfl, nearCase k M2.out.asc⟩
  have HFL := Lib.hid hfl
  have HCE := Lib.hid hce
  have HGE := Lib.hid hge
  have HNC := Lib.hid hnc
  clear hfl hce hge hnc
  go_wp2_with (fail)
  refine (floor_k _ _ _ M2.out k).mono ?_
  rintro e w3 ⟨rfl, hk⟩
  rw [HFL.out]
  have z3 : w2.heap.size ≤ w3.heap.size := hk.size
  have K3 : Hid (Kept w2 ((w3.alloc (.cells #[.int .i64 fa] 2)).alloc (.cells #[.bool fo] 4))) := Lib.hid ((hk.trans (Turned.alloc _ _ _)).trans (Turned.alloc _ _ _))
  have B1 : Hid (Boxed ((w3.alloc (.cells #[.int .i64 fa] 2)).alloc (.cells #[.bool fo] 4)) w3.heap.size 2 (.int .i64 fa)) := Lib.hid ((Boxed.new _ _ _).alloc _)
  have B2 : Hid (Boxed ((w3.alloc (.cells #[.int .i64 fa] 2)).alloc (.cells #[.bool fo] 4)) (w3.heap.size + 1) 4 (.bool fo)) := Lib.hid (by
    have := Boxed.new (w3.alloc (.cells #[.int .i64 fa] 2)) 4 (.bool fo)
    simpa using this)
  have cK3 := (K3.out.boxed BK2.out id).cell
  clear hk cK
  go_wp2_with (fail)
  refine (ceil_k _ _ _ (M2.out.kept K3.out) k).mono ?_
  rintro e w4 ⟨rfl, hk⟩
  rw [HCE.out]
  have z4 : w3.heap.size + 2 ≤ w4.heap.size := by have := hk.size; simpa using this
  have K4 : Hid (Kept w2 ((w4.alloc (.cells #[.int .i64 ca] 2)).alloc (.cells #[.bool co] 4))) := Lib.hid (K3.out.trans ((hk.trans (Turned.alloc _ _ _)).trans (Turned.alloc _ _ _)))
  have B14 := Lib.hid ((((hk.boxed B1.out id).alloc (.cells #[.int .i64 ca] 2)).alloc (.cells #[.bool co] 4)))
  have B24 := Lib.hid ((((hk.boxed B2.out id).alloc (.cells #[.int .i64 ca] 2)).alloc (.cells #[.bool co] 4)))
  have B3 : Hid (Boxed ((w4.alloc (.cells #[.int .i64 ca] 2)).alloc (.cells #[.bool co] 4)) w4.heap.size 2 (.int .i64 ca)) := Lib.hid ((Boxed.new _ _ _).alloc _)
  have B4 : Hid (Boxed ((w4.alloc (.cells #[.int .i64 ca] 2)).alloc (.cells #[.bool co] 4)) (w4.heap.size + 1) 4 (.bool co)) := Lib.hid (by
    have := Boxed.new (w4.alloc (.cells #[.int .i64 ca] 2)) 4 (.bool co)
    simpa using this)
  have cK4 := (K4.out.boxed BK2.out id).cell
  clear hk cK3 B1 B2 K3
  go_wp2_with (fail)
  refine (get_i _ _ _ (M2.out.kept K4.out) k).mono ?_
  rintro e W5 ⟨rfl, h5⟩
  rw [HGE.out]
  rw [h5] at K4 B14 B24 B3 B4 cK4
  have z5 : w4.heap.size + 2 = W5.heap.size := by rw [← h5]; simp
  have z5l : w4.heap.size + 2 ≤ W5.heap.size := by omega
  clear h5 z5
  have M5 := Lib.hid (M2.out.kept K4.out)
  have KW5 := Lib.hid (K2.out.trans K4.out)
  have bR5 := Lib.hid (K4.out.boxed bR2.out id)
  have BK5 := Lib.hid (K4.out.boxed BK2.out id)
  have d1 := B14.out.cell
  have d2 := B24.out.cell
  have d3 := B3.out.cell
  have d4 := B4.out.cell
  clear K4 BK2 bR2 K2 M2 HFL HCE HGE
  have hnc := HNC.out
  clear HNC
  rcases hnc with ⟨rfl, rfl, rfl, rfl, rfl⟩ | ⟨rfl, hne, ⟨rfl, hf⟩ | ⟨rfl, hfl, hf⟩, ⟨rfl, hcc⟩ | ⟨rfl, hcl, hcc⟩⟩
  · go_wp2_with (fail)
    refine (all_k _ _).mono ?_
    rintro e W6 ⟨rfl, hk, bA, zA⟩
    have M6 := Lib.hid (M5.out.kept hk)
    have KW6 := Lib.hid (KW5.out.trans hk)
    have bR6 := Lib.hid (hk.boxed bR5.out id)
    have BK6 := Lib.hid (hk.boxed BK5.out id)
    have E1 := Lib.hid (hk.boxed B14.out id)
    have E2 := Lib.hid (hk.boxed B24.out id)
    have E3 := Lib.hid (hk.boxed B3.out id)
    have E4 := Lib.hid (hk.boxed B4.out id)
    have BA := Lib.hid bA
    have z6 : W5.heap.size < W6.heap.size := by omega
    clear hk bA zA M5 KW5 bR5 BK5 B14 B24 B3 B4 d1 d2 d3 d4 cK4
    go_wp2_with (fail)
    refine wp_range2 (gf := 37) rfl (enters_of Try.func37 (by kernel_rfl) rfl) (encs := enc_i) (xs := xs) (R := Reads_i W6 W5.heap.size w1.heap.size)
      (fun X hX => all1_i W6 X hX _ _ xs BA.out M6.out) (fun _ => rfl) (fun _ => False) _ (fun _ _ _ _ => False) (fun j hj => ⟨M6.out.reads z6 hj, id⟩) good_none (fun _ => good_false) (fun _ h => h) ?ab ?done (fun _ _ _ _ _ _ _ _ _ _ _ h => h.elim)
    case ab =>
      apply Exists.intro
      refine ⟨?_, ?_⟩
      · intro l' x X K hK
        gi_wp2
        exact hK
      · rintro l' O pre ⟨x, xv⟩ rest A hx tA sA hI
        have hxm : (x, xv) ∈ xs := by rw [hx]; simp
        have d0 := (tA.boxed BK6.out id).cell
        have d1 := (tA.boxed E1.out id).cell
        have d2 := (tA.boxed E2.out id).cell
        have d3 := (tA.boxed E3.out id).cell
        have d4 := (tA.boxed E4.out id).cell
        clear tA sA
        rcases Int.lt_trichotomy x k with hlt | heq | hgt
        · clear hx hxm
          gi_wp2
          exact ⟨O, Sub.refl _ _, Turned.refl _ _, hI⟩
        · subst heq
          clear hx hxm
          gi_wp2
          exact ⟨O, Sub.refl _ _, Turned.refl _ _, hI⟩
        · clear hx hxm
          gi_wp2
          exact ⟨O, Sub.refl _ _, Turned.refl _ _, hI⟩
    case done =>
      rintro D O X hD nD tX sX _ hK
      have kwX := Lib.hid (KW6.out.trans tX)
      have bRX := Lib.hid (tX.boxed bR6.out id)
      have hDX := Lib.hid hK
      clear M6 KW6 bR6 BK6 E1 E2 E3 E4 BA tX hK nD sX
      go_wp2_with (fail)
      refine (known_c _).mono ?_
      rintro e X3 ⟨rfl, hk⟩
      have bR3 := hk.boxed bRX.out id
      have hcR := bR3.cell
      have hfR := bR3.frozen
      have kw3 := Lib.hid (kwX.out.trans hk)
      have hD3 := Lib.hid (hk.heap hDX.out id)
      clear hk bR3 kwX bRX hDX
      go_wp2
      refine leave_marks [D] (X3.setCell ⟨w.heap.size + 1, 0, none⟩ (.bool true)) ?_ (by simp) ?_
      · intro j hj
        simp at hj
        subst hj
        exact (Below.heap_setCell X3 ⟨w.heap.size + 1, 0, none⟩ (.bool true) j (by show j ≠ w.heap.size + 1; omega)).trans hD3.out
      · intro X' hX'
        have hc5 : X'.cell? ⟨w.heap.size + 1, 0, none⟩ = some (.bool true) := hX'.cell (p := ⟨w.heap.size + 1, 0, none⟩) (World.cell?_setCell_same' X3 _ _ (by rw [hcR]; rfl)) (by simp; omega)
        refine ⟨.bool true, ?_, rfl, (kw3.out.did (by omega) (Turned.setCell X3 ⟨w.heap.size + 1, 0, none⟩ (.bool true) (R := fun i => i = w.heap.size + 1) rfl)).own (fun i hi => by simp at hi; omega) hX'⟩
        simp [results, Try.f6, go_sem, hc5]
  · go_wp2_with (fail)
    refine (all_k _ _).mono ?_
    rintro e W6 ⟨rfl, hk, bA, zA⟩
    have M6 := Lib.hid (M5.out.kept hk)
    have KW6 := Lib.hid (KW5.out.trans hk)
    have bR6 := Lib.hid (hk.boxed bR5.out id)
    have BK6 := Lib.hid (hk.boxed BK5.out id)
    have E1 := Lib.hid (hk.boxed B14.out id)
    have E2 := Lib.hid (hk.boxed B24.out id)
    have E3 := Lib.hid (hk.boxed B3.out id)
    have E4 := Lib.hid (hk.boxed B4.out id)
    have BA := Lib.hid bA
    have z6 : W5.heap.size < W6.heap.size := by omega
    clear hk bA zA M5 KW5 bR5 BK5 B14 B24 B3 B4 d1 d2 d3 d4 cK4
    go_wp2_with (fail)
    refine wp_range2 (gf := 37) rfl (enters_of Try.func37 (by kernel_rfl) rfl) (encs := enc_i) (xs := xs) (R := Reads_i W6 W5.heap.size w1.heap.size)
      (fun X hX => all1_i W6 X hX _ _ xs BA.out M6.out) (fun _ => rfl) (fun _ => False) _ (fun _ _ _ _ => False) (fun j hj => ⟨M6.out.reads z6 hj, id⟩) good_none (fun _ => good_false) (fun _ h => h) ?ab ?done (fun _ _ _ _ _ _ _ _ _ _ _ h => h.elim)
    case ab =>
      apply Exists.intro
      refine ⟨?_, ?_⟩
      · intro l' x X K hK
        gi_wp2
        exact hK
      · rintro l' O pre ⟨x, xv⟩ rest A hx tA sA hI
        have hxm : (x, xv) ∈ xs := by rw [hx]; simp
        have d0 := (tA.boxed BK6.out id).cell
        have d1 := (tA.boxed E1.out id).cell
        have d2 := (tA.boxed E2.out id).cell
        have d3 := (tA.boxed E3.out id).cell
        have d4 := (tA.boxed E4.out id).cell
        clear tA sA
        rcases Int.lt_trichotomy x k with hlt | heq | hgt
        · exact absurd (hf _ hxm) (by simp only; omega)
        · exact absurd heq (hne _ hxm)
        · exact absurd (hcc _ hxm) (by simp only; omega)
    case done =>
      rintro D O X hD nD tX sX _ hK
      have kwX := Lib.hid (KW6.out.trans tX)
      have bRX := Lib.hid (tX.boxed bR6.out id)
      have hDX := Lib.hid hK
      clear M6 KW6 bR6 BK6 E1 E2 E3 E4 BA tX hK nD sX
      go_wp2_with (fail)
      refine (known_c _).mono ?_
      rintro e X3 ⟨rfl, hk⟩
      have bR3 := hk.boxed bRX.out id
      have hcR := bR3.cell
      have hfR := bR3.frozen
      have kw3 := Lib.hid (kwX.out.trans hk)
      have hD3 := Lib.hid (hk.heap hDX.out id)
      clear hk bR3 kwX bRX hDX
      go_wp2
      refine leave_marks [D] (X3.setCell ⟨w.heap.size + 1, 0, none⟩ (.bool true)) ?_ (by simp) ?_
      · intro j hj
        simp at hj
        subst hj
        exact (Below.heap_setCell X3 ⟨w.heap.size + 1, 0, none⟩ (.bool true) j (by show j ≠ w.heap.size + 1; omega)).trans hD3.out
      · intro X' hX'
        have hc5 : X'.cell? ⟨w.heap.size + 1, 0, none⟩ = some (.bool true) := hX'.cell (p := ⟨w.heap.size + 1, 0, none⟩) (World.cell?_setCell_same' X3 _ _ (by rw [hcR]; rfl)) (by simp; omega)
        refine ⟨.bool true, ?_, rfl, (kw3.out.did (by omega) (Turned.setCell X3 ⟨w.heap.size + 1, 0, none⟩ (.bool true) (R := fun i => i = w.heap.size + 1) rfl)).own (fun i hi => by simp at hi; omega) hX'⟩
        simp [results, Try.f6, go_sem, hc5]
  · have ec : (ca == k) = false := by simp only [beq_eq_false_iff_ne, ne_eq]; omega
    go_wp2_with (fail)
    refine (all_k _ _).mono ?_
    rintro e W6 ⟨rfl, hk, bA, zA⟩
    have M6 := Lib.hid (M5.out.kept hk)
    have KW6 := Lib.hid (KW5.out.trans hk)
    have bR6 := Lib.hid (hk.boxed bR5.out id)
    have BK6 := Lib.hid (hk.boxed BK5.out id)
    have E1 := Lib.hid (hk.boxed B14.out id)
    have E2 := Lib.hid (hk.boxed B24.out id)
    have E3 := Lib.hid (hk.boxed B3.out id)
    have E4 := Lib.hid (hk.boxed B4.out id)
    have BA := Lib.hid bA
    have z6 : W5.heap.size < W6.heap.size := by omega
    clear hk bA zA M5 KW5 bR5 BK5 B14 B24 B3 B4 d1 d2 d3 d4 cK4
    go_wp2_with (fail)
    refine wp_range2 (gf := 37) rfl (enters_of Try.func37 (by kernel_rfl) rfl) (encs := enc_i) (xs := xs) (R := Reads_i W6 W5.heap.size w1.heap.size)
      (fun X hX => all1_i W6 X hX _ _ xs BA.out M6.out) (fun _ => rfl) (fun _ => False) _ (fun _ _ _ _ => False) (fun j hj => ⟨M6.out.reads z6 hj, id⟩) good_none (fun _ => good_false) (fun _ h => h) ?ab ?done (fun _ _ _ _ _ _ _ _ _ _ _ h => h.elim)
    case ab =>
      apply Exists.intro
      refine ⟨?_, ?_⟩
      · intro l' x X K hK
        gi_wp2
        exact hK
      · rintro l' O pre ⟨x, xv⟩ rest A hx tA sA hI
        have hxm : (x, xv) ∈ xs := by rw [hx]; simp
        have d0 := (tA.boxed BK6.out id).cell
        have d1 := (tA.boxed E1.out id).cell
        have d2 := (tA.boxed E2.out id).cell
        have d3 := (tA.boxed E3.out id).cell
        have d4 := (tA.boxed E4.out id).cell
        clear tA sA
        rcases Int.lt_trichotomy x k with hlt | heq | hgt
        · exact absurd (hf _ hxm) (by simp only; omega)
        · exact absurd heq (hne _ hxm)
        · have hxb : ca ≤ x := hcc _ hxm (by simp only; omega)
          clear hx hxm
          gi_wp2
          exact ⟨O, Sub.refl _ _, Turned.refl _ _, hI⟩
    case done =>
      rintro D O X hD nD tX sX _ hK
      have kwX := Lib.hid (KW6.out.trans tX)
      have bRX := Lib.hid (tX.boxed bR6.out id)
      have hDX := Lib.hid hK
      clear M6 KW6 bR6 BK6 E1 E2 E3 E4 BA tX hK nD sX
      go_wp2_with (fail)
      refine (known_c _).mono ?_
      rintro e X3 ⟨rfl, hk⟩
      have bR3 := hk.boxed bRX.out id
      have hcR := bR3.cell
      have hfR := bR3.frozen
      have kw3 := Lib.hid (kwX.out.trans hk)
      have hD3 := Lib.hid (hk.heap hDX.out id)
      clear hk bR3 kwX bRX hDX
      go_wp2
      refine leave_marks [D] (X3.setCell ⟨w.heap.size + 1, 0, none⟩ (.bool true)) ?_ (by simp) ?_
      · intro j hj
        simp at hj
        subst hj
        exact (Below.heap_setCell X3 ⟨w.heap.size + 1, 0, none⟩ (.bool true) j (by show j ≠ w.heap.size + 1; omega)).trans hD3.out
      · intro X' hX'
        have hc5 : X'.cell? ⟨w.heap.size + 1, 0, none⟩ = some (.bool true) := hX'.cell (p := ⟨w.heap.size + 1, 0, none⟩) (World.cell?_setCell_same' X3 _ _ (by rw [hcR]; rfl)) (by simp; omega)
        refine ⟨.bool true, ?_, rfl, (kw3.out.did (by omega) (Turned.setCell X3 ⟨w.heap.size + 1, 0, none⟩ (.bool true) (R := fun i => i = w.heap.size + 1) rfl)).own (fun i hi => by simp at hi; omega) hX'⟩
        simp [results, Try.f6, go_sem, hc5]
  · have ef : (fa == k) = false := by simp only [beq_eq_false_iff_ne, ne_eq]; omega
    go_wp2_with (fail)
    refine (all_k _ _).mono ?_
    rintro e W6 ⟨rfl, hk, bA, zA⟩
    have M6 := Lib.hid (M5.out.kept hk)
    have KW6 := Lib.hid (KW5.out.trans hk)
    have bR6 := Lib.hid (hk.boxed bR5.out id)
    have BK6 := Lib.hid (hk.boxed BK5.out id)
    have E1 := Lib.hid (hk.boxed B14.out id)
    have E2 := Lib.hid (hk.boxed B24.out id)
    have E3 := Lib.hid (hk.boxed B3.out id)
    have E4 := Lib.hid (hk.boxed B4.out id)
    have BA := Lib.hid bA
    have z6 : W5.heap.size < W6.heap.size := by omega
    clear hk bA zA M5 KW5 bR5 BK5 B14 B24 B3 B4 d1 d2 d3 d4 cK4
    go_wp2_with (fail)
    refine wp_range2 (gf := 37) rfl (enters_of Try.func37 (by kernel_rfl) rfl) (encs := enc_i) (xs := xs) (R := Reads_i W6 W5.heap.size w1.heap.size)
      (fun X hX => all1_i W6 X hX _ _ xs BA.out M6.out) (fun _ => rfl) (fun _ => False) _ (fun _ _ _ _ => False) (fun j hj => ⟨M6.out.reads z6 hj, id⟩) good_none (fun _ => good_false) (fun _ h => h) ?ab ?done (fun _ _ _ _ _ _ _ _ _ _ _ h => h.elim)
    case ab =>
      apply Exists.intro
      refine ⟨?_, ?_⟩
      · intro l' x X K hK
        gi_wp2
        exact hK
      · rintro l' O pre ⟨x, xv⟩ rest A hx tA sA hI
        have hxm : (x, xv) ∈ xs := by rw [hx]; simp
        have d0 := (tA.boxed BK6.out id).cell
        have d1 := (tA.boxed E1.out id).cell
        have d2 := (tA.boxed E2.out id).cell
        have d3 := (tA.boxed E3.out id).cell
        have d4 := (tA.boxed E4.out id).cell
        clear tA sA
        rcases Int.lt_trichotomy x k with hlt | heq | hgt
        · have hxa : x ≤ fa := hf _ hxm (by simp only; omega)
          clear hx hxm
          gi_wp2
          exact ⟨O, Sub.refl _ _, Turned.refl _ _, hI⟩
        · exact absurd heq (hne _ hxm)
        · exact absurd (hcc _ hxm) (by simp only; omega)
    case done =>
      rintro D O X hD nD tX sX _ hK
      have kwX := Lib.hid (KW6.out.trans tX)
      have bRX := Lib.hid (tX.boxed bR6.out id)
      have hDX := Lib.hid hK
      clear M6 KW6 bR6 BK6 E1 E2 E3 E4 BA tX hK nD sX
      go_wp2_with (fail)
      refine (known_c _).mono ?_
      rintro e X3 ⟨rfl, hk⟩
      have bR3 := hk.boxed bRX.out id
      have hcR := bR3.cell
      have hfR := bR3.frozen
      have kw3 := Lib.hid (kwX.out.trans hk)
      have hD3 := Lib.hid (hk.heap hDX.out id)
      clear hk bR3 kwX bRX hDX
      go_wp2
      refine leave_marks [D] (X3.setCell ⟨w.heap.size + 1, 0, none⟩ (.bool true)) ?_ (by simp) ?_
      · intro j hj
        simp at hj
        subst hj
        exact (Below.heap_setCell X3 ⟨w.heap.size + 1, 0, none⟩ (.bool true) j (by show j ≠ w.heap.size + 1; omega)).trans hD3.out
      · intro X' hX'
        have hc5 : X'.cell? ⟨w.heap.size + 1, 0, none⟩ = some (.bool true) := hX'.cell (p := ⟨w.heap.size + 1, 0, none⟩) (World.cell?_setCell_same' X3 _ _ (by rw [hcR]; rfl)) (by simp; omega)
        refine ⟨.bool true, ?_, rfl, (kw3.out.did (by omega) (Turned.setCell X3 ⟨w.heap.size + 1, 0, none⟩ (.bool true) (R := fun i => i = w.heap.size + 1) rfl)).own (fun i hi => by simp at hi; omega) hX'⟩
        simp [results, Try.f6, go_sem, hc5]
  · have ef : (fa == k) = false := by simp only [beq_eq_false_iff_ne, ne_eq]; omega
    have ec : (ca == k) = false := by simp only [beq_eq_false_iff_ne, ne_eq]; omega
    go_wp2_with (fail)
    refine (all_k _ _).mono ?_
    rintro e W6 ⟨rfl, hk, bA, zA⟩
    have M6 := Lib.hid (M5.out.kept hk)
    have KW6 := Lib.hid (KW5.out.trans hk)
    have bR6 := Lib.hid (hk.boxed bR5.out id)
    have BK6 := Lib.hid (hk.boxed BK5.out id)
    have E1 := Lib.hid (hk.boxed B14.out id)
    have E2 := Lib.hid (hk.boxed B24.out id)
    have E3 := Lib.hid (hk.boxed B3.out id)
    have E4 := Lib.hid (hk.boxed B4.out id)
    have BA := Lib.hid bA
    have z6 : W5.heap.size < W6.heap.size := by omega
    clear hk bA zA M5 KW5 bR5 BK5 B14 B24 B3 B4 d1 d2 d3 d4 cK4
    go_wp2_with (fail)
    refine wp_range2 (gf := 37) rfl (enters_of Try.func37 (by kernel_rfl) rfl) (encs := enc_i) (xs := xs) (R := Reads_i W6 W5.heap.size w1.heap.size)
      (fun X hX => all1_i W6 X hX _ _ xs BA.out M6.out) (fun _ => rfl) (fun _ => False) _ (fun _ _ _ _ => False) (fun j hj => ⟨M6.out.reads z6 hj, id⟩) good_none (fun _ => good_false) (fun _ h => h) ?ab ?done (fun _ _ _ _ _ _ _ _ _ _ _ h => h.elim)
    case ab =>
      apply Exists.intro
      refine ⟨?_, ?_⟩
      · intro l' x X K hK
        gi_wp2
        exact hK
      · rintro l' O pre ⟨x, xv⟩ rest A hx tA sA hI
        have hxm : (x, xv) ∈ xs := by rw [hx]; simp
        have d0 := (tA.boxed BK6.out id).cell
        have d1 := (tA.boxed E1.out id).cell
        have d2 := (tA.boxed E2.out id).cell
        have d3 := (tA.boxed E3.out id).cell
        have d4 := (tA.boxed E4.out id).cell
        clear tA sA
        rcases Int.lt_trichotomy x k with hlt | heq | hgt
        · have hxa : x ≤ fa := hf _ hxm (by simp only; omega)
          clear hx hxm
          gi_wp2
          exact ⟨O, Sub.refl _ _, Turned.refl _ _, hI⟩
        · exact absurd heq (hne _ hxm)
        · have hxb : ca ≤ x := hcc _ hxm (by simp only; omega)
          clear hx hxm
          gi_wp2
          exact ⟨O, Sub.refl _ _, Turned.refl _ _, hI⟩
    case done =>
      rintro D O X hD nD tX sX _ hK
      have kwX := Lib.hid (KW6.out.trans tX)
      have bRX := Lib.hid (tX.boxed bR6.out id)
      have hDX := Lib.hid hK
      clear M6 KW6 bR6 BK6 E1 E2 E3 E4 BA tX hK nD sX
      go_wp2_with (fail)
      refine (known_c _).mono ?_
      rintro e X3 ⟨rfl, hk⟩
      have bR3 := hk.boxed bRX.out id
      have hcR := bR3.cell
      have hfR := bR3.frozen
      have kw3 := Lib.hid (kwX.out.trans hk)
      have hD3 := Lib.hid (hk.heap hDX.out id)
      clear hk bR3 kwX bRX hDX
      go_wp2
      refine leave_marks [D] (X3.setCell ⟨w.heap.size + 1, 0, none⟩ (.bool true)) ?_ (by simp) ?_
      · intro j hj
        simp at hj
        subst hj
        exact (Below.heap_setCell X3 ⟨w.heap.size + 1, 0, none⟩ (.bool true) j (by show j ≠ w.heap.size + 1; omega)).trans hD3.out
      · intro X' hX'
        have hc5 : X'.cell? ⟨w.heap.size + 1, 0, none⟩ = some (.bool true) := hX'.cell (p := ⟨w.heap.size + 1, 0, none⟩) (World.cell?_setCell_same' X3 _ _ (by rw [hcR]; rfl)) (by simp; omega)
        refine ⟨.bool true, ?_, rfl, (kw3.out.did (by omega) (Turned.setCell X3 ⟨w.heap.size + 1, 0, none⟩ (.bool true) (R := fun i => i = w.heap.size + 1) rfl)).own (fun i hi => by simp at hi; omega) hX'⟩
        simp [results, Try.f6, go_sem, hc5]
end Go.Proofs.Ytfckphcbleodbaa
