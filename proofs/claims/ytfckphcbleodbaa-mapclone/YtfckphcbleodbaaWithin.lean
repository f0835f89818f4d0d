/-
  package omap at int64: what riseWithin promises of its rounds, and Range's closure as an iterator ('Iter').
-/
import Derived.Test.YtfckphcbleodbaaRise
import Derived.Test.YtfckphcbleodbaaPlainB
namespace Go.Proofs.Ytfckphcbleodbaa
open Go.RowKit Go.Shelf

attribute [local go_sem] Oper.semAt_some

/-- What riseWithin promises, at a tree. -/
def Within (w W : World) (l : Nat) (O₀ : Nat → Prop) (J Jx : Inv (Int × Int)) (xs : List (Int × Int)) (lo hi : Int) (t : Tr Int Int) : Prop :=
  ∀ (p : Value) (pre rest : List (Int × Int)) (O : Nat → Prop) (A : World), Lies 71 (Value.int .i64) (Value.int .i64) w t p → xs = pre ++ (between ltI t.list lo hi ++ rest) → Turned O₀ W A → Sub O O₀ W.heap.size → J O pre A →
    Calls Try.prog 41 #[p, .int .i64 lo, .int .i64 hi, .func (.yield l) #[] #[]] A (Rose_i J Jx O₀ W xs (pre ++ between ltI t.list lo hi))

theorem withinA {w W : World} (hk : Hid (Kept w W)) {l : Nat} {O₀ : Nat → Prop} {J Jx : Inv (Int × Int)} (gJ : Hid (Good J)) {xs : List (Int × Int)} (hN : Hid (∀ k, IsNode 71 w k → ¬ O₀ k)) (lo hi : Int)
    (HY : Hid (∀ O pre x rest A, xs = pre ++ x :: rest → Turned O₀ W A → Sub O O₀ W.heap.size → J O pre A → YieldAt Fence.wide 9 Try.prog l (enc_i x) A (RoundEnds J Jx O (pre ++ [x]) A))) (tl tr : Tr Int Int) (nk nv : Int)
    (IHL : Hid (Within w W l O₀ J Jx xs lo hi tl)) (IHR : Hid (Within w W l O₀ J Jx xs lo hi tr)) (CUT : Hid (Asc ltI tl.list ∧ Asc ltI tr.list ∧ (∀ y ∈ tl.list, ltI y.1 (nk, nv).1 = true) ∧ ∀ y ∈ tr.list, ltI (nk, nv).1 y.1 = true))
    (h1 : ltI lo nk = true) : Within w W l O₀ J Jx xs lo hi (.node tl nk nv tr) := by
  intro p pre rest O A hp hx hA hO hj
  have h2 : ltI nk lo = false := linI.asym h1
  have KD : Hid (Turned O₀ W A.drew) := Lib.hid (hA.sub (Turned.drewN O A 1) hO)
  have HJ : Hid (J O pre A.drew) := Lib.hid (gJ.out.abides _ _ _ _ hj (Turned.drewN _ A 1))
  have HO := Lib.hid hO
  obtain ⟨b, q1, q2, rfl, hn, l1, l2⟩ := hp
  have hb : ¬ O₀ b := hN.out b hn.is
  have C2 : Hid (∀ X, Turned O₀ W X → X.cell? ⟨b, 2, none⟩ = some q1) := Lib.hid fun X hX => (hn.turned (hk.out.then hX) hb).cells.2.2.1
  have C3 : Hid (∀ X, Turned O₀ W X → X.cell? ⟨b, 3, none⟩ = some q2) := Lib.hid fun X hX => (hn.turned (hk.out.then hX) hb).cells.2.2.2.1
  have c0 : ∀ x : Wd (Turned O₀ W), x.w.cell? ⟨b, 0, none⟩ = some (.int .i64 nk) := fun x => (hn.turned (hk.out.then x.ok) hb).cells.1
  have c1 : ∀ x : Wd (Turned O₀ W), x.w.cell? ⟨b, 1, none⟩ = some (.int .i64 nv) := fun x => (hn.turned (hk.out.then x.ok) hb).cells.2.1
  have H1 := Lib.hid l1
  have H2 := Lib.hid l2
  clear hA hO hj hn l1 l2 hb
  cases h3 : ltI nk hi with
  | true =>
    have h4 : ltI hi nk = false := linI.asym h3
    have HB : Hid (between ltI (Tr.node tl nk nv tr).list lo hi = between ltI tl.list lo hi ++ ([(nk, nv)] ++ (between ltI tr.list lo hi ++ ([])))) := Lib.hid (by
      have h := between_cut (lt := ltI) (xs := tl.list) (ys := tr.list) (n := (nk, nv)) (lo := lo) (hi := hi)
      rw [show (Tr.node tl nk nv tr).list = tl.list ++ (nk, nv) :: tr.list from rfl, h]
      simp [h2, h4])
    have HX : Hid (xs = pre ++ ((between ltI tl.list lo hi ++ ([(nk, nv)] ++ (between ltI tr.list lo hi ++ ([])))) ++ rest)) := Lib.hid (by rw [hx, HB.out])
    have H1L := Lib.hid h1
    have H2L := Lib.hid h2
    have H3L := Lib.hid h3
    have H4L := Lib.hid h4
    clear h1 h2 h3 h4 hx
    refine (callsIn_wide (n := 10)).1 ?_
    refine callsIn_of_wp Try.func41 rfl trivial ?_ rfl
    simp only [Try.ntmps41, List.size_toArray, List.length_cons, List.length_nil, Nat.reduceAdd, Nat.reduceSub, Array.replicate_succ, Array.replicate_zero, List.push_toArray, List.append_toArray, List.nil_append, List.cons_append]
    gi_wp2_with (fail)
    refine region_held [0, 1, 2, 3, 4, 6, 7, 8, 9, 10, 5, 11, 12, 13] (Turned O₀ W) (by kernel_rfl) (by kernel_rfl) (fun _ _ d _ _ h => by cases d <;> exact h) KD.out (fun _ => ?_)
    repeat (refine pq rfl rfl ?_; go_big_quiet_step (fail); refine wpQuiet_nil ?_)
    refine pl rfl rfl ?_
    gi_wp2_with (fail)
    refine ⟨trivial, ?_⟩
    refine (callsIn_wide.2 (cmp_i _ lo nk (-1) (by rw [H1L.out, H2L.out]; rfl))).mono ?_
    rintro e w' ⟨rfl, rfl⟩
    gi_wp2_with (fail)
    refine ⟨Wd.mem KD.out, ?_⟩
    repeat (refine pq rfl rfl ?_; go_big_quiet_step (fail); refine wpQuiet_nil ?_)
    refine pl rfl rfl ?_
    gi_wp2_with (fail)
    refine ⟨trivial, ?_⟩
    refine (callsIn_wide.2 (cmp_i _ nk hi (-1) (by rw [H3L.out, H4L.out]; rfl))).mono ?_
    rintro e w' ⟨rfl, rfl⟩
    gi_wp2_with (fail)
    refine ⟨Wd.mem KD.out, ?_⟩
    repeat (refine pq rfl rfl ?_; go_big_quiet_step (fail); refine wpQuiet_nil ?_)
    refine perm_nil ?_
    have cw2 : A.drew.cell? ⟨b, 2, none⟩ = some q1 := C2.out A.drew KD.out
    gi_wp2_with (fail)
    refine ⟨trivial, ?_⟩
    refine (callsIn_wide.2 (IHL.out _ pre (([(nk, nv)] ++ (between ltI tr.list lo hi ++ ([]))) ++ rest) O _ H1.out (by rw [HX.out]; simp) KD.out HO.out HJ.out)).mono ?_
    rintro e A1 ⟨O1, s1, t1, ⟨rfl, j1⟩ | ⟨rfl, x1⟩⟩
    · have T1 := Lib.hid t1
      have S1 := Lib.hid s1
      have J1 := Lib.hid j1
      clear t1 s1 j1
      have T5 := Lib.hid (T1.out.sub (Turned.drewN O1 A1 1) S1.out)
      have J5 : Hid (J O1 (pre ++ between ltI tl.list lo hi) (A1).drew) := Lib.hid (gJ.out.abides _ _ _ _ J1.out (Turned.drewN _ (A1) 1))
      obtain ⟨fn, tmps, assign, body, hy, hRd⟩ := HY.out O1 (pre ++ between ltI tl.list lo hi) (nk, nv) (between ltI tr.list lo hi ++ rest) (A1).drew (by rw [HX.out]; simp) T5.out S1.out J5.out
      change (Instr.yield l #[.int .i64 nk, .int .i64 nv]).run Try.prog (A1).drew = _ at hy
      gi_wp2_with (fail)
      refine region_held [0, 1, 2, 3, 4, 5, 6, 7, 8, 9, 10, 11, 12, 13, 14, 15, 16, 17, 18] (Turned O₀ W) (by kernel_rfl) (by kernel_rfl) (fun _ _ d _ _ h => by cases d <;> exact h) T5.out (fun _ => ?_)
      repeat (refine pq rfl rfl ?_; go_big_quiet_step (fail); refine wpQuiet_nil ?_)
      refine pl rfl rfl ?_
      gi_wp2_with (fail)
      refine hRd.mono ?_
      rintro e A6 ⟨O6, s6, t6, ⟨rfl, j6⟩ | ⟨rfl, x6⟩⟩
      · have T6 := Lib.hid (T5.out.sub t6 S1.out)
        have S6 := Lib.hid (s6.trans S1.out T5.out.size)
        have J6 := Lib.hid j6
        clear s6 t6 j6
        gi_wp2
        refine ⟨Wd.mem T6.out, ?_⟩
        repeat (refine pq rfl rfl ?_; go_big_quiet_step (fail); refine wpQuiet_nil ?_)
        refine perm_nil ?_
        have cw3 : A6.cell? ⟨b, 3, none⟩ = some q2 := C3.out A6 T6.out
        gi_wp2_with (fail)
        refine ⟨trivial, ?_⟩
        refine (callsIn_wide.2 (IHR.out _ (pre ++ between ltI tl.list lo hi ++ [(nk, nv)]) rest O6 _ H2.out (by rw [HX.out]; simp) T6.out S6.out J6.out)).mono ?_
        rintro e A9 ⟨O9, s9, t9, ⟨rfl, j9⟩ | ⟨rfl, x9⟩⟩
        · have J9 := Lib.hid j9
          clear j9
          gi_wp2
          go_ret
          exact ⟨O9, s9, t9, .inl ⟨rfl, by have := J9.out; rw [HB.out]; simpa using this⟩⟩
        · have X9 := Lib.hid x9
          clear x9
          gi_wp2
          go_ret
          exact ⟨O9, s9, t9, .inr ⟨rfl, X9.out⟩⟩
      · have T6 := Lib.hid (T5.out.sub t6 S1.out)
        have S6 := Lib.hid (s6.trans S1.out T5.out.size)
        have X6 := Lib.hid x6
        clear s6 t6 x6
        gi_wp2
        refine ⟨Wd.mem T6.out, ?_⟩
        repeat (refine pq rfl rfl ?_; go_big_quiet_step (fail); refine wpQuiet_nil ?_)
        refine perm_nil ?_
        gi_wp2
        go_ret
        exact ⟨O6, S6.out, T6.out, .inr ⟨rfl, _, between ltI tr.list lo hi ++ rest, by rw [HX.out]; simp, X6.out⟩⟩
    · have X1 := Lib.hid x1
      clear x1
      gi_wp2
      go_ret
      exact ⟨O1, s1, t1, .inr ⟨rfl, X1.out⟩⟩
  | false =>
    cases h4 : ltI hi nk with
    | true =>
      have HB : Hid (between ltI (Tr.node tl nk nv tr).list lo hi = between ltI tl.list lo hi ++ ([])) := Lib.hid (by
        have h := between_cut (lt := ltI) (xs := tl.list) (ys := tr.list) (n := (nk, nv)) (lo := lo) (hi := hi)
        rw [show (Tr.node tl nk nv tr).list = tl.list ++ (nk, nv) :: tr.list from rfl, h]
        rw [between_high_nil linI (n := (nk, nv)) CUT.out.2.2.2 h3]
        simp [h2, h4])
      have HX : Hid (xs = pre ++ ((between ltI tl.list lo hi ++ ([])) ++ rest)) := Lib.hid (by rw [hx, HB.out])
      have H1L := Lib.hid h1
      have H2L := Lib.hid h2
      have H3L := Lib.hid h3
      have H4L := Lib.hid h4
      clear h1 h2 h3 h4 hx
      refine (callsIn_wide (n := 10)).1 ?_
      refine callsIn_of_wp Try.func41 rfl trivial ?_ rfl
      simp only [Try.ntmps41, List.size_toArray, List.length_cons, List.length_nil, Nat.reduceAdd, Nat.reduceSub, Array.replicate_succ, Array.replicate_zero, List.push_toArray, List.append_toArray, List.nil_append, List.cons_append]
      gi_wp2_with (fail)
      refine region_held [0, 1, 2, 3, 4, 6, 7, 8, 9, 10, 5, 11, 12, 13] (Turned O₀ W) (by kernel_rfl) (by kernel_rfl) (fun _ _ d _ _ h => by cases d <;> exact h) KD.out (fun _ => ?_)
      repeat (refine pq rfl rfl ?_; go_big_quiet_step (fail); refine wpQuiet_nil ?_)
      refine pl rfl rfl ?_
      gi_wp2_with (fail)
      refine ⟨trivial, ?_⟩
      refine (callsIn_wide.2 (cmp_i _ lo nk (-1) (by rw [H1L.out, H2L.out]; rfl))).mono ?_
      rintro e w' ⟨rfl, rfl⟩
      gi_wp2_with (fail)
      refine ⟨Wd.mem KD.out, ?_⟩
      repeat (refine pq rfl rfl ?_; go_big_quiet_step (fail); refine wpQuiet_nil ?_)
      refine pl rfl rfl ?_
      gi_wp2_with (fail)
      refine ⟨trivial, ?_⟩
      refine (callsIn_wide.2 (cmp_i _ nk hi (1) (by rw [H3L.out, H4L.out]; rfl))).mono ?_
      rintro e w' ⟨rfl, rfl⟩
      gi_wp2_with (fail)
      refine ⟨Wd.mem KD.out, ?_⟩
      repeat (refine pq rfl rfl ?_; go_big_quiet_step (fail); refine wpQuiet_nil ?_)
      refine perm_nil ?_
      have cw2 : A.drew.cell? ⟨b, 2, none⟩ = some q1 := C2.out A.drew KD.out
      gi_wp2_with (fail)
      refine ⟨trivial, ?_⟩
      refine (callsIn_wide.2 (IHL.out _ pre (([]) ++ rest) O _ H1.out (by rw [HX.out]; simp) KD.out HO.out HJ.out)).mono ?_
      rintro e A1 ⟨O1, s1, t1, ⟨rfl, j1⟩ | ⟨rfl, x1⟩⟩
      · have T1 := Lib.hid t1
        have S1 := Lib.hid s1
        have J1 := Lib.hid j1
        clear t1 s1 j1
        have T5 := Lib.hid (T1.out.sub (Turned.drewN O1 A1 1) S1.out)
        have J5 : Hid (J O1 (pre ++ between ltI tl.list lo hi) (A1).drew) := Lib.hid (gJ.out.abides _ _ _ _ J1.out (Turned.drewN _ (A1) 1))
        gi_wp2_with (fail)
        refine region_held [0, 1, 2, 3, 4, 5, 6, 7, 8, 9, 10, 11, 12, 13, 14, 15, 16, 17, 18] (Turned O₀ W) (by kernel_rfl) (by kernel_rfl) (fun _ _ d _ _ h => by cases d <;> exact h) T5.out (fun _ => ?_)
        repeat (refine pq rfl rfl ?_; go_big_quiet_step (fail); refine wpQuiet_nil ?_)
        refine ps rfl rfl rfl (Wd.mem T5.out) ?_
        go_big_quiet_skip
        refine wpQuiet_nil ?_
        repeat (refine pq rfl rfl ?_; go_big_quiet_step (fail); refine wpQuiet_nil ?_)
        refine perm_nil ?_
        have cw3 : (A1).drew.cell? ⟨b, 3, none⟩ = some q2 := C3.out (A1).drew T5.out
        gi_wp2_with (fail)
        refine ⟨trivial, ?_⟩
        gi_wp2
        go_ret
        exact ⟨O1, S1.out, T5.out, .inl ⟨rfl, by have := J5.out; rw [HB.out]; simpa using this⟩⟩
      · have X1 := Lib.hid x1
        clear x1
        gi_wp2
        go_ret
        exact ⟨O1, s1, t1, .inr ⟨rfl, X1.out⟩⟩
    | false =>
      have HB : Hid (between ltI (Tr.node tl nk nv tr).list lo hi = between ltI tl.list lo hi ++ ([(nk, nv)] ++ ([]))) := Lib.hid (by
        have h := between_cut (lt := ltI) (xs := tl.list) (ys := tr.list) (n := (nk, nv)) (lo := lo) (hi := hi)
        rw [show (Tr.node tl nk nv tr).list = tl.list ++ (nk, nv) :: tr.list from rfl, h]
        rw [between_high_nil linI (n := (nk, nv)) CUT.out.2.2.2 h3]
        simp [h2, h4])
      have HX : Hid (xs = pre ++ ((between ltI tl.list lo hi ++ ([(nk, nv)] ++ ([]))) ++ rest)) := Lib.hid (by rw [hx, HB.out])
      have H1L := Lib.hid h1
      have H2L := Lib.hid h2
      have H3L := Lib.hid h3
      have H4L := Lib.hid h4
      clear h1 h2 h3 h4 hx
      refine (callsIn_wide (n := 10)).1 ?_
      refine callsIn_of_wp Try.func41 rfl trivial ?_ rfl
      simp only [Try.ntmps41, List.size_toArray, List.length_cons, List.length_nil, Nat.reduceAdd, Nat.reduceSub, Array.replicate_succ, Array.replicate_zero, List.push_toArray, List.append_toArray, List.nil_append, List.cons_append]
      gi_wp2_with (fail)
      refine region_held [0, 1, 2, 3, 4, 6, 7, 8, 9, 10, 5, 11, 12, 13] (Turned O₀ W) (by kernel_rfl) (by kernel_rfl) (fun _ _ d _ _ h => by cases d <;> exact h) KD.out (fun _ => ?_)
      repeat (refine pq rfl rfl ?_; go_big_quiet_step (fail); refine wpQuiet_nil ?_)
      refine pl rfl rfl ?_
      gi_wp2_with (fail)
      refine ⟨trivial, ?_⟩
      refine (callsIn_wide.2 (cmp_i _ lo nk (-1) (by rw [H1L.out, H2L.out]; rfl))).mono ?_
      rintro e w' ⟨rfl, rfl⟩
      gi_wp2_with (fail)
      refine ⟨Wd.mem KD.out, ?_⟩
      repeat (refine pq rfl rfl ?_; go_big_quiet_step (fail); refine wpQuiet_nil ?_)
      refine pl rfl rfl ?_
      gi_wp2_with (fail)
      refine ⟨trivial, ?_⟩
      refine (callsIn_wide.2 (cmp_i _ nk hi (0) (by rw [H3L.out, H4L.out]; rfl))).mono ?_
      rintro e w' ⟨rfl, rfl⟩
      gi_wp2_with (fail)
      refine ⟨Wd.mem KD.out, ?_⟩
      repeat (refine pq rfl rfl ?_; go_big_quiet_step (fail); refine wpQuiet_nil ?_)
      refine perm_nil ?_
      have cw2 : A.drew.cell? ⟨b, 2, none⟩ = some q1 := C2.out A.drew KD.out
      gi_wp2_with (fail)
      refine ⟨trivial, ?_⟩
      refine (callsIn_wide.2 (IHL.out _ pre (([(nk, nv)] ++ ([])) ++ rest) O _ H1.out (by rw [HX.out]; simp) KD.out HO.out HJ.out)).mono ?_
      rintro e A1 ⟨O1, s1, t1, ⟨rfl, j1⟩ | ⟨rfl, x1⟩⟩
      · have T1 := Lib.hid t1
        have S1 := Lib.hid s1
        have J1 := Lib.hid j1
        clear t1 s1 j1
        have T5 := Lib.hid (T1.out.sub (Turned.drewN O1 A1 1) S1.out)
        have J5 : Hid (J O1 (pre ++ between ltI tl.list lo hi) (A1).drew) := Lib.hid (gJ.out.abides _ _ _ _ J1.out (Turned.drewN _ (A1) 1))
        obtain ⟨fn, tmps, assign, body, hy, hRd⟩ := HY.out O1 (pre ++ between ltI tl.list lo hi) (nk, nv) ([] ++ rest) (A1).drew (by rw [HX.out]; simp) T5.out S1.out J5.out
        change (Instr.yield l #[.int .i64 nk, .int .i64 nv]).run Try.prog (A1).drew = _ at hy
        gi_wp2_with (fail)
        refine region_held [0, 1, 2, 3, 4, 5, 6, 7, 8, 9, 10, 11, 12, 13, 14, 15, 16, 17, 18] (Turned O₀ W) (by kernel_rfl) (by kernel_rfl) (fun _ _ d _ _ h => by cases d <;> exact h) T5.out (fun _ => ?_)
        repeat (refine pq rfl rfl ?_; go_big_quiet_step (fail); refine wpQuiet_nil ?_)
        refine pl rfl rfl ?_
        gi_wp2_with (fail)
        refine hRd.mono ?_
        rintro e A6 ⟨O6, s6, t6, ⟨rfl, j6⟩ | ⟨rfl, x6⟩⟩
        · have T6 := Lib.hid (T5.out.sub t6 S1.out)
          have S6 := Lib.hid (s6.trans S1.out T5.out.size)
          have J6 := Lib.hid j6
          clear s6 t6 j6
          gi_wp2
          refine ⟨Wd.mem T6.out, ?_⟩
          repeat (refine pq rfl rfl ?_; go_big_quiet_step (fail); refine wpQuiet_nil ?_)
          refine perm_nil ?_
          have cw3 : A6.cell? ⟨b, 3, none⟩ = some q2 := C3.out A6 T6.out
          gi_wp2_with (fail)
          refine ⟨trivial, ?_⟩
          gi_wp2
          go_ret
          exact ⟨O6, S6.out, T6.out, .inl ⟨rfl, by have := J6.out; rw [HB.out]; simpa using this⟩⟩
        · have T6 := Lib.hid (T5.out.sub t6 S1.out)
          have S6 := Lib.hid (s6.trans S1.out T5.out.size)
          have X6 := Lib.hid x6
          clear s6 t6 x6
          gi_wp2
          refine ⟨Wd.mem T6.out, ?_⟩
          repeat (refine pq rfl rfl ?_; go_big_quiet_step (fail); refine wpQuiet_nil ?_)
          refine perm_nil ?_
          gi_wp2
          go_ret
          exact ⟨O6, S6.out, T6.out, .inr ⟨rfl, _, [] ++ rest, by rw [HX.out]; simp, X6.out⟩⟩
      · have X1 := Lib.hid x1
        clear x1
        gi_wp2
        go_ret
        exact ⟨O1, s1, t1, .inr ⟨rfl, X1.out⟩⟩

theorem withinB {w W : World} (hk : Hid (Kept w W)) {l : Nat} {O₀ : Nat → Prop} {J Jx : Inv (Int × Int)} (gJ : Hid (Good J)) {xs : List (Int × Int)} (hN : Hid (∀ k, IsNode 71 w k → ¬ O₀ k)) (lo hi : Int)
    (HY : Hid (∀ O pre x rest A, xs = pre ++ x :: rest → Turned O₀ W A → Sub O O₀ W.heap.size → J O pre A → YieldAt Fence.wide 9 Try.prog l (enc_i x) A (RoundEnds J Jx O (pre ++ [x]) A))) (tl tr : Tr Int Int) (nk nv : Int)
    (_IHL : Hid (Within w W l O₀ J Jx xs lo hi tl)) (IHR : Hid (Within w W l O₀ J Jx xs lo hi tr)) (CUT : Hid (Asc ltI tl.list ∧ Asc ltI tr.list ∧ (∀ y ∈ tl.list, ltI y.1 (nk, nv).1 = true) ∧ ∀ y ∈ tr.list, ltI (nk, nv).1 y.1 = true))
    (h1 : ltI lo nk = false) (h2 : ltI nk lo = false) : Within w W l O₀ J Jx xs lo hi (.node tl nk nv tr) := by
  intro p pre rest O A hp hx hA hO hj
  have KD : Hid (Turned O₀ W A.drew) := Lib.hid (hA.sub (Turned.drewN O A 1) hO)
  have HJ : Hid (J O pre A.drew) := Lib.hid (gJ.out.abides _ _ _ _ hj (Turned.drewN _ A 1))
  have HO := Lib.hid hO
  obtain ⟨b, q1, q2, rfl, hn, l1, l2⟩ := hp
  have hb : ¬ O₀ b := hN.out b hn.is
  have C2 : Hid (∀ X, Turned O₀ W X → X.cell? ⟨b, 2, none⟩ = some q1) := Lib.hid fun X hX => (hn.turned (hk.out.then hX) hb).cells.2.2.1
  have C3 : Hid (∀ X, Turned O₀ W X → X.cell? ⟨b, 3, none⟩ = some q2) := Lib.hid fun X hX => (hn.turned (hk.out.then hX) hb).cells.2.2.2.1
  have c0 : ∀ x : Wd (Turned O₀ W), x.w.cell? ⟨b, 0, none⟩ = some (.int .i64 nk) := fun x => (hn.turned (hk.out.then x.ok) hb).cells.1
  have c1 : ∀ x : Wd (Turned O₀ W), x.w.cell? ⟨b, 1, none⟩ = some (.int .i64 nv) := fun x => (hn.turned (hk.out.then x.ok) hb).cells.2.1
  have H1 := Lib.hid l1
  have H2 := Lib.hid l2
  clear hA hO hj hn l1 l2 hb
  cases h3 : ltI nk hi with
  | true =>
    have h4 : ltI hi nk = false := linI.asym h3
    have HB : Hid (between ltI (Tr.node tl nk nv tr).list lo hi = [(nk, nv)] ++ (between ltI tr.list lo hi ++ ([]))) := Lib.hid (by
      have h := between_cut (lt := ltI) (xs := tl.list) (ys := tr.list) (n := (nk, nv)) (lo := lo) (hi := hi)
      rw [show (Tr.node tl nk nv tr).list = tl.list ++ (nk, nv) :: tr.list from rfl, h]
      rw [between_low_nil linI (n := (nk, nv)) CUT.out.2.2.1 h1]
      simp [h2, h4])
    have HX : Hid (xs = pre ++ (([(nk, nv)] ++ (between ltI tr.list lo hi ++ ([]))) ++ rest)) := Lib.hid (by rw [hx, HB.out])
    have H1L := Lib.hid h1
    have H2L := Lib.hid h2
    have H3L := Lib.hid h3
    have H4L := Lib.hid h4
    clear h1 h2 h3 h4 hx
    refine (callsIn_wide (n := 10)).1 ?_
    refine callsIn_of_wp Try.func41 rfl trivial ?_ rfl
    simp only [Try.ntmps41, List.size_toArray, List.length_cons, List.length_nil, Nat.reduceAdd, Nat.reduceSub, Array.replicate_succ, Array.replicate_zero, List.push_toArray, List.append_toArray, List.nil_append, List.cons_append]
    gi_wp2_with (fail)
    refine region_held [0, 1, 2, 3, 4, 6, 7, 8, 9, 10, 5, 11, 12, 13] (Turned O₀ W) (by kernel_rfl) (by kernel_rfl) (fun _ _ d _ _ h => by cases d <;> exact h) KD.out (fun _ => ?_)
    repeat (refine pq rfl rfl ?_; go_big_quiet_step (fail); refine wpQuiet_nil ?_)
    refine pl rfl rfl ?_
    gi_wp2_with (fail)
    refine ⟨trivial, ?_⟩
    refine (callsIn_wide.2 (cmp_i _ lo nk (0) (by rw [H1L.out, H2L.out]; rfl))).mono ?_
    rintro e w' ⟨rfl, rfl⟩
    gi_wp2_with (fail)
    refine ⟨Wd.mem KD.out, ?_⟩
    repeat (refine pq rfl rfl ?_; go_big_quiet_step (fail); refine wpQuiet_nil ?_)
    refine pl rfl rfl ?_
    gi_wp2_with (fail)
    refine ⟨trivial, ?_⟩
    refine (callsIn_wide.2 (cmp_i _ nk hi (-1) (by rw [H3L.out, H4L.out]; rfl))).mono ?_
    rintro e w' ⟨rfl, rfl⟩
    gi_wp2_with (fail)
    refine ⟨Wd.mem KD.out, ?_⟩
    repeat (refine pq rfl rfl ?_; go_big_quiet_step (fail); refine wpQuiet_nil ?_)
    refine perm_nil ?_
    have T5 := Lib.hid (KD.out.sub (Turned.drewN O A.drew 1) HO.out)
    have J5 : Hid (J O (pre) (A.drew).drew) := Lib.hid (gJ.out.abides _ _ _ _ HJ.out (Turned.drewN _ (A.drew) 1))
    obtain ⟨fn, tmps, assign, body, hy, hRd⟩ := HY.out O (pre) (nk, nv) (between ltI tr.list lo hi ++ rest) (A.drew).drew (by rw [HX.out]; simp) T5.out HO.out J5.out
    change (Instr.yield l #[.int .i64 nk, .int .i64 nv]).run Try.prog (A.drew).drew = _ at hy
    gi_wp2_with (fail)
    refine ⟨trivial, ?_⟩
    gi_wp2_with (fail)
    refine region_held [0, 1, 2, 3, 4, 5, 6, 7, 8, 9, 10, 11, 12, 13, 14, 15, 16, 17, 18] (Turned O₀ W) (by kernel_rfl) (by kernel_rfl) (fun _ _ d _ _ h => by cases d <;> exact h) T5.out (fun _ => ?_)
    repeat (refine pq rfl rfl ?_; go_big_quiet_step (fail); refine wpQuiet_nil ?_)
    refine pl rfl rfl ?_
    gi_wp2_with (fail)
    refine hRd.mono ?_
    rintro e A6 ⟨O6, s6, t6, ⟨rfl, j6⟩ | ⟨rfl, x6⟩⟩
    · have T6 := Lib.hid (T5.out.sub t6 HO.out)
      have S6 := Lib.hid (s6.trans HO.out T5.out.size)
      have J6 := Lib.hid j6
      clear s6 t6 j6
      gi_wp2
      refine ⟨Wd.mem T6.out, ?_⟩
      repeat (refine pq rfl rfl ?_; go_big_quiet_step (fail); refine wpQuiet_nil ?_)
      refine perm_nil ?_
      have cw3 : A6.cell? ⟨b, 3, none⟩ = some q2 := C3.out A6 T6.out
      gi_wp2_with (fail)
      refine ⟨trivial, ?_⟩
      refine (callsIn_wide.2 (IHR.out _ (pre ++ [(nk, nv)]) rest O6 _ H2.out (by rw [HX.out]; simp) T6.out S6.out J6.out)).mono ?_
      rintro e A9 ⟨O9, s9, t9, ⟨rfl, j9⟩ | ⟨rfl, x9⟩⟩
      · have J9 := Lib.hid j9
        clear j9
        gi_wp2
        go_ret
        exact ⟨O9, s9, t9, .inl ⟨rfl, by have := J9.out; rw [HB.out]; simpa using this⟩⟩
      · have X9 := Lib.hid x9
        clear x9
        gi_wp2
        go_ret
        exact ⟨O9, s9, t9, .inr ⟨rfl, X9.out⟩⟩
    · have T6 := Lib.hid (T5.out.sub t6 HO.out)
      have S6 := Lib.hid (s6.trans HO.out T5.out.size)
      have X6 := Lib.hid x6
      clear s6 t6 x6
      gi_wp2
      refine ⟨Wd.mem T6.out, ?_⟩
      repeat (refine pq rfl rfl ?_; go_big_quiet_step (fail); refine wpQuiet_nil ?_)
      refine perm_nil ?_
      gi_wp2
      go_ret
      exact ⟨O6, S6.out, T6.out, .inr ⟨rfl, _, between ltI tr.list lo hi ++ rest, by rw [HX.out]; simp, X6.out⟩⟩
  | false =>
    cases h4 : ltI hi nk with
    | true =>
      have HB : Hid (between ltI (Tr.node tl nk nv tr).list lo hi = []) := Lib.hid (by
        have h := between_cut (lt := ltI) (xs := tl.list) (ys := tr.list) (n := (nk, nv)) (lo := lo) (hi := hi)
        rw [show (Tr.node tl nk nv tr).list = tl.list ++ (nk, nv) :: tr.list from rfl, h]
        rw [between_low_nil linI (n := (nk, nv)) CUT.out.2.2.1 h1]
        rw [between_high_nil linI (n := (nk, nv)) CUT.out.2.2.2 h3]
        simp [h2, h4])
      have HX : Hid (xs = pre ++ (([]) ++ rest)) := Lib.hid (by rw [hx, HB.out])
      have H1L := Lib.hid h1
      have H2L := Lib.hid h2
      have H3L := Lib.hid h3
      have H4L := Lib.hid h4
      clear h1 h2 h3 h4 hx
      refine (callsIn_wide (n := 10)).1 ?_
      refine callsIn_of_wp Try.func41 rfl trivial ?_ rfl
      simp only [Try.ntmps41, List.size_toArray, List.length_cons, List.length_nil, Nat.reduceAdd, Nat.reduceSub, Array.replicate_succ, Array.replicate_zero, List.push_toArray, List.append_toArray, List.nil_append, List.cons_append]
      gi_wp2_with (fail)
      refine region_held [0, 1, 2, 3, 4, 6, 7, 8, 9, 10, 5, 11, 12, 13] (Turned O₀ W) (by kernel_rfl) (by kernel_rfl) (fun _ _ d _ _ h => by cases d <;> exact h) KD.out (fun _ => ?_)
      repeat (refine pq rfl rfl ?_; go_big_quiet_step (fail); refine wpQuiet_nil ?_)
      refine pl rfl rfl ?_
      gi_wp2_with (fail)
      refine ⟨trivial, ?_⟩
      refine (callsIn_wide.2 (cmp_i _ lo nk (0) (by rw [H1L.out, H2L.out]; rfl))).mono ?_
      rintro e w' ⟨rfl, rfl⟩
      gi_wp2_with (fail)
      refine ⟨Wd.mem KD.out, ?_⟩
      repeat (refine pq rfl rfl ?_; go_big_quiet_step (fail); refine wpQuiet_nil ?_)
      refine pl rfl rfl ?_
      gi_wp2_with (fail)
      refine ⟨trivial, ?_⟩
      refine (callsIn_wide.2 (cmp_i _ nk hi (1) (by rw [H3L.out, H4L.out]; rfl))).mono ?_
      rintro e w' ⟨rfl, rfl⟩
      gi_wp2_with (fail)
      refine ⟨Wd.mem KD.out, ?_⟩
      repeat (refine pq rfl rfl ?_; go_big_quiet_step (fail); refine wpQuiet_nil ?_)
      refine perm_nil ?_
      have T5 := Lib.hid (KD.out.sub (Turned.drewN O A.drew 1) HO.out)
      have J5 : Hid (J O (pre) (A.drew).drew) := Lib.hid (gJ.out.abides _ _ _ _ HJ.out (Turned.drewN _ (A.drew) 1))
      gi_wp2_with (fail)
      refine ⟨trivial, ?_⟩
      gi_wp2_with (fail)
      refine region_held [0, 1, 2, 3, 4, 5, 6, 7, 8, 9, 10, 11, 12, 13, 14, 15, 16, 17, 18] (Turned O₀ W) (by kernel_rfl) (by kernel_rfl) (fun _ _ d _ _ h => by cases d <;> exact h) T5.out (fun _ => ?_)
      repeat (refine pq rfl rfl ?_; go_big_quiet_step (fail); refine wpQuiet_nil ?_)
      refine ps rfl rfl rfl (Wd.mem T5.out) ?_
      go_big_quiet_skip
      refine wpQuiet_nil ?_
      repeat (refine pq rfl rfl ?_; go_big_quiet_step (fail); refine wpQuiet_nil ?_)
      refine perm_nil ?_
      have cw3 : (A.drew).drew.cell? ⟨b, 3, none⟩ = some q2 := C3.out (A.drew).drew T5.out
      gi_wp2_with (fail)
      refine ⟨trivial, ?_⟩
      gi_wp2
      go_ret
      exact ⟨O, HO.out, T5.out, .inl ⟨rfl, by have := J5.out; rw [HB.out]; simpa using this⟩⟩
    | false =>
      have HB : Hid (between ltI (Tr.node tl nk nv tr).list lo hi = [(nk, nv)] ++ ([])) := Lib.hid (by
        have h := between_cut (lt := ltI) (xs := tl.list) (ys := tr.list) (n := (nk, nv)) (lo := lo) (hi := hi)
        rw [show (Tr.node tl nk nv tr).list = tl.list ++ (nk, nv) :: tr.list from rfl, h]
        rw [between_low_nil linI (n := (nk, nv)) CUT.out.2.2.1 h1]
        rw [between_high_nil linI (n := (nk, nv)) CUT.out.2.2.2 h3]
        simp [h2, h4])
      have HX : Hid (xs = pre ++ (([(nk, nv)] ++ ([])) ++ rest)) := Lib.hid (by rw [hx, HB.out])
      have H1L := Lib.hid h1
      have H2L := Lib.hid h2
      have H3L := Lib.hid h3
      have H4L := Lib.hid h4
      clear h1 h2 h3 h4 hx
      refine (callsIn_wide (n := 10)).1 ?_
      refine callsIn_of_wp Try.func41 rfl trivial ?_ rfl
      simp only [Try.ntmps41, List.size_toArray, List.length_cons, List.length_nil, Nat.reduceAdd, Nat.reduceSub, Array.replicate_succ, Array.replicate_zero, List.push_toArray, List.append_toArray, List.nil_append, List.cons_append]
      gi_wp2_with (fail)
      refine region_held [0, 1, 2, 3, 4, 6, 7, 8, 9, 10, 5, 11, 12, 13] (Turned O₀ W) (by kernel_rfl) (by kernel_rfl) (fun _ _ d _ _ h => by cases d <;> exact h) KD.out (fun _ => ?_)
      repeat (refine pq rfl rfl ?_; go_big_quiet_step (fail); refine wpQuiet_nil ?_)
      refine pl rfl rfl ?_
      gi_wp2_with (fail)
      refine ⟨trivial, ?_⟩
      refine (callsIn_wide.2 (cmp_i _ lo nk (0) (by rw [H1L.out, H2L.out]; rfl))).mono ?_
      rintro e w' ⟨rfl, rfl⟩
      gi_wp2_with (fail)
      refine ⟨Wd.mem KD.out, ?_⟩
      repeat (refine pq rfl rfl ?_; go_big_quiet_step (fail); refine wpQuiet_nil ?_)
      refine pl rfl rfl ?_
      gi_wp2_with (fail)
      refine ⟨trivial, ?_⟩
      refine (callsIn_wide.2 (cmp_i _ nk hi (0) (by rw [H3L.out, H4L.out]; rfl))).mono ?_
      rintro e w' ⟨rfl, rfl⟩
      gi_wp2_with (fail)
      refine ⟨Wd.mem KD.out, ?_⟩
      repeat (refine pq rfl rfl ?_; go_big_quiet_step (fail); refine wpQuiet_nil ?_)
      refine perm_nil ?_
      have T5 := Lib.hid (KD.out.sub (Turned.drewN O A.drew 1) HO.out)
      have J5 : Hid (J O (pre) (A.drew).drew) := Lib.hid (gJ.out.abides _ _ _ _ HJ.out (Turned.drewN _ (A.drew) 1))
      obtain ⟨fn, tmps, assign, body, hy, hRd⟩ := HY.out O (pre) (nk, nv) ([] ++ rest) (A.drew).drew (by rw [HX.out]; simp) T5.out HO.out J5.out
      change (Instr.yield l #[.int .i64 nk, .int .i64 nv]).run Try.prog (A.drew).drew = _ at hy
      gi_wp2_with (fail)
      refine ⟨trivial, ?_⟩
      gi_wp2_with (fail)
      refine region_held [0, 1, 2, 3, 4, 5, 6, 7, 8, 9, 10, 11, 12, 13, 14, 15, 16, 17, 18] (Turned O₀ W) (by kernel_rfl) (by kernel_rfl) (fun _ _ d _ _ h => by cases d <;> exact h) T5.out (fun _ => ?_)
      repeat (refine pq rfl rfl ?_; go_big_quiet_step (fail); refine wpQuiet_nil ?_)
      refine pl rfl rfl ?_
      gi_wp2_with (fail)
      refine hRd.mono ?_
      rintro e A6 ⟨O6, s6, t6, ⟨rfl, j6⟩ | ⟨rfl, x6⟩⟩
      · have T6 := Lib.hid (T5.out.sub t6 HO.out)
        have S6 := Lib.hid (s6.trans HO.out T5.out.size)
        have J6 := Lib.hid j6
        clear s6 t6 j6
        gi_wp2
        refine ⟨Wd.mem T6.out, ?_⟩
        repeat (refine pq rfl rfl ?_; go_big_quiet_step (fail); refine wpQuiet_nil ?_)
        refine perm_nil ?_
        have cw3 : A6.cell? ⟨b, 3, none⟩ = some q2 := C3.out A6 T6.out
        gi_wp2_with (fail)
        refine ⟨trivial, ?_⟩
        gi_wp2
        go_ret
        exact ⟨O6, S6.out, T6.out, .inl ⟨rfl, by have := J6.out; rw [HB.out]; simpa using this⟩⟩
      · have T6 := Lib.hid (T5.out.sub t6 HO.out)
        have S6 := Lib.hid (s6.trans HO.out T5.out.size)
        have X6 := Lib.hid x6
        clear s6 t6 x6
        gi_wp2
        refine ⟨Wd.mem T6.out, ?_⟩
        repeat (refine pq rfl rfl ?_; go_big_quiet_step (fail); refine wpQuiet_nil ?_)
        refine perm_nil ?_
        gi_wp2
        go_ret
        exact ⟨O6, S6.out, T6.out, .inr ⟨rfl, _, [] ++ rest, by rw [HX.out]; simp, X6.out⟩⟩

theorem withinC {w W : World} (hk : Hid (Kept w W)) {l : Nat} {O₀ : Nat → Prop} {J Jx : Inv (Int × Int)} (gJ : Hid (Good J)) {xs : List (Int × Int)} (hN : Hid (∀ k, IsNode 71 w k → ¬ O₀ k)) (lo hi : Int)
    (_HY : Hid (∀ O pre x rest A, xs = pre ++ x :: rest → Turned O₀ W A → Sub O O₀ W.heap.size → J O pre A → YieldAt Fence.wide 9 Try.prog l (enc_i x) A (RoundEnds J Jx O (pre ++ [x]) A))) (tl tr : Tr Int Int) (nk nv : Int)
    (_IHL : Hid (Within w W l O₀ J Jx xs lo hi tl)) (IHR : Hid (Within w W l O₀ J Jx xs lo hi tr)) (CUT : Hid (Asc ltI tl.list ∧ Asc ltI tr.list ∧ (∀ y ∈ tl.list, ltI y.1 (nk, nv).1 = true) ∧ ∀ y ∈ tr.list, ltI (nk, nv).1 y.1 = true))
    (h1 : ltI lo nk = false) (h2 : ltI nk lo = true) : Within w W l O₀ J Jx xs lo hi (.node tl nk nv tr) := by
  intro p pre rest O A hp hx hA hO hj
  have KD : Hid (Turned O₀ W A.drew) := Lib.hid (hA.sub (Turned.drewN O A 1) hO)
  have HJ : Hid (J O pre A.drew) := Lib.hid (gJ.out.abides _ _ _ _ hj (Turned.drewN _ A 1))
  have HO := Lib.hid hO
  obtain ⟨b, q1, q2, rfl, hn, l1, l2⟩ := hp
  have hb : ¬ O₀ b := hN.out b hn.is
  have C2 : Hid (∀ X, Turned O₀ W X → X.cell? ⟨b, 2, none⟩ = some q1) := Lib.hid fun X hX => (hn.turned (hk.out.then hX) hb).cells.2.2.1
  have C3 : Hid (∀ X, Turned O₀ W X → X.cell? ⟨b, 3, none⟩ = some q2) := Lib.hid fun X hX => (hn.turned (hk.out.then hX) hb).cells.2.2.2.1
  have c0 : ∀ x : Wd (Turned O₀ W), x.w.cell? ⟨b, 0, none⟩ = some (.int .i64 nk) := fun x => (hn.turned (hk.out.then x.ok) hb).cells.1
  have c1 : ∀ x : Wd (Turned O₀ W), x.w.cell? ⟨b, 1, none⟩ = some (.int .i64 nv) := fun x => (hn.turned (hk.out.then x.ok) hb).cells.2.1
  have H1 := Lib.hid l1
  have H2 := Lib.hid l2
  clear hA hO hj hn l1 l2 hb
  cases h3 : ltI nk hi with
  | true =>
    have h4 : ltI hi nk = false := linI.asym h3
    have HB : Hid (between ltI (Tr.node tl nk nv tr).list lo hi = between ltI tr.list lo hi ++ ([])) := Lib.hid (by
      have h := between_cut (lt := ltI) (xs := tl.list) (ys := tr.list) (n := (nk, nv)) (lo := lo) (hi := hi)
      rw [show (Tr.node tl nk nv tr).list = tl.list ++ (nk, nv) :: tr.list from rfl, h]
      rw [between_low_nil linI (n := (nk, nv)) CUT.out.2.2.1 h1]
      simp [h2, h4])
    have HX : Hid (xs = pre ++ ((between ltI tr.list lo hi ++ ([])) ++ rest)) := Lib.hid (by rw [hx, HB.out])
    have H1L := Lib.hid h1
    have H2L := Lib.hid h2
    have H3L := Lib.hid h3
    have H4L := Lib.hid h4
    clear h1 h2 h3 h4 hx
    refine (callsIn_wide (n := 10)).1 ?_
    refine callsIn_of_wp Try.func41 rfl trivial ?_ rfl
    simp only [Try.ntmps41, List.size_toArray, List.length_cons, List.length_nil, Nat.reduceAdd, Nat.reduceSub, Array.replicate_succ, Array.replicate_zero, List.push_toArray, List.append_toArray, List.nil_append, List.cons_append]
    gi_wp2_with (fail)
    refine region_held [0, 1, 2, 3, 4, 6, 7, 8, 9, 10, 5, 11, 12, 13] (Turned O₀ W) (by kernel_rfl) (by kernel_rfl) (fun _ _ d _ _ h => by cases d <;> exact h) KD.out (fun _ => ?_)
    repeat (refine pq rfl rfl ?_; go_big_quiet_step (fail); refine wpQuiet_nil ?_)
    refine pl rfl rfl ?_
    gi_wp2_with (fail)
    refine ⟨trivial, ?_⟩
    refine (callsIn_wide.2 (cmp_i _ lo nk (1) (by rw [H1L.out, H2L.out]; rfl))).mono ?_
    rintro e w' ⟨rfl, rfl⟩
    gi_wp2_with (fail)
    refine ⟨Wd.mem KD.out, ?_⟩
    repeat (refine pq rfl rfl ?_; go_big_quiet_step (fail); refine wpQuiet_nil ?_)
    refine pl rfl rfl ?_
    gi_wp2_with (fail)
    refine ⟨trivial, ?_⟩
    refine (callsIn_wide.2 (cmp_i _ nk hi (-1) (by rw [H3L.out, H4L.out]; rfl))).mono ?_
    rintro e w' ⟨rfl, rfl⟩
    gi_wp2_with (fail)
    refine ⟨Wd.mem KD.out, ?_⟩
    repeat (refine pq rfl rfl ?_; go_big_quiet_step (fail); refine wpQuiet_nil ?_)
    refine perm_nil ?_
    have T5 := Lib.hid (KD.out.sub (Turned.drewN O A.drew 1) HO.out)
    have J5 : Hid (J O (pre) (A.drew).drew) := Lib.hid (gJ.out.abides _ _ _ _ HJ.out (Turned.drewN _ (A.drew) 1))
    gi_wp2_with (fail)
    refine ⟨trivial, ?_⟩
    gi_wp2_with (fail)
    refine region_held [0, 1, 2, 3, 4, 5, 6, 7, 8, 9, 10, 11, 12, 13, 14, 15, 16, 17, 18] (Turned O₀ W) (by kernel_rfl) (by kernel_rfl) (fun _ _ d _ _ h => by cases d <;> exact h) T5.out (fun _ => ?_)
    repeat (refine pq rfl rfl ?_; go_big_quiet_step (fail); refine wpQuiet_nil ?_)
    refine ps rfl rfl rfl (Wd.mem T5.out) ?_
    go_big_quiet_skip
    refine wpQuiet_nil ?_
    repeat (refine pq rfl rfl ?_; go_big_quiet_step (fail); refine wpQuiet_nil ?_)
    refine perm_nil ?_
    have cw3 : (A.drew).drew.cell? ⟨b, 3, none⟩ = some q2 := C3.out (A.drew).drew T5.out
    gi_wp2_with (fail)
    refine ⟨trivial, ?_⟩
    refine (callsIn_wide.2 (IHR.out _ (pre) rest O _ H2.out (by rw [HX.out]; simp) T5.out HO.out J5.out)).mono ?_
    rintro e A9 ⟨O9, s9, t9, ⟨rfl, j9⟩ | ⟨rfl, x9⟩⟩
    · have J9 := Lib.hid j9
      clear j9
      gi_wp2
      go_ret
      exact ⟨O9, s9, t9, .inl ⟨rfl, by have := J9.out; rw [HB.out]; simpa using this⟩⟩
    · have X9 := Lib.hid x9
      clear x9
      gi_wp2
      go_ret
      exact ⟨O9, s9, t9, .inr ⟨rfl, X9.out⟩⟩
  | false =>
    cases h4 : ltI hi nk with
    | true =>
      have HB : Hid (between ltI (Tr.node tl nk nv tr).list lo hi = []) := Lib.hid (by
        have h := between_cut (lt := ltI) (xs := tl.list) (ys := tr.list) (n := (nk, nv)) (lo := lo) (hi := hi)
        rw [show (Tr.node tl nk nv tr).list = tl.list ++ (nk, nv) :: tr.list from rfl, h]
        rw [between_low_nil linI (n := (nk, nv)) CUT.out.2.2.1 h1]
        rw [between_high_nil linI (n := (nk, nv)) CUT.out.2.2.2 h3]
        simp [h2, h4])
      have HX : Hid (xs = pre ++ (([]) ++ rest)) := Lib.hid (by rw [hx, HB.out])
      have H1L := Lib.hid h1
      have H2L := Lib.hid h2
      have H3L := Lib.hid h3
      have H4L := Lib.hid h4
      clear h1 h2 h3 h4 hx
      refine (callsIn_wide (n := 10)).1 ?_
      refine callsIn_of_wp Try.func41 rfl trivial ?_ rfl
      simp only [Try.ntmps41, List.size_toArray, List.length_cons, List.length_nil, Nat.reduceAdd, Nat.reduceSub, Array.replicate_succ, Array.replicate_zero, List.push_toArray, List.append_toArray, List.nil_append, List.cons_append]
      gi_wp2_with (fail)
      refine region_held [0, 1, 2, 3, 4, 6, 7, 8, 9, 10, 5, 11, 12, 13] (Turned O₀ W) (by kernel_rfl) (by kernel_rfl) (fun _ _ d _ _ h => by cases d <;> exact h) KD.out (fun _ => ?_)
      repeat (refine pq rfl rfl ?_; go_big_quiet_step (fail); refine wpQuiet_nil ?_)
      refine pl rfl rfl ?_
      gi_wp2_with (fail)
      refine ⟨trivial, ?_⟩
      refine (callsIn_wide.2 (cmp_i _ lo nk (1) (by rw [H1L.out, H2L.out]; rfl))).mono ?_
      rintro e w' ⟨rfl, rfl⟩
      gi_wp2_with (fail)
      refine ⟨Wd.mem KD.out, ?_⟩
      repeat (refine pq rfl rfl ?_; go_big_quiet_step (fail); refine wpQuiet_nil ?_)
      refine pl rfl rfl ?_
      gi_wp2_with (fail)
      refine ⟨trivial, ?_⟩
      refine (callsIn_wide.2 (cmp_i _ nk hi (1) (by rw [H3L.out, H4L.out]; rfl))).mono ?_
      rintro e w' ⟨rfl, rfl⟩
      gi_wp2_with (fail)
      refine ⟨Wd.mem KD.out, ?_⟩
      repeat (refine pq rfl rfl ?_; go_big_quiet_step (fail); refine wpQuiet_nil ?_)
      refine perm_nil ?_
      have T5 := Lib.hid (KD.out.sub (Turned.drewN O A.drew 1) HO.out)
      have J5 : Hid (J O (pre) (A.drew).drew) := Lib.hid (gJ.out.abides _ _ _ _ HJ.out (Turned.drewN _ (A.drew) 1))
      gi_wp2_with (fail)
      refine ⟨trivial, ?_⟩
      gi_wp2_with (fail)
      refine region_held [0, 1, 2, 3, 4, 5, 6, 7, 8, 9, 10, 11, 12, 13, 14, 15, 16, 17, 18] (Turned O₀ W) (by kernel_rfl) (by kernel_rfl) (fun _ _ d _ _ h => by cases d <;> exact h) T5.out (fun _ => ?_)
      repeat (refine pq rfl rfl ?_; go_big_quiet_step (fail); refine wpQuiet_nil ?_)
      refine ps rfl rfl rfl (Wd.mem T5.out) ?_
      go_big_quiet_skip
      refine wpQuiet_nil ?_
      repeat (refine pq rfl rfl ?_; go_big_quiet_step (fail); refine wpQuiet_nil ?_)
      refine perm_nil ?_
      have cw3 : (A.drew).drew.cell? ⟨b, 3, none⟩ = some q2 := C3.out (A.drew).drew T5.out
      gi_wp2_with (fail)
      refine ⟨trivial, ?_⟩
      gi_wp2
      go_ret
      exact ⟨O, HO.out, T5.out, .inl ⟨rfl, by have := J5.out; rw [HB.out]; simpa using this⟩⟩
    | false =>
      have HB : Hid (between ltI (Tr.node tl nk nv tr).list lo hi = []) := Lib.hid (by
        have h := between_cut (lt := ltI) (xs := tl.list) (ys := tr.list) (n := (nk, nv)) (lo := lo) (hi := hi)
        rw [show (Tr.node tl nk nv tr).list = tl.list ++ (nk, nv) :: tr.list from rfl, h]
        rw [between_low_nil linI (n := (nk, nv)) CUT.out.2.2.1 h1]
        rw [between_high_nil linI (n := (nk, nv)) CUT.out.2.2.2 h3]
        simp [h2, h4])
      have HX : Hid (xs = pre ++ (([]) ++ rest)) := Lib.hid (by rw [hx, HB.out])
      have H1L := Lib.hid h1
      have H2L := Lib.hid h2
      have H3L := Lib.hid h3
      have H4L := Lib.hid h4
      clear h1 h2 h3 h4 hx
      refine (callsIn_wide (n := 10)).1 ?_
      refine callsIn_of_wp Try.func41 rfl trivial ?_ rfl
      simp only [Try.ntmps41, List.size_toArray, List.length_cons, List.length_nil, Nat.reduceAdd, Nat.reduceSub, Array.replicate_succ, Array.replicate_zero, List.push_toArray, List.append_toArray, List.nil_append, List.cons_append]
      gi_wp2_with (fail)
      refine region_held [0, 1, 2, 3, 4, 6, 7, 8, 9, 10, 5, 11, 12, 13] (Turned O₀ W) (by kernel_rfl) (by kernel_rfl) (fun _ _ d _ _ h => by cases d <;> exact h) KD.out (fun _ => ?_)
      repeat (refine pq rfl rfl ?_; go_big_quiet_step (fail); refine wpQuiet_nil ?_)
      refine pl rfl rfl ?_
      gi_wp2_with (fail)
      refine ⟨trivial, ?_⟩
      refine (callsIn_wide.2 (cmp_i _ lo nk (1) (by rw [H1L.out, H2L.out]; rfl))).mono ?_
      rintro e w' ⟨rfl, rfl⟩
      gi_wp2_with (fail)
      refine ⟨Wd.mem KD.out, ?_⟩
      repeat (refine pq rfl rfl ?_; go_big_quiet_step (fail); refine wpQuiet_nil ?_)
      refine pl rfl rfl ?_
      gi_wp2_with (fail)
      refine ⟨trivial, ?_⟩
      refine (callsIn_wide.2 (cmp_i _ nk hi (0) (by rw [H3L.out, H4L.out]; rfl))).mono ?_
      rintro e w' ⟨rfl, rfl⟩
      gi_wp2_with (fail)
      refine ⟨Wd.mem KD.out, ?_⟩
      repeat (refine pq rfl rfl ?_; go_big_quiet_step (fail); refine wpQuiet_nil ?_)
      refine perm_nil ?_
      have T5 := Lib.hid (KD.out.sub (Turned.drewN O A.drew 1) HO.out)
      have J5 : Hid (J O (pre) (A.drew).drew) := Lib.hid (gJ.out.abides _ _ _ _ HJ.out (Turned.drewN _ (A.drew) 1))
      gi_wp2_with (fail)
      refine ⟨trivial, ?_⟩
      gi_wp2_with (fail)
      refine region_held [0, 1, 2, 3, 4, 5, 6, 7, 8, 9, 10, 11, 12, 13, 14, 15, 16, 17, 18] (Turned O₀ W) (by kernel_rfl) (by kernel_rfl) (fun _ _ d _ _ h => by cases d <;> exact h) T5.out (fun _ => ?_)
      repeat (refine pq rfl rfl ?_; go_big_quiet_step (fail); refine wpQuiet_nil ?_)
      refine ps rfl rfl rfl (Wd.mem T5.out) ?_
      go_big_quiet_skip
      refine wpQuiet_nil ?_
      repeat (refine pq rfl rfl ?_; go_big_quiet_step (fail); refine wpQuiet_nil ?_)
      refine perm_nil ?_
      have cw3 : (A.drew).drew.cell? ⟨b, 3, none⟩ = some q2 := C3.out (A.drew).drew T5.out
      gi_wp2_with (fail)
      refine ⟨trivial, ?_⟩
      gi_wp2
      go_ret
      exact ⟨O, HO.out, T5.out, .inl ⟨rfl, by have := J5.out; rw [HB.out]; simpa using this⟩⟩

theorem within_i {w W : World} (hk : Kept w W) {l : Nat} {O₀ : Nat → Prop} {J Jx : Inv (Int × Int)} (gJ : Good J) {xs : List (Int × Int)} (hN : ∀ k, IsNode 71 w k → ¬ O₀ k) (lo hi : Int)
    (hY : ∀ O pre x rest A, xs = pre ++ x :: rest → Turned O₀ W A → Sub O O₀ W.heap.size → J O pre A → YieldAt Fence.wide 9 Try.prog l (enc_i x) A (RoundEnds J Jx O (pre ++ [x]) A)) (t : Tr Int Int) (ha : Asc ltI t.list) : Within w W l O₀ J Jx xs lo hi t := by
  induction t with
  | nil =>
    intro p pre rest O A hp hx hA hO hj
    obtain rfl : p = .pointer none := hp
    have HA := Lib.hid hA
    have HJ := Lib.hid hj
    have HY := Lib.hid hY
    clear hA hj hx hY
    refine (callsIn_wide (n := 10)).1 ?_
    refine callsIn_of_wp Try.func41 rfl trivial ?_ rfl
    simp only [Try.ntmps41, List.size_toArray, List.length_cons, List.length_nil, Nat.reduceAdd, Nat.reduceSub, Array.replicate_succ, Array.replicate_zero, List.push_toArray, List.append_toArray, List.nil_append, List.cons_append]
    gi_wp2_with (fail)
    go_ret
    exact ⟨O, hO, HA.out, .inl ⟨rfl, by simpa [Tr.list, between] using HJ.out⟩⟩
  | node tl nk nv tr ihl ihr =>
    have CUT := asc_cut (show Asc ltI (tl.list ++ (nk, nv) :: tr.list) from ha)
    have IHL := Lib.hid (ihl CUT.1)
    have IHR := Lib.hid (ihr CUT.2.1)
    cases h1 : ltI lo nk with
    | true => exact withinA (Lib.hid hk) (Lib.hid gJ) (Lib.hid hN) lo hi (Lib.hid hY) tl tr nk nv IHL IHR (Lib.hid CUT) h1
    | false =>
      cases h2 : ltI nk lo with
      | true => exact withinC (Lib.hid hk) (Lib.hid gJ) (Lib.hid hN) lo hi (Lib.hid hY) tl tr nk nv IHL IHR (Lib.hid CUT) h1 h2
      | false => exact withinB (Lib.hid hk) (Lib.hid gJ) (Lib.hid hN) lo hi (Lib.hid hY) tl tr nk nv IHL IHR (Lib.hid CUT) h1 h2

/-- (*Map).Range: the pointer and the two keys are boxed; the function captures the boxes. -/
theorem range_i (b : Nat) (lo hi : Int) (w : World) :
    Calls Try.prog 16 #[.pointer (some ⟨b, 0, none⟩), .int .i64 lo, .int .i64 hi] w fun e w' => e = .returned (.func (.func 40) #[] #[.pointer (some ⟨w.heap.size, 0, none⟩), .pointer (some ⟨w.heap.size + 1, 0, none⟩), .pointer (some ⟨w.heap.size + 2, 0, none⟩)]) ∧ w' = ((w.alloc (.cells #[.pointer (some ⟨b, 0, none⟩)] 23)).alloc (.cells #[.int .i64 lo] 2)).alloc (.cells #[.int .i64 hi] 2) := by
  go_enter Try.func16, Try.ntmps16
  go_wp2
  go_ret
  exact ⟨rfl, rfl⟩

/-- Range's closure. -/
theorem range1_i (w W : World) (hk : Kept w W) (b B C D : Nat) (lo hi : Int) (xs : List (Int × Int)) (hB : Boxed w B 23 (.pointer (some ⟨b, 0, none⟩))) (hC : Boxed w C 2 (.int .i64 lo)) (hD : Boxed w D 2 (.int .i64 hi)) (h : Mp_i w b xs) :
    Iter Try.prog 40 #[.pointer (some ⟨B, 0, none⟩), .pointer (some ⟨C, 0, none⟩), .pointer (some ⟨D, 0, none⟩)] enc_i (between ltI xs lo hi) (fun k => k = C ∨ k = D ∨ Reads_i w B b k) W := by
  intro l O₀ J Jx hR gJ gJx hY h0
  obtain ⟨t, p, hb, hl, rfl, ha⟩ := h
  have nB : ¬ O₀ B := hR B (.inr (.inr (.inl rfl)))
  have nb : ¬ O₀ b := hR b (.inr (.inr (.inr (.inl rfl))))
  have nC : ¬ O₀ C := hR C (.inl rfl)
  have nD : ¬ O₀ D := hR D (.inr (.inl rfl))
  have cB : ∀ x : Wd (Turned O₀ W), x.w.cell? ⟨B, 0, none⟩ = some (.pointer (some ⟨b, 0, none⟩)) := fun x => ((hk.then x.ok).boxed hB nB).cell
  have cC : ∀ x : Wd (Turned O₀ W), x.w.cell? ⟨C, 0, none⟩ = some (.int .i64 lo) := fun x => ((hk.then x.ok).boxed hC nC).cell
  have cD : ∀ x : Wd (Turned O₀ W), x.w.cell? ⟨D, 0, none⟩ = some (.int .i64 hi) := fun x => ((hk.then x.ok).boxed hD nD).cell
  have cb : ∀ x : Wd (Turned O₀ W), x.w.cell? ⟨b, 0, none⟩ = some p := fun x => (hb.turned (hk.then x.ok) nb).cells.1
  have KD : Hid (Turned O₀ W W.drew) := Lib.hid (Turned.drewN O₀ W 1)
  have hrise := within_i hk (l := l) gJ (xs := between ltI t.list lo hi) (fun k hn => hR k (.inr (.inr (.inr (.inr hn))))) lo hi hY t ha p [] [] O₀ W.drew hl (by simp) (Turned.drewN O₀ W 1) (Sub.refl _ _) (gJ.abides _ _ _ _ h0 (Turned.drewN _ W 1))
  have HR := Lib.hid hrise
  clear hrise hY hR h0 hB hC hD hb hl hk nB nb nC nD
  refine (callsIn_wide (n := 10)).1 ?_
  refine callsIn_of_wp Try.func40 rfl trivial ?_ rfl
  simp only [Try.ntmps40, List.size_toArray, List.length_cons, List.length_nil, Nat.reduceAdd, Nat.reduceSub, Array.replicate_succ, Array.replicate_zero, List.push_toArray, List.append_toArray, List.nil_append, List.cons_append]
  gi_wp2_with (fail)
  refine region_held [0, 1, 2, 3, 4, 5, 6, 7] (Turned O₀ W) (by kernel_rfl) (by kernel_rfl) (fun _ _ d _ _ h => by cases d <;> exact h) KD.out (fun _ => ?_)
  repeat (refine pq rfl rfl ?_; go_big_quiet_step (fail); refine wpQuiet_nil ?_)
  refine pl rfl rfl ?_
  gi_wp2_with (fail)
  refine ⟨trivial, ?_⟩
  refine (callsIn_wide.2 HR.out).mono ?_
  rintro e A' ⟨O', s', t', hj⟩
  rcases hj with ⟨rfl, j⟩ | ⟨rfl, pp, rr, hx, j⟩
  · have HJ := Lib.hid j
    clear j
    gi_wp2
    refine ⟨Wd.mem t', ?_⟩
    refine perm_nil ?_
    gi_wp2
    go_end0
    exact ⟨⟨_, rfl⟩, O', s', t', .inl HJ.out⟩
  · have HJ := Lib.hid j
    have HX := Lib.hid hx
    clear j hx
    gi_wp2
    refine ⟨Wd.mem t', ?_⟩
    refine perm_nil ?_
    gi_wp2
    go_end0
    exact ⟨⟨_, rfl⟩, O', s', t', .inr ⟨pp, rr, HX.out, HJ.out⟩⟩
end Go.Proofs.Ytfckphcbleodbaa
