/-
  package omap at int64: what fall promises of its rounds, and Backward's closure as an iterator ('Iter').
-/
import Derived.Test.YtfckphcbleodbaaRise
namespace Go.Proofs.Ytfckphcbleodbaa
open Go.RowKit Go.Shelf

attribute [local go_sem] Oper.semAt_some

theorem fall_i {w W : World} (hk : Kept w W) {l : Nat} {O₀ : Nat → Prop} {J Jx : Inv (Int × Int)} (gJ : Good J) {xs : List (Int × Int)} (hN : ∀ k, IsNode 71 w k → ¬ O₀ k)
    (hY : ∀ O pre x rest A, xs = pre ++ x :: rest → Turned O₀ W A → Sub O O₀ W.heap.size → J O pre A → YieldAt Fence.wide 9 Try.prog l (enc_i x) A (RoundEnds J Jx O (pre ++ [x]) A)) (t : Tr Int Int) :
    ∀ (p : Value) (pre rest : List (Int × Int)) (O : Nat → Prop) (A : World), Lies 71 (Value.int .i64) (Value.int .i64) w t p → xs = pre ++ (t.list.reverse ++ rest) → Turned O₀ W A → Sub O O₀ W.heap.size → J O pre A →
    Calls Try.prog 54 #[p, .func (.yield l) #[] #[]] A (Rose_i J Jx O₀ W xs (pre ++ t.list.reverse)) := by
  have HY := Lib.hid hY
  have HN := Lib.hid hN
  clear hY hN
  induction t with
  | nil =>
    intro p pre rest O A hp hx hA hO hj
    obtain rfl : p = .pointer none := hp
    have KD := Lib.hid (hA.sub (Turned.drewN O A 1) hO)
    have HJ : Hid (J O pre A.drew) := Lib.hid (gJ.abides _ _ _ _ hj (Turned.drewN _ A 1))
    have HO := Lib.hid hO
    clear hx hA hO hj
    refine (callsIn_wide (n := 10)).1 ?_
    refine callsIn_of_wp Try.func54 rfl trivial ?_ rfl
    simp only [Try.ntmps54, List.size_toArray, List.length_cons, List.length_nil, Nat.reduceAdd, Nat.reduceSub, Array.replicate_succ, Array.replicate_zero, List.push_toArray, List.append_toArray, List.nil_append, List.cons_append]
    gi_wp2_with (fail)
    refine region_held [0, 1, 2, 3, 4, 5, 6, 7, 8, 9, 10, 11, 12, 13, 14, 15, 16, 17, 18, 19, 20, 21, 22, 23, 24, 25, 26, 27, 28, 29, 30] (Turned O₀ W) (by kernel_rfl) (by kernel_rfl) (fun _ _ d _ _ h => by cases d <;> exact h) KD.out (fun _ => ?_)
    repeat (refine pq rfl rfl ?_; go_big_quiet_step (fail); refine wpQuiet_nil ?_)
    refine ps rfl rfl rfl (Wd.mem KD.out) ?_
    go_big_quiet_skip
    refine wpQuiet_nil ?_
    repeat (refine pq rfl rfl ?_; go_big_quiet_step (fail); refine wpQuiet_nil ?_)
    refine ps rfl rfl rfl (Wd.mem KD.out) ?_
    go_big_quiet_skip
    refine wpQuiet_nil ?_
    repeat (refine pq rfl rfl ?_; go_big_quiet_step (fail); refine wpQuiet_nil ?_)
    refine ps rfl rfl rfl (Wd.mem KD.out) ?_
    go_big_quiet_skip
    refine wpQuiet_nil ?_
    repeat (refine pq rfl rfl ?_; go_big_quiet_step (fail); refine wpQuiet_nil ?_)
    refine perm_nil ?_
    gi_wp2
    go_ret
    exact ⟨O, HO.out, KD.out, .inl ⟨rfl, by simpa [Tr.list] using HJ.out⟩⟩
  | node tl nk nv tr ihl ihr =>
    intro p pre rest O A hp hx hA hO hj
    obtain ⟨b, q1, q2, rfl, hn, h1, h2⟩ := hp
    have hb : ¬ O₀ b := HN.out b hn.is
    have c0 : ∀ x : Wd (Turned O₀ W), x.w.cell? ⟨b, 0, none⟩ = some (.int .i64 nk) := fun x => (hn.turned (hk.then x.ok) hb).cells.1
    have c1 : ∀ x : Wd (Turned O₀ W), x.w.cell? ⟨b, 1, none⟩ = some (.int .i64 nv) := fun x => (hn.turned (hk.then x.ok) hb).cells.2.1
    have c2 : ∀ x : Wd (Turned O₀ W), x.w.cell? ⟨b, 2, none⟩ = some q1 := fun x => (hn.turned (hk.then x.ok) hb).cells.2.2.1
    have c3 : ∀ x : Wd (Turned O₀ W), x.w.cell? ⟨b, 3, none⟩ = some q2 := fun x => (hn.turned (hk.then x.ok) hb).cells.2.2.2.1
    have KD := Lib.hid (hA.sub (Turned.drewN O A 1) hO)
    have HJ : Hid (J O pre A.drew) := Lib.hid (gJ.abides _ _ _ _ hj (Turned.drewN _ A 1))
    have HO := Lib.hid hO
    have HX : Hid (xs = pre ++ (tr.list.reverse ++ (nk, nv) :: (tl.list.reverse ++ rest))) := Lib.hid (by rw [hx]; simp [Tr.list])
    have IHL := Lib.hid ihl
    have IHR := Lib.hid ihr
    have H1 := Lib.hid h1
    have H2 := Lib.hid h2
    have HK := Lib.hid hk
    have GJ := Lib.hid gJ
    clear hx hA hO hj hn h1 h2 hb ihl ihr hk
    refine (callsIn_wide (n := 10)).1 ?_
    refine callsIn_of_wp Try.func54 rfl trivial ?_ rfl
    simp only [Try.ntmps54, List.size_toArray, List.length_cons, List.length_nil, Nat.reduceAdd, Nat.reduceSub, Array.replicate_succ, Array.replicate_zero, List.push_toArray, List.append_toArray, List.nil_append, List.cons_append]
    gi_wp2_with (fail)
    refine region_held [0, 1, 2, 3, 4, 5, 6, 7, 8, 9, 10, 11, 12, 13, 14, 15, 16, 17, 18, 19, 20, 21, 22, 23, 24, 25, 26, 27, 28, 29, 30] (Turned O₀ W) (by kernel_rfl) (by kernel_rfl) (fun _ _ d _ _ h => by cases d <;> exact h) KD.out (fun _ => ?_)
    repeat (refine pq rfl rfl ?_; go_big_quiet_step (fail); refine wpQuiet_nil ?_)
    refine pl rfl rfl ?_
    gi_wp2_with (fail)
    refine ⟨trivial, ?_⟩
    refine (callsIn_wide.2 (IHR.out _ pre ((nk, nv) :: (tl.list.reverse ++ rest)) O _ H2.out HX.out KD.out HO.out HJ.out)).mono ?_
    rintro e A1 ⟨O1, s1, t1, ⟨rfl, j1⟩ | ⟨rfl, x1⟩⟩
    · have T1 := Lib.hid t1
      obtain ⟨fn, tmps, assign, body, hy, hRd⟩ := HY.out O1 (pre ++ tr.list.reverse) (nk, nv) (tl.list.reverse ++ rest) A1 (by rw [HX.out]; simp) t1 s1 j1
      change (Instr.yield l #[(.int .i64 nk), (.int .i64 nv)]).run Try.prog A1 = _ at hy
      have S1 := Lib.hid s1
      clear t1 s1 j1
      gi_wp2
      refine ⟨Wd.mem T1.out, ?_⟩
      repeat (refine pq rfl rfl ?_; go_big_quiet_step (fail); refine wpQuiet_nil ?_)
      refine pl rfl rfl ?_
      gi_wp2_with (fail)
      refine hRd.mono ?_
      rintro e A2 ⟨O2, s2, t2, ⟨rfl, j2⟩ | ⟨rfl, x2⟩⟩
      · have T2 := Lib.hid (T1.out.sub t2 S1.out)
        have S2 := Lib.hid (s2.trans S1.out T1.out.size)
        have J2 := Lib.hid j2
        clear s2 t2 j2
        gi_wp2
        refine ⟨Wd.mem T2.out, ?_⟩
        repeat (refine pq rfl rfl ?_; go_big_quiet_step (fail); refine wpQuiet_nil ?_)
        refine pl rfl rfl ?_
        gi_wp2_with (fail)
        refine ⟨trivial, ?_⟩
        refine (callsIn_wide.2 (IHL.out _ (pre ++ tr.list.reverse ++ [(nk, nv)]) rest O2 _ H1.out (by rw [HX.out]; simp) T2.out S2.out J2.out)).mono ?_
        rintro e A3 ⟨O3, s3, t3, ⟨rfl, j3⟩ | ⟨rfl, x3⟩⟩
        · have T3 := Lib.hid t3
          have J3 := Lib.hid j3
          clear t3 j3
          gi_wp2
          refine ⟨Wd.mem T3.out, ?_⟩
          repeat (refine pq rfl rfl ?_; go_big_quiet_step (fail); refine wpQuiet_nil ?_)
          refine perm_nil ?_
          gi_wp2
          go_ret
          exact ⟨O3, s3, T3.out, .inl ⟨rfl, by have := J3.out; simpa [Tr.list] using this⟩⟩
        · have T3 := Lib.hid t3
          have X3 := Lib.hid x3
          clear t3 x3
          gi_wp2
          refine ⟨Wd.mem T3.out, ?_⟩
          repeat (refine pq rfl rfl ?_; go_big_quiet_step (fail); refine wpQuiet_nil ?_)
          refine perm_nil ?_
          gi_wp2
          go_ret
          exact ⟨O3, s3, T3.out, .inr ⟨rfl, X3.out⟩⟩
      · have T2 := Lib.hid (T1.out.sub t2 S1.out)
        have S2 := Lib.hid (s2.trans S1.out T1.out.size)
        have X2 := Lib.hid x2
        clear s2 t2 x2
        gi_wp2
        refine ⟨Wd.mem T2.out, ?_⟩
        repeat (refine pq rfl rfl ?_; go_big_quiet_step (fail); refine wpQuiet_nil ?_)
        refine ps rfl rfl rfl (Wd.mem T2.out) ?_
        go_big_quiet_skip
        refine wpQuiet_nil ?_
        repeat (refine pq rfl rfl ?_; go_big_quiet_step (fail); refine wpQuiet_nil ?_)
        refine perm_nil ?_
        gi_wp2
        go_ret
        exact ⟨O2, S2.out, T2.out, .inr ⟨rfl, _, tl.list.reverse ++ rest, by rw [HX.out]; simp, X2.out⟩⟩
    · have T1 := Lib.hid t1
      have X1 := Lib.hid x1
      clear t1 x1
      gi_wp2
      refine ⟨Wd.mem T1.out, ?_⟩
      repeat (refine pq rfl rfl ?_; go_big_quiet_step (fail); refine wpQuiet_nil ?_)
      refine ps rfl rfl rfl (Wd.mem T1.out) ?_
      go_big_quiet_skip
      refine wpQuiet_nil ?_
      repeat (refine pq rfl rfl ?_; go_big_quiet_step (fail); refine wpQuiet_nil ?_)
      refine ps rfl rfl rfl (Wd.mem T1.out) ?_
      go_big_quiet_skip
      refine wpQuiet_nil ?_
      repeat (refine pq rfl rfl ?_; go_big_quiet_step (fail); refine wpQuiet_nil ?_)
      refine perm_nil ?_
      gi_wp2
      go_ret
      exact ⟨O1, s1, T1.out, .inr ⟨rfl, X1.out⟩⟩
/-- (*Map).Backward: the pointer is boxed; the function captures the box. -/
theorem backward_i (b : Nat) (w : World) :
    Calls Try.prog 44 #[.pointer (some ⟨b, 0, none⟩)] w fun e w' => e = .returned (.func (.func 53) #[] #[.pointer (some ⟨w.heap.size, 0, none⟩)]) ∧ w' = w.alloc (.cells #[.pointer (some ⟨b, 0, none⟩)] 23) := by
  go_enter Try.func44, Try.ntmps44
  go_wp2
  go_ret
  exact ⟨rfl, rfl⟩

/-- Backward's closure. -/
theorem backward1_i (w W : World) (hk : Kept w W) (b B : Nat) (xs : List (Int × Int)) (hB : Boxed w B 23 (.pointer (some ⟨b, 0, none⟩))) (h : Mp_i w b xs) :
    Iter Try.prog 53 #[.pointer (some ⟨B, 0, none⟩)] enc_i xs.reverse (Reads_i w B b) W := by
  intro l O₀ J Jx hR gJ gJx hY h0
  obtain ⟨t, p, hb, hl, rfl, _⟩ := h
  have hcB := (hk.boxed hB id).cell
  have hcb := (hb.kept hk).cells.1
  have hrise := fall_i hk (l := l) gJ (xs := t.list.reverse) (fun k hn => hR k (.inr (.inr hn))) hY t p [] [] O₀ W hl (by simp) (Turned.refl _ _) (Sub.refl _ _) h0
  have HR := Lib.hid hrise
  clear hrise hY hR h0 hB hb hl hk
  refine (callsIn_wide (n := 10)).1 ?_
  refine callsIn_of_wp Try.func53 rfl trivial ?_ rfl
  simp only [Try.ntmps53, List.size_toArray, List.length_cons, List.length_nil, Nat.reduceAdd, Nat.reduceSub, Array.replicate_succ, Array.replicate_zero, List.push_toArray, List.append_toArray, List.nil_append, List.cons_append]
  gi_wp2_with (fail)
  refine ⟨trivial, ?_⟩
  refine (callsIn_wide.2 HR.out).mono ?_
  rintro e A' ⟨O', s', t', hj⟩
  rcases hj with ⟨rfl, j⟩ | ⟨rfl, pp, rr, hx, j⟩
  · have HJ := Lib.hid j
    clear j
    gi_wp2
    go_end0
    exact ⟨⟨_, rfl⟩, O', s', t', .inl HJ.out⟩
  · have HJ := Lib.hid j
    have HX := Lib.hid hx
    clear j hx
    gi_wp2
    go_end0
    exact ⟨⟨_, rfl⟩, O', s', t', .inr ⟨pp, rr, HX.out, HJ.out⟩⟩
end Go.Proofs.Ytfckphcbleodbaa
