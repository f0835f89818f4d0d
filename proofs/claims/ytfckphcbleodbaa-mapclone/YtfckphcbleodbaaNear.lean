/-
  package omap at int64: what told, Floor, Ceiling and Clone answer, and what they turn.
-/
import Derived.Test.YtfckphcbleodbaaDel
namespace Go.Proofs.Ytfckphcbleodbaa
open Go.RowKit Go.Shelf

/-- cmp.Less -/
theorem less_i (w : World) (a b : Int) : Calls Try.prog 35 #[.int .i64 a, .int .i64 b] w fun e w' => e = .returned (.bool (ltI a b)) ∧ w = w' := by
  unfold ltI
  go_enter Try.func35, Try.ntmps35
  go_wp2
  go_ret
  exact ⟨rfl, rfl⟩

/-- A pointer to a node of this pair, or none. -/
def Best (w : World) (p : Value) : Option (Int × Int) → Prop
  | none => p = .pointer none
  | some x => ∃ b q1 q2 h, p = .pointer (some ⟨b, 0, none⟩) ∧ NodeAt 71 w b (.int .i64 x.1) (.int .i64 x.2) q1 q2 h

/-- What Floor and Ceiling answer. -/
abbrev near (o : Option (Int × Int)) : Value := .tuple #[.int .i64 (o.getD (0, 0)).1, .int .i64 (o.getD (0, 0)).2, .bool o.isSome]

theorem told_i (w : World) (p : Value) (o : Option (Int × Int)) (h : Best w p o) : Calls Try.prog 36 #[p] w fun e w' => e = .returned (near o) ∧ ∃ n, w' = w.drewN n := by
  cases o with
  | none =>
    obtain rfl : p = .pointer none := h
    go_enter Try.func36, Try.ntmps36
    go_wp2
    refine bodyPost_ret (results_tmp3 rfl _ _ _) rfl ?_
    exact ⟨rfl, 0, rfl⟩
  | some x =>
    obtain ⟨b, q1, q2, h', rfl, hn⟩ := h
    obtain ⟨c0, c1, _⟩ := hn.cells
    clear hn
    go_enter Try.func36, Try.ntmps36
    go_wp2
    go_quiet (fail)
    go_wp2
    refine bodyPost_ret (results_tmp3 rfl _ _ _) rfl ?_
    exact ⟨rfl, _, rfl⟩

theorem floor_i (w : World) (b : Nat) (xs : List (Int × Int)) (h : Mp_i w b xs) (k : Int) :
    Calls Try.prog 15 #[.pointer (some ⟨b, 0, none⟩), .int .i64 k] w fun e w' => e = .returned (near (floor ltI xs k)) ∧ ∃ n, w' = w.drewN n := by
  obtain ⟨t, p, hb, hl, ht, ha⟩ := h
  have c0 := hb.cells.1
  obtain ⟨g, hg⟩ : ∃ g, floor ltI xs k = g := ⟨_, rfl⟩
  rw [hg]
  have HL := Lib.hid hl
  have HG : Hid (floor ltI t.list k = g) := Lib.hid (by rw [ht]; exact hg)
  have HA : Hid (Asc ltI t.list) := Lib.hid (by rw [ht]; exact ha)
  clear hb hl ht ha hg
  go_enter Try.func15, Try.ntmps15
  go_wp2
  go_loopw [7, 8] (fun u n wr => ∃ t' o d, Hid (Lies 71 (Value.int .i64) (Value.int .i64) w t' n) ∧ Hid (Best w u o) ∧ Hid ((match floor ltI t'.list k with | some y => some y | none => o) = g) ∧ Hid (Asc ltI t'.list) ∧ wr = w.drewN d) (fun _ n wr => tallOf wr n)
  case atStart => exact ⟨t, none, 0, HL, Lib.hid rfl, Lib.hid (by rw [HG.out]; cases g <;> rfl), HA, rfl⟩
  case round =>
    obtain ⟨t', o, d, hl', ho', hg', ha', rfl⟩ := hrel
    cases t' with
    | nil =>
      obtain rfl : _ = Value.pointer none := hl'.out
      have e := hg'.out
      simp only [Tr.list, floor] at e
      subst e
      go_wp2_with (fail)
      refine (told_i _ _ o ?_).mono ?_
      · have := ho'.out
        cases o with
        | none => exact this
        | some x => exact this
      rintro e w' ⟨rfl, m, rfl⟩
      go_wp2
      refine bodyPost_ret (results_tmp3 rfl _ _ _) rfl ?_
      exact ⟨rfl, d + m, by simp⟩
    | node l nk nv r =>
      obtain ⟨nb, q1, q2, rfl, hn, h1, h2⟩ := hl'.out
      obtain ⟨d0, d1, d2, d3, _⟩ := hn.cells
      have M0 := Lib.hid (tallOf_lies hl'.out)
      have M1 := Lib.hid (tallOf_lies h1)
      have M2 := Lib.hid (tallOf_lies h2)
      have HN := Lib.hid hn
      have HCUT := Lib.hid (asc_cut (show Asc ltI (l.list ++ (nk, nv) :: r.list) from ha'.out))
      have HG' : Hid ((match floor ltI (l.list ++ (nk, nv) :: r.list) k with | some y => some y | none => o) = g) := hg'
      have H1 := Lib.hid h1
      have H2 := Lib.hid h2
      clear hn h1 h2 hl' hg' ha'
      cases hlt : ltI k nk with
      | true =>
        have HLT := Lib.hid hlt
        clear hlt
        go_wp2_with (fail)
        refine (less_i _ k nk).mono ?_
        rintro e w' ⟨rfl, rfl⟩
        rw [HLT.out]
        go_wp2
        exact ⟨⟨l, o, d, H1, ho', Lib.hid (by rw [← HG'.out, floor_low HLT.out]), Lib.hid HCUT.out.1, rfl⟩, by rw [tallOf_drewN, tallOf_drewN, M0.out, M1.out]; simp only [Tr.ht]; omega⟩
      | false =>
        have HLT := Lib.hid hlt
        clear hlt
        go_wp2_with (fail)
        refine (less_i _ k nk).mono ?_
        rintro e w' ⟨rfl, rfl⟩
        rw [HLT.out]
        go_wp2
        go_quiet (fail)
        go_wp2
        exact ⟨⟨r, some (nk, nv), d + nq, H2, Lib.hid ⟨nb, _, _, _, rfl, HN.out⟩, Lib.hid (by rw [← HG'.out, floor_high linI HLT.out HCUT.out.2.2.1]; cases floor ltI r.list k <;> rfl), Lib.hid HCUT.out.2.1, by simp⟩, by rw [tallOf_drewN, tallOf_drewN, tallOf_drewN, M0.out, M2.out]; simp only [Tr.ht]; omega⟩

theorem ceil_i (w : World) (b : Nat) (xs : List (Int × Int)) (h : Mp_i w b xs) (k : Int) :
    Calls Try.prog 12 #[.pointer (some ⟨b, 0, none⟩), .int .i64 k] w fun e w' => e = .returned (near (ceil ltI xs k)) ∧ ∃ n, w' = w.drewN n := by
  obtain ⟨t, p, hb, hl, ht, ha⟩ := h
  have c0 := hb.cells.1
  obtain ⟨g, hg⟩ : ∃ g, ceil ltI xs k = g := ⟨_, rfl⟩
  rw [hg]
  have HL := Lib.hid hl
  have HG : Hid (ceil ltI t.list k = g) := Lib.hid (by rw [ht]; exact hg)
  have HA : Hid (Asc ltI t.list) := Lib.hid (by rw [ht]; exact ha)
  clear hb hl ht ha hg
  go_enter Try.func12, Try.ntmps12
  go_wp2
  go_loopw [7, 8] (fun u n wr => ∃ t' o d, Hid (Lies 71 (Value.int .i64) (Value.int .i64) w t' n) ∧ Hid (Best w u o) ∧ Hid ((match ceil ltI t'.list k with | some y => some y | none => o) = g) ∧ Hid (Asc ltI t'.list) ∧ wr = w.drewN d) (fun _ n wr => tallOf wr n)
  case atStart => exact ⟨t, none, 0, HL, Lib.hid rfl, Lib.hid (by rw [HG.out]; cases g <;> rfl), HA, rfl⟩
  case round =>
    obtain ⟨t', o, d, hl', ho', hg', ha', rfl⟩ := hrel
    cases t' with
    | nil =>
      obtain rfl : _ = Value.pointer none := hl'.out
      have e := hg'.out
      simp only [Tr.list, ceil] at e
      subst e
      go_wp2_with (fail)
      refine (told_i _ _ o ?_).mono ?_
      · have := ho'.out
        cases o with
        | none => exact this
        | some x => exact this
      rintro e w' ⟨rfl, m, rfl⟩
      go_wp2
      refine bodyPost_ret (results_tmp3 rfl _ _ _) rfl ?_
      exact ⟨rfl, d + m, by simp⟩
    | node l nk nv r =>
      obtain ⟨nb, q1, q2, rfl, hn, h1, h2⟩ := hl'.out
      obtain ⟨d0, d1, d2, d3, _⟩ := hn.cells
      have M0 := Lib.hid (tallOf_lies hl'.out)
      have M1 := Lib.hid (tallOf_lies h1)
      have M2 := Lib.hid (tallOf_lies h2)
      have HN := Lib.hid hn
      have HCUT := Lib.hid (asc_cut (show Asc ltI (l.list ++ (nk, nv) :: r.list) from ha'.out))
      have HG' : Hid ((match ceil ltI (l.list ++ (nk, nv) :: r.list) k with | some y => some y | none => o) = g) := hg'
      have H1 := Lib.hid h1
      have H2 := Lib.hid h2
      clear hn h1 h2 hl' hg' ha'
      cases hlt : ltI nk k with
      | true =>
        have HLT := Lib.hid hlt
        clear hlt
        go_wp2_with (fail)
        refine (less_i _ nk k).mono ?_
        rintro e w' ⟨rfl, rfl⟩
        rw [HLT.out]
        go_wp2
        exact ⟨⟨r, o, d, H2, ho', Lib.hid (by rw [← HG'.out, ceil_high linI HLT.out HCUT.out.2.2.1]), Lib.hid HCUT.out.2.1, rfl⟩, by rw [tallOf_drewN, tallOf_drewN, M0.out, M2.out]; simp only [Tr.ht]; omega⟩
      | false =>
        have HLT := Lib.hid hlt
        clear hlt
        go_wp2_with (fail)
        refine (less_i _ nk k).mono ?_
        rintro e w' ⟨rfl, rfl⟩
        rw [HLT.out]
        go_wp2
        go_quiet (fail)
        go_wp2
        exact ⟨⟨l, some (nk, nv), d + nq, H1, Lib.hid ⟨nb, _, _, _, rfl, HN.out⟩, Lib.hid (by rw [← HG'.out, ceil_low HLT.out]; cases ceil ltI l.list k <;> rfl), Lib.hid HCUT.out.1, by simp⟩, by rw [tallOf_drewN, tallOf_drewN, tallOf_drewN, M0.out, M1.out]; simp only [Tr.ht]; omega⟩

/-- (*Map).Clone: another box, the same nodes. -/
theorem clone_i (w : World) (b : Nat) (xs : List (Int × Int)) (h : Mp_i w b xs) :
    Calls Try.prog 29 #[.pointer (some ⟨b, 0, none⟩)] w fun e w' => e = .returned (.pointer (some ⟨w.heap.size, 0, none⟩)) ∧ Mp_i w' w.heap.size xs ∧ Kept w w' ∧ w'.heap.size = w.heap.size + 1 := by
  obtain ⟨t, p, hb, hl, ht, ha⟩ := h
  obtain ⟨ap, rfl⟩ := hl.pointer
  have c0 : ∀ x : Wd (Kept w), x.w.cell? ⟨b, 0, none⟩ = some (.pointer ap) := fun x => (hb.kept x.ok).cells.1
  have c1 : ∀ x : Wd (Kept w), x.w.cell? ⟨b, 1, none⟩ = some (.int .i64 (xs.length : Int)) := fun x => (hb.kept x.ok).cells.2
  have kd := Lib.hid (Kept.drew w)
  have HL := Lib.hid hl
  have HT := Lib.hid ht
  have HA := Lib.hid ha
  clear hb hl ht ha
  refine (callsIn_wide (n := 10)).1 ?_
  refine callsIn_of_wp Try.func29 rfl trivial ?_ rfl
  simp only [Try.ntmps29, List.size_toArray, List.length_cons, List.length_nil, Nat.reduceAdd, Nat.reduceSub, Array.replicate_succ, Array.replicate_zero, List.push_toArray, List.append_toArray, List.nil_append, List.cons_append]
  gi_wp2_with (fail)
  refine region_held [0, 1, 2, 3, 4, 5, 6, 7, 8, 9, 10] (Kept w) (by kernel_rfl) (by kernel_rfl) (fun _ _ d _ _ h => by cases d <;> exact h) kd.out (fun _ => ?_)
  repeat (refine pq rfl rfl ?_; go_big_quiet_step (fail); refine wpQuiet_nil ?_)
  refine pl rfl rfl ?_
  gi_wp2
  refine ⟨Wd.mem (kd.out.trans (Turned.alloc _ _ _)), ?_⟩
  repeat (refine pq rfl rfl ?_; go_big_quiet_step (fail); refine wpQuiet_nil ?_)
  refine perm_nil ?_
  gi_wp2
  go_ret
  have ka : Kept w (w.alloc (.cells #[.pointer ap, .int .i64 (xs.length : Int)] 26)).drew := (Turned.alloc _ w _).trans (Kept.drew _) (fun _ e => e) (fun _ _ e => e)
  exact ⟨rfl, ⟨t, _, World.alloc_heap_new w _, HL.out.kept ka, HT.out, HA.out⟩, ka, by simp⟩
end Go.Proofs.Ytfckphcbleodbaa
