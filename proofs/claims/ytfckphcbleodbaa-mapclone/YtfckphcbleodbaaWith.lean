/-
  The nodes of package omap, keys Int, values Int: what cmp.Compare and with answer, at trees as they lie.
-/
import Derived.Test.YtfckphcbleodbaaBal
namespace Go.Proofs.Ytfckphcbleodbaa
open Go.RowKit Go.Shelf

/-- cmp.Compare -/
theorem cmp_i (w : World) (a b z : Int) (hz : z = if ltI a b then -1 else if ltI b a then 1 else 0) :
    Calls Try.prog 34 #[.int .i64 a, .int .i64 b] w fun e w' => e = .returned (.int .i64 z) ∧ w = w' := by
  unfold ltI at hz
  simp only [decide_eq_true_eq] at hz
  rcases Int.lt_trichotomy a b with h | h | h
  · obtain rfl : z = -1 := by rw [hz, if_pos h]
    clear hz
    go_enter Try.func34, Try.ntmps34
    go_wp2
    go_ret
    exact ⟨rfl, rfl⟩
  · subst h
    obtain rfl : z = 0 := by rw [hz, if_neg (Int.lt_irrefl _), if_neg (Int.lt_irrefl _)]
    clear hz
    go_enter Try.func34, Try.ntmps34
    go_wp2
    go_ret
    exact ⟨rfl, rfl⟩
  · obtain rfl : z = 1 := by rw [hz, if_neg (by omega), if_pos h]
    clear hz
    go_enter Try.func34, Try.ntmps34
    go_wp2
    go_ret
    exact ⟨rfl, rfl⟩

theorem with_i (t : Tr Int Int) : ∀ (w : World) (p : Value) (k : Int) (v : Int), Lies 71 (Value.int .i64) (Value.int .i64) w t p → Asc ltI t.list → t.list.length ≤ 10000 →
    Calls Try.prog 39 #[p, (.int .i64 k), (.int .i64 v)] w (Made 71 (Value.int .i64) (Value.int .i64) (put ltI t.list k v) w) := by
  induction t with
  | nil =>
    intro w p k v hp _ _
    obtain rfl : p = .pointer none := hp
    have kd := Lib.hid (Kept.drew w)
    refine (callsIn_wide (n := 10)).1 ?_
    refine callsIn_of_wp Try.func39 rfl trivial ?_ rfl
    simp only [Try.ntmps39, List.size_toArray, List.length_cons, List.length_nil, Nat.reduceAdd, Nat.reduceSub, Array.replicate_succ, Array.replicate_zero, List.push_toArray, List.append_toArray, List.nil_append, List.cons_append]
    gi_wp2_with (fail)
    go_ret
    exact made_of_i (tl := .nil) (tr := .nil) (new0_i w k v _ _ _) rfl rfl (by simp [Tr.ht]) (Turned.alloc _ w _)
  | node l nk nv r ihl ihr =>
    intro w p k v hp ha hl
    obtain ⟨b, q1, q2, rfl, hn, h1, h2⟩ := hp
    rw [Tr.length_node] at hl
    obtain ⟨a1, a2, a3, a4⟩ := asc_cut (show Asc ltI (l.list ++ (nk, nv) :: r.list) from ha)
    have w0 : w.cell? ⟨b, 0, none⟩ = some (.int .i64 nk) := hn.cells.1
    have c2 : ∀ x : Wd (Kept w), x.w.cell? ⟨b, 2, none⟩ = some q1 := fun x => (hn.kept x.ok).cells.2.2.1
    have c3 : ∀ x : Wd (Kept w), x.w.cell? ⟨b, 3, none⟩ = some q2 := fun x => (hn.kept x.ok).cells.2.2.2.1
    have c0 : ∀ x : Wd (Kept w), x.w.cell? ⟨b, 0, none⟩ = some (.int .i64 nk) := fun x => (hn.kept x.ok).cells.1
    have c4 : ∀ x : Wd (Kept w), x.w.cell? ⟨b, 4, none⟩ = some (.int .i64 ((Tr.node l nk nv r).ht : Int)) := fun x => (hn.kept x.ok).cells.2.2.2.2
    have HN := Lib.hid hn
    have HL := Lib.hid hl
    have A1 := Lib.hid a1
    have A2 := Lib.hid a2
    have A3 := Lib.hid a3
    have IHL := Lib.hid ihl
    have IHR := Lib.hid ihr
    clear hn hl ha a1 a2 a3 a4 ihl ihr
    have kd := Lib.hid (Kept.drew w)
    cases hlt : ltI k nk with
    | true =>
      have HLT := Lib.hid hlt
      refine (callsIn_wide (n := 10)).1 ?_
      refine callsIn_of_wp Try.func39 rfl trivial ?_ rfl
      simp only [Try.ntmps39, List.size_toArray, List.length_cons, List.length_nil, Nat.reduceAdd, Nat.reduceSub, Array.replicate_succ, Array.replicate_zero, List.push_toArray, List.append_toArray, List.nil_append, List.cons_append]
      gi_wp2_with (fail)
      refine ⟨trivial, ?_⟩
      refine (callsIn_wide.2 (cmp_i w k nk (-1) (by rw [HLT.out]; rfl))).mono ?_
      rintro e w' ⟨rfl, rfl⟩
      gi_wp2_with (fail)
      refine region_held [0, 1, 2, 3, 4, 5, 6, 8, 9, 10, 11, 7, 12, 13] (Kept w) (by kernel_rfl) (by kernel_rfl) (fun _ _ d _ _ h => by cases d <;> exact h) kd.out (fun _ => ?_)
      repeat (refine pq rfl rfl ?_; go_big_quiet_step (fail); refine wpQuiet_nil ?_)
      refine pl rfl rfl ?_
      gi_wp2_with (fail)
      refine ⟨trivial, ?_⟩
      refine (callsIn_wide.2 (IHL.out _ _ k v (h1.kept kd.out) A1.out (by have := HL.out; omega))).mono ?_
      rintro e w1 ⟨p3, t3, rfl, l3, e3, k3⟩
      gi_wp2_with (fail)
      refine ⟨Wd.mem (kd.out.trans k3), ?_⟩
      repeat (refine pq rfl rfl ?_; go_big_quiet_step (fail); refine wpQuiet_nil ?_)
      have K1 := Lib.hid (kd.out.trans k3)
      have E3 := Lib.hid e3
      clear k3 e3
      refine pl rfl rfl ?_
      gi_wp2_with (fail)
      refine ⟨trivial, ?_⟩
      refine (callsIn_wide.2 (bal_i _ b nk nv _ _ _ (HN.out.kept K1.out) t3 r _ _ l3 (h2.kept K1.out) (by have := HL.out; have := length_put_le (lt := ltI) (xs := l.list) (k := k) (v := v); rw [E3.out]; omega))).mono ?_
      rintro e w2 ⟨p4, t4, rfl, l4, e4, k4⟩
      gi_wp2_with (fail)
      refine ⟨Wd.mem (K1.out.trans k4), ?_⟩
      repeat (refine pq rfl rfl ?_; go_big_quiet_step (fail); refine wpQuiet_nil ?_)
      refine perm_nil ?_
      gi_wp2
      go_ret
      exact ⟨_, t4, rfl, l4, by rw [e4, E3.out]; exact (put_low HLT.out).symm, K1.out.trans k4⟩
    | false =>
      cases hgt : ltI nk k with
      | true =>
        have HLT := Lib.hid hlt
        have HGT := Lib.hid hgt
        clear hlt hgt
        refine (callsIn_wide (n := 10)).1 ?_
        refine callsIn_of_wp Try.func39 rfl trivial ?_ rfl
        simp only [Try.ntmps39, List.size_toArray, List.length_cons, List.length_nil, Nat.reduceAdd, Nat.reduceSub, Array.replicate_succ, Array.replicate_zero, List.push_toArray, List.append_toArray, List.nil_append, List.cons_append]
        gi_wp2_with (fail)
        refine ⟨trivial, ?_⟩
        refine (callsIn_wide.2 (cmp_i w k nk 1 (by rw [HLT.out, HGT.out]; rfl))).mono ?_
        rintro e w' ⟨rfl, rfl⟩
        gi_wp2_with (fail)
        refine region_held [0, 1, 2, 3, 4, 5, 6, 7, 8, 9, 10, 11, 12, 13] (Kept w) (by kernel_rfl) (by kernel_rfl) (fun _ _ d _ _ h => by cases d <;> exact h) kd.out (fun _ => ?_)
        repeat (refine pq rfl rfl ?_; go_big_quiet_step (fail); refine wpQuiet_nil ?_)
        refine pl rfl rfl ?_
        gi_wp2_with (fail)
        refine ⟨trivial, ?_⟩
        refine (callsIn_wide.2 (IHR.out _ _ k v (h2.kept kd.out) A2.out (by have := HL.out; omega))).mono ?_
        rintro e w1 ⟨p3, t3, rfl, l3, e3, k3⟩
        gi_wp2_with (fail)
        refine ⟨Wd.mem (kd.out.trans k3), ?_⟩
        repeat (refine pq rfl rfl ?_; go_big_quiet_step (fail); refine wpQuiet_nil ?_)
        have K1 := Lib.hid (kd.out.trans k3)
        have E3 := Lib.hid e3
        clear k3 e3
        refine pl rfl rfl ?_
        gi_wp2_with (fail)
        refine ⟨trivial, ?_⟩
        refine (callsIn_wide.2 (bal_i _ b nk nv _ _ _ (HN.out.kept K1.out) l t3 _ _ (h1.kept K1.out) l3 (by have := HL.out; have := length_put_le (lt := ltI) (xs := r.list) (k := k) (v := v); rw [E3.out]; omega))).mono ?_
        rintro e w2 ⟨p4, t4, rfl, l4, e4, k4⟩
        gi_wp2_with (fail)
        refine ⟨Wd.mem (K1.out.trans k4), ?_⟩
        repeat (refine pq rfl rfl ?_; go_big_quiet_step (fail); refine wpQuiet_nil ?_)
        refine perm_nil ?_
        gi_wp2
        go_ret
        exact ⟨_, t4, rfl, l4, by rw [e4, E3.out]; exact (put_high linI HGT.out A3.out).symm, K1.out.trans k4⟩
      | false =>
        have HLT := Lib.hid hlt
        have HGT := Lib.hid hgt
        clear hlt hgt
        obtain ⟨al, rfl⟩ := h1.pointer
        obtain ⟨ar, rfl⟩ := h2.pointer
        refine (callsIn_wide (n := 10)).1 ?_
        refine callsIn_of_wp Try.func39 rfl trivial ?_ rfl
        simp only [Try.ntmps39, List.size_toArray, List.length_cons, List.length_nil, Nat.reduceAdd, Nat.reduceSub, Array.replicate_succ, Array.replicate_zero, List.push_toArray, List.append_toArray, List.nil_append, List.cons_append]
        gi_wp2_with (fail)
        refine ⟨trivial, ?_⟩
        refine (callsIn_wide.2 (cmp_i w k nk 0 (by rw [HLT.out, HGT.out]; rfl))).mono ?_
        rintro e w' ⟨rfl, rfl⟩
        gi_wp2_with (fail)
        refine region_held [0, 1, 2, 3, 4, 5, 6, 7, 8, 9, 10, 11, 12, 13, 14, 15, 16, 17, 18, 19] (Kept w) (by kernel_rfl) (by kernel_rfl) (fun _ _ d _ _ h => by cases d <;> exact h) kd.out (fun _ => ?_)
        repeat (refine pq rfl rfl ?_; go_big_quiet_step (fail); refine wpQuiet_nil ?_)
        refine pl rfl rfl ?_
        gi_wp2
        refine ⟨Wd.mem (kd.out.trans (Turned.alloc _ _ _)), ?_⟩
        repeat (refine pq rfl rfl ?_; go_big_quiet_step (fail); refine wpQuiet_nil ?_)
        refine perm_nil ?_
        gi_wp2
        go_ret
        obtain rfl : k = nk := linI.tri HLT.out HGT.out
        rw [show (Tr.node l k nv r).list = l.list ++ (k, nv) :: r.list from rfl, put_eq linI rfl A3.out]
        exact made_of_i (new_i w k v _ _ _) h1 h2 rfl ((Turned.alloc _ w _).trans (Kept.drew _) (fun _ e => e) (fun _ _ e => e))
end Go.Proofs.Ytfckphcbleodbaa
