/-
  The nodes of package omap, keys Int, values Int: what liftHigh, balanced, cmp.Compare and with answer, at trees as they lie.
-/
import Derived.Test.YtfckphcbleodbaaNode
import Derived.Test.YtfckphcbleodbaaPlain
namespace Go.Proofs.Ytfckphcbleodbaa
open Go.RowKit Go.Shelf

theorem high_i (w : World) (b : Nat) (k : Int) (v : Int) (x y : Value) (h : Int) (hb : NodeAt 71 w b (.int .i64 k) (.int .i64 v) x y h) (tl tr : Tr Int Int) (p q : Value) (hp : Lies 71 (Value.int .i64) (Value.int .i64) w tl p) (hq : Lies 71 (Value.int .i64) (Value.int .i64) w tr q)
    (hl : tl.list.length + tr.list.length ≤ 100000) (hh : tl.ht < tr.ht) :
    Calls Try.prog 59 #[.pointer (some ⟨b, 0, none⟩), p, q] w (Made 71 (Value.int .i64) (Value.int .i64) (tl.list ++ (k, v) :: tr.list) w) := by
  obtain ⟨rl, rk, rv, rr, rfl⟩ := taller_i hh
  obtain ⟨rb, p1, p2, rfl, hn, h1, h2⟩ := hq
  rw [Tr.length_node] at hl
  obtain ⟨ap, rfl⟩ := hp.pointer
  have c2 : ∀ x : Wd (Kept w), x.w.cell? ⟨rb, 2, none⟩ = some p1 := fun x => (hn.kept x.ok).cells.2.2.1
  have c3 : ∀ x : Wd (Kept w), x.w.cell? ⟨rb, 3, none⟩ = some p2 := fun x => (hn.kept x.ok).cells.2.2.2.1
  have kd := Lib.hid (Kept.drew w)
  have kd2 := Lib.hid ((Kept.drew w).trans (Kept.drew _))
  have HL := Lib.hid hl
  have HH := Lib.hid hh
  clear hl hh
  by_cases hd : rl.ht ≤ rr.ht
  · have hd' : (rl.ht : Int) ≤ (rr.ht : Int) := by omega
    refine (callsIn_wide (n := 10)).1 ?_
    refine callsIn_of_wp Try.func59 rfl trivial ?_ rfl
    simp only [Try.ntmps59, List.size_toArray, List.length_cons, List.length_nil, Nat.reduceAdd, Nat.reduceSub, Array.replicate_succ, Array.replicate_zero, List.push_toArray, List.append_toArray, List.nil_append, List.cons_append]
    gi_wp2_with (fail)
    refine region_held [0, 1, 2, 3, 5, 6, 7, 8, 4, 9, 10] (Kept w) (by kernel_rfl) (by kernel_rfl) (fun _ _ d _ _ h => by cases d <;> exact h) kd.out (fun _ => ?_)
    repeat (refine pq rfl rfl ?_; go_big_quiet_step (fail); refine wpQuiet_nil ?_)
    refine pl rfl rfl ?_
    gi_wp2_with (fail)
    refine ⟨trivial, ?_⟩
    refine (callsIn_wide.2 (tall_i _ _ _ (h2.kept kd.out))).mono ?_
    rintro e w' ⟨rfl, rfl⟩
    gi_wp2_with (fail)
    refine ⟨Wd.mem kd.out, ?_⟩
    repeat (refine pq rfl rfl ?_; go_big_quiet_step (fail); refine wpQuiet_nil ?_)
    refine pl rfl rfl ?_
    gi_wp2_with (fail)
    refine ⟨trivial, ?_⟩
    refine (callsIn_wide.2 (tall_i _ _ _ (h1.kept kd.out))).mono ?_
    rintro e w' ⟨rfl, rfl⟩
    gi_wp2_with (fail)
    refine ⟨Wd.mem kd.out, ?_⟩
    repeat (refine pq rfl rfl ?_; go_big_quiet_step (fail); refine wpQuiet_nil ?_)
    refine perm_nil ?_
    gi_wp2_with (fail)
    refine region_held [0, 1, 2, 3, 4, 5, 6, 8, 9, 10, 11, 7, 12, 13] (Kept w) (by kernel_rfl) (by kernel_rfl) (fun _ _ d _ _ h => by cases d <;> exact h) kd2.out (fun _ => ?_)
    repeat (refine pq rfl rfl ?_; go_big_quiet_step (fail); refine wpQuiet_nil ?_)
    refine pl rfl rfl ?_
    gi_wp2_with (fail)
    refine ⟨trivial, ?_⟩
    refine (callsIn_wide.2 (between_i _ b k v x y h (hb.kept kd2.out) tl rl _ _ (hp.kept kd2.out) (h1.kept kd2.out) (by have := HL.out; omega))).mono ?_
    rintro e w1 ⟨p3, t3, rfl, l3, e3, k3⟩
    gi_wp2_with (fail)
    refine ⟨Wd.mem (kd2.out.trans k3), ?_⟩
    repeat (refine pq rfl rfl ?_; go_big_quiet_step (fail); refine wpQuiet_nil ?_)
    have K1 := Lib.hid (kd2.out.trans k3)
    have E3 := Lib.hid e3
    clear k3 e3
    refine pl rfl rfl ?_
    gi_wp2_with (fail)
    refine ⟨trivial, ?_⟩
    refine (callsIn_wide.2 (between_i _ rb rk rv _ _ _ (hn.kept K1.out) t3 rr _ _ l3 (h2.kept K1.out) (by have := HL.out; rw [E3.out]; simp; omega))).mono ?_
    rintro e w2 ⟨p4, t4, rfl, l4, e4, k4⟩
    gi_wp2_with (fail)
    refine ⟨Wd.mem (K1.out.trans k4), ?_⟩
    repeat (refine pq rfl rfl ?_; go_big_quiet_step (fail); refine wpQuiet_nil ?_)
    refine perm_nil ?_
    gi_wp2
    go_ret
    exact ⟨_, t4, rfl, l4, by rw [e4, E3.out]; simp [Tr.list], K1.out.trans k4⟩
  · obtain ⟨ml, mk, mv, mr, rfl⟩ := taller_i (Nat.lt_of_not_le hd)
    obtain ⟨mb, m1, m2, rfl, hm, g1, g2⟩ := h1
    have hl := HL.out
    rw [Tr.length_node] at hl
    have HL := Lib.hid hl
    have hd' : (rr.ht : Int) < ((Tr.node ml mk mv mr).ht : Int) := by omega
    have d2 : ∀ x : Wd (Kept w), x.w.cell? ⟨mb, 2, none⟩ = some m1 := fun x => (hm.kept x.ok).cells.2.2.1
    have d3 : ∀ x : Wd (Kept w), x.w.cell? ⟨mb, 3, none⟩ = some m2 := fun x => (hm.kept x.ok).cells.2.2.2.1
    have cw : w.cell? ⟨rb, 2, none⟩ = some (.pointer (some ⟨mb, 0, none⟩)) := hn.cells.2.2.1
    have L2 : Hid (Lies 71 (Value.int .i64) (Value.int .i64) w (.node ml mk mv mr) (.pointer (some ⟨mb, 0, none⟩))) := Lib.hid ⟨mb, m1, m2, rfl, hm, g1, g2⟩
    clear hl
    refine (callsIn_wide (n := 10)).1 ?_
    refine callsIn_of_wp Try.func59 rfl trivial ?_ rfl
    simp only [Try.ntmps59, List.size_toArray, List.length_cons, List.length_nil, Nat.reduceAdd, Nat.reduceSub, Array.replicate_succ, Array.replicate_zero, List.push_toArray, List.append_toArray, List.nil_append, List.cons_append]
    gi_wp2_with (fail)
    refine region_held [0, 1, 2, 3, 5, 6, 7, 8, 4, 9, 10] (Kept w) (by kernel_rfl) (by kernel_rfl) (fun _ _ d _ _ h => by cases d <;> exact h) kd.out (fun _ => ?_)
    repeat (refine pq rfl rfl ?_; go_big_quiet_step (fail); refine wpQuiet_nil ?_)
    refine pl rfl rfl ?_
    gi_wp2_with (fail)
    refine ⟨trivial, ?_⟩
    refine (callsIn_wide.2 (tall_i _ _ _ (h2.kept kd.out))).mono ?_
    rintro e w' ⟨rfl, rfl⟩
    gi_wp2_with (fail)
    refine ⟨Wd.mem kd.out, ?_⟩
    repeat (refine pq rfl rfl ?_; go_big_quiet_step (fail); refine wpQuiet_nil ?_)
    refine pl rfl rfl ?_
    gi_wp2_with (fail)
    refine ⟨trivial, ?_⟩
    refine (callsIn_wide.2 (tall_i _ _ _ (L2.out.kept kd.out))).mono ?_
    rintro e w' ⟨rfl, rfl⟩
    gi_wp2_with (fail)
    refine ⟨Wd.mem kd.out, ?_⟩
    repeat (refine pq rfl rfl ?_; go_big_quiet_step (fail); refine wpQuiet_nil ?_)
    refine perm_nil ?_
    gi_wp2_with (fail)
    refine region_held [0, 1, 2, 3, 4, 5, 6, 8, 9, 10, 11, 12, 13, 14, 15, 16, 7, 17, 18, 19] (Kept w) (by kernel_rfl) (by kernel_rfl) (fun _ _ d _ _ h => by cases d <;> exact h) kd2.out (fun _ => ?_)
    repeat (refine pq rfl rfl ?_; go_big_quiet_step (fail); refine wpQuiet_nil ?_)
    refine pl rfl rfl ?_
    gi_wp2_with (fail)
    refine ⟨trivial, ?_⟩
    refine (callsIn_wide.2 (between_i _ b k v x y h (hb.kept kd2.out) tl ml _ _ (hp.kept kd2.out) (g1.kept kd2.out) (by have := HL.out; omega))).mono ?_
    rintro e w1 ⟨p3, t3, rfl, l3, e3, k3⟩
    gi_wp2_with (fail)
    refine ⟨Wd.mem (kd2.out.trans k3), ?_⟩
    repeat (refine pq rfl rfl ?_; go_big_quiet_step (fail); refine wpQuiet_nil ?_)
    have K1 := Lib.hid (kd2.out.trans k3)
    have E3 := Lib.hid e3
    clear k3 e3
    refine pl rfl rfl ?_
    gi_wp2_with (fail)
    refine ⟨trivial, ?_⟩
    refine (callsIn_wide.2 (between_i _ rb rk rv _ _ _ (hn.kept K1.out) mr rr _ _ (g2.kept K1.out) (h2.kept K1.out) (by have := HL.out; omega))).mono ?_
    rintro e w2 ⟨p4, t4, rfl, l4, e4, k4⟩
    gi_wp2_with (fail)
    refine ⟨Wd.mem (K1.out.trans k4), ?_⟩
    repeat (refine pq rfl rfl ?_; go_big_quiet_step (fail); refine wpQuiet_nil ?_)
    have K2 := Lib.hid (K1.out.trans k4)
    have E4 := Lib.hid e4
    have K4 := Lib.hid k4
    clear k4 e4
    refine pl rfl rfl ?_
    gi_wp2_with (fail)
    refine ⟨trivial, ?_⟩
    refine (callsIn_wide.2 (between_i _ mb mk mv _ _ _ (hm.kept K2.out) t3 t4 _ _ (l3.kept K4.out) l4 (by have := HL.out; rw [E3.out, E4.out]; simp; omega))).mono ?_
    rintro e w3 ⟨p5, t5, rfl, l5, e5, k5⟩
    gi_wp2_with (fail)
    refine ⟨Wd.mem (K2.out.trans k5), ?_⟩
    repeat (refine pq rfl rfl ?_; go_big_quiet_step (fail); refine wpQuiet_nil ?_)
    refine perm_nil ?_
    gi_wp2
    go_ret
    exact ⟨_, t5, rfl, l5, by rw [e5, E3.out, E4.out]; simp [Tr.list], K2.out.trans k5⟩

theorem bal_i (w : World) (b : Nat) (k : Int) (v : Int) (x y : Value) (h : Int) (hb : NodeAt 71 w b (.int .i64 k) (.int .i64 v) x y h) (tl tr : Tr Int Int) (p q : Value) (hp : Lies 71 (Value.int .i64) (Value.int .i64) w tl p) (hq : Lies 71 (Value.int .i64) (Value.int .i64) w tr q)
    (hl : tl.list.length + tr.list.length ≤ 100000) :
    Calls Try.prog 50 #[.pointer (some ⟨b, 0, none⟩), p, q] w (Made 71 (Value.int .i64) (Value.int .i64) (tl.list ++ (k, v) :: tr.list) w) := by
  have z1 := tl.ht_le
  have z2 := tr.ht_le
  have y1 : (tl.ht : Int) ≤ 100000 := by omega
  have y2 : (tr.ht : Int) ≤ 100000 := by omega
  have hd : ((tr.ht : Int) - (tl.ht : Int) < -1) ∨ (-1 ≤ (tr.ht : Int) - (tl.ht : Int) ∧ (tr.ht : Int) - (tl.ht : Int) ≤ 1) ∨ (1 < (tr.ht : Int) - (tl.ht : Int)) := by omega
  have HL := Lib.hid hl
  clear hl z1 z2
  rcases hd with hd | hd | hd
  · refine (callsIn_wide (n := 10)).1 ?_
    refine callsIn_of_wp Try.func50 rfl trivial ?_ rfl
    simp only [Try.ntmps50, List.size_toArray, List.length_cons, List.length_nil, Nat.reduceAdd, Nat.reduceSub, Array.replicate_succ, Array.replicate_zero, List.push_toArray, List.append_toArray, List.nil_append, List.cons_append]
    gi_wp2_with (fail)
    refine ⟨trivial, ?_⟩
    refine (callsIn_wide.2 (tall_i _ _ _ hq)).mono ?_
    rintro e w' ⟨rfl, rfl⟩
    gi_wp2_with (fail)
    refine ⟨trivial, ?_⟩
    refine (callsIn_wide.2 (tall_i _ _ _ hp)).mono ?_
    rintro e w' ⟨rfl, rfl⟩
    gi_wp2_with (fail)
    refine ⟨trivial, ?_⟩
    refine (callsIn_wide.2 (low_i _ b k v x y h hb tl tr _ _ hp hq HL.out (by omega))).mono ?_
    rintro e w1 ⟨p3, t3, rfl, l3, e3, k3⟩
    gi_wp2_with (fail)
    go_ret
    exact ⟨_, t3, rfl, l3, e3, k3⟩
  · refine (callsIn_wide (n := 10)).1 ?_
    refine callsIn_of_wp Try.func50 rfl trivial ?_ rfl
    simp only [Try.ntmps50, List.size_toArray, List.length_cons, List.length_nil, Nat.reduceAdd, Nat.reduceSub, Array.replicate_succ, Array.replicate_zero, List.push_toArray, List.append_toArray, List.nil_append, List.cons_append]
    gi_wp2_with (fail)
    refine ⟨trivial, ?_⟩
    refine (callsIn_wide.2 (tall_i _ _ _ hq)).mono ?_
    rintro e w' ⟨rfl, rfl⟩
    gi_wp2_with (fail)
    refine ⟨trivial, ?_⟩
    refine (callsIn_wide.2 (tall_i _ _ _ hp)).mono ?_
    rintro e w' ⟨rfl, rfl⟩
    gi_wp2_with (fail)
    refine ⟨trivial, ?_⟩
    refine (callsIn_wide.2 (between_i _ b k v x y h hb tl tr _ _ hp hq HL.out)).mono ?_
    rintro e w1 ⟨p3, t3, rfl, l3, e3, k3⟩
    gi_wp2_with (fail)
    go_ret
    exact ⟨_, t3, rfl, l3, e3, k3⟩
  · refine (callsIn_wide (n := 10)).1 ?_
    refine callsIn_of_wp Try.func50 rfl trivial ?_ rfl
    simp only [Try.ntmps50, List.size_toArray, List.length_cons, List.length_nil, Nat.reduceAdd, Nat.reduceSub, Array.replicate_succ, Array.replicate_zero, List.push_toArray, List.append_toArray, List.nil_append, List.cons_append]
    gi_wp2_with (fail)
    refine ⟨trivial, ?_⟩
    refine (callsIn_wide.2 (tall_i _ _ _ hq)).mono ?_
    rintro e w' ⟨rfl, rfl⟩
    gi_wp2_with (fail)
    refine ⟨trivial, ?_⟩
    refine (callsIn_wide.2 (tall_i _ _ _ hp)).mono ?_
    rintro e w' ⟨rfl, rfl⟩
    gi_wp2_with (fail)
    refine ⟨trivial, ?_⟩
    refine (callsIn_wide.2 (high_i _ b k v x y h hb tl tr _ _ hp hq HL.out (by omega))).mono ?_
    rintro e w1 ⟨p3, t3, rfl, l3, e3, k3⟩
    gi_wp2_with (fail)
    go_ret
    exact ⟨_, t3, rfl, l3, e3, k3⟩
end Go.Proofs.Ytfckphcbleodbaa
