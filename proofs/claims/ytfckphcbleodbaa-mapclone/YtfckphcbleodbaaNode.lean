/-
  The nodes of package omap, keys Int, values Int: what tall, between, liftLow, liftHigh, balanced and with answer, at trees as they lie.
-/
import Derived.Test.YtfckphcbleodbaaRows
import Derived.Test.YtfckphcbleodbaaTree
import Derived.WalkKit
import Derived.WalkSmall
import Derived.BigQuiet
import Derived.Deep.QuietTactic
import Derived.Lib.Hide
import Derived.TacticsInMore
import Derived.OwnWalkIn
import Derived.Shelf.Abstract
import Derived.Shelf.RegionOpen
namespace Go.Proofs.Ytfckphcbleodbaa
open Go.RowKit Go.Shelf

theorem tall_i (w : World) (t : Tr Int Int) (p : Value) (h : Lies 71 (Value.int .i64) (Value.int .i64) w t p) :
    Calls Try.prog 57 #[p] w fun e w' => e = .returned (.int .i64 (t.ht : Int)) ∧ w = w' := by
  cases t with
  | nil =>
    obtain rfl : p = .pointer none := h
    go_enter Try.func57, Try.ntmps57
    go_wp2
    go_ret
    exact ⟨rfl, rfl⟩
  | node l k v r =>
    obtain ⟨b, pl, pr, rfl, hn, _, _⟩ := h
    obtain ⟨_, _, _, _, h4⟩ := hn.cells
    clear hn
    go_enter Try.func57, Try.ntmps57
    go_wp2
    go_ret
    exact ⟨rfl, rfl⟩

theorem made_of_i {w W : World} {b : Nat} {k : Int} {v : Int} {p q : Value} {n : Int} (hb : NodeAt 71 W b (.int .i64 k) (.int .i64 v) p q n) {tl tr : Tr Int Int} (hp : Lies 71 (Value.int .i64) (Value.int .i64) w tl p) (hq : Lies 71 (Value.int .i64) (Value.int .i64) w tr q) (hn : n = ((1 + max tl.ht tr.ht : Nat) : Int)) (hk : Kept w W) :
    Made 71 (Value.int .i64) (Value.int .i64) (tl.list ++ (k, v) :: tr.list) w (.returned (.pointer (some ⟨b, 0, none⟩))) W :=
  ⟨_, .node tl k v tr, rfl, ⟨b, p, q, rfl, by rw [hn] at hb; exact hb, hp.kept hk, hq.kept hk⟩, rfl, hk⟩

/-- A new node's block, and a draw. -/
theorem new_i (w : World) (k : Int) (v : Int) (p q : Value) (n : Int) : NodeAt 71 (w.alloc (.cells #[(.int .i64 k), (.int .i64 v), p, q, .int .i64 n] 71)).drew w.heap.size (.int .i64 k) (.int .i64 v) p q n := World.alloc_heap_new w _
theorem new0_i (w : World) (k : Int) (v : Int) (p q : Value) (n : Int) : NodeAt 71 (w.alloc (.cells #[(.int .i64 k), (.int .i64 v), p, q, .int .i64 n] 71)) w.heap.size (.int .i64 k) (.int .i64 v) p q n := World.alloc_heap_new w _

theorem between_i (w : World) (b : Nat) (k : Int) (v : Int) (x y : Value) (h : Int) (hb : NodeAt 71 w b (.int .i64 k) (.int .i64 v) x y h) (tl tr : Tr Int Int) (p q : Value) (hp : Lies 71 (Value.int .i64) (Value.int .i64) w tl p) (hq : Lies 71 (Value.int .i64) (Value.int .i64) w tr q)
    (hl : tl.list.length + tr.list.length ≤ 100000) :
    Calls Try.prog 60 #[.pointer (some ⟨b, 0, none⟩), p, q] w (Made 71 (Value.int .i64) (Value.int .i64) (tl.list ++ (k, v) :: tr.list) w) := by
  have z1 := tl.ht_le
  have z2 := tr.ht_le
  obtain ⟨ap, rfl⟩ := hp.pointer
  obtain ⟨aq, rfl⟩ := hq.pointer
  refine (callsIn_wide (n := 10)).1 ?_
  refine callsIn_of_wp Try.func60 rfl trivial ?_ rfl
  simp only [Try.ntmps60, List.size_toArray, List.length_cons, List.length_nil, Nat.reduceAdd, Nat.reduceSub, Array.replicate_succ, Array.replicate_zero, List.push_toArray, List.append_toArray, List.nil_append, List.cons_append]
  gi_wp2_with (fail)
  have h0 : ∀ x : Wd (Kept w), x.w.cell? ⟨b, 0, none⟩ = some (.int .i64 k) := fun x => (hb.kept x.ok).cells.1
  have h1 : ∀ x : Wd (Kept w), x.w.cell? ⟨b, 1, none⟩ = some (.int .i64 v) := fun x => (hb.kept x.ok).cells.2.1
  have kd := Lib.hid (Kept.drew w)
  refine region_held [0, 1, 2, 3, 4, 5, 6, 7, 8, 9, 10, 12, 11, 13, 14, 15, 16, 17, 18] (Kept w) (by kernel_rfl) (by kernel_rfl) (fun _ _ d _ _ h => by cases d <;> exact h) kd.out (fun _ => ?_)
  repeat (refine pq rfl rfl ?_; go_big_quiet_step (fail); refine wpQuiet_nil ?_)
  refine pl rfl rfl ?_
  gi_wp2_with (fail)
  refine ⟨trivial, ?_⟩
  refine (callsIn_wide.2 (tall_i _ _ _ (hp.kept kd.out))).mono ?_
  rintro e w' ⟨rfl, rfl⟩
  gi_wp2_with (fail)
  refine ⟨Wd.mem kd.out, ?_⟩
  repeat (refine pq rfl rfl ?_; go_big_quiet_step (fail); refine wpQuiet_nil ?_)
  refine pl rfl rfl ?_
  gi_wp2_with (fail)
  refine ⟨trivial, ?_⟩
  refine (callsIn_wide.2 (tall_i _ _ _ (hq.kept kd.out))).mono ?_
  rintro e w' ⟨rfl, rfl⟩
  gi_wp2_with (fail)
  refine ⟨Wd.mem kd.out, ?_⟩
  repeat (refine pq rfl rfl ?_; go_big_quiet_step (fail); refine wpQuiet_nil ?_)
  refine pl rfl rfl ?_
  gi_wp2
  all_goals refine ⟨Wd.mem kd.out, ?_⟩
  all_goals (repeat (refine pq rfl rfl ?_; go_big_quiet_step (fail); refine wpQuiet_nil ?_))
  all_goals refine pl rfl rfl ?_
  all_goals gi_wp2
  all_goals refine ⟨Wd.mem (kd.out.trans (Turned.alloc _ _ _)), ?_⟩
  all_goals (repeat (refine pq rfl rfl ?_; go_big_quiet_step (fail); refine wpQuiet_nil ?_))
  all_goals refine perm_nil ?_
  all_goals gi_wp2
  all_goals go_ret
  · exact made_of_i (new_i w k v _ _ _) hp hq (by omega) ((Turned.alloc _ w _).trans (Kept.drew _) (fun _ e => e) (fun _ _ e => e))
  · exact made_of_i (new_i w k v _ _ _) hp hq (by omega) ((Turned.alloc _ w _).trans (Kept.drew _) (fun _ e => e) (fun _ _ e => e))

/-- A tree that is taller than another one has a node. -/
theorem taller_i {t t' : Tr Int Int} (h : t'.ht < t.ht) : ∃ l k v r, t = .node l k v r := by
  cases t with
  | nil => simp [Tr.ht] at h
  | node l k v r => exact ⟨l, k, v, r, rfl⟩

theorem low_i (w : World) (b : Nat) (k : Int) (v : Int) (x y : Value) (h : Int) (hb : NodeAt 71 w b (.int .i64 k) (.int .i64 v) x y h) (tl tr : Tr Int Int) (p q : Value) (hp : Lies 71 (Value.int .i64) (Value.int .i64) w tl p) (hq : Lies 71 (Value.int .i64) (Value.int .i64) w tr q)
    (hl : tl.list.length + tr.list.length ≤ 100000) (hh : tr.ht < tl.ht) :
    Calls Try.prog 58 #[.pointer (some ⟨b, 0, none⟩), p, q] w (Made 71 (Value.int .i64) (Value.int .i64) (tl.list ++ (k, v) :: tr.list) w) := by
  obtain ⟨ll, lk, lv, lr, rfl⟩ := taller_i hh
  obtain ⟨lb, p1, p2, rfl, hn, h1, h2⟩ := hp
  rw [Tr.length_node] at hl
  obtain ⟨aq, rfl⟩ := hq.pointer
  have c2 : ∀ x : Wd (Kept w), x.w.cell? ⟨lb, 2, none⟩ = some p1 := fun x => (hn.kept x.ok).cells.2.2.1
  have c3 : ∀ x : Wd (Kept w), x.w.cell? ⟨lb, 3, none⟩ = some p2 := fun x => (hn.kept x.ok).cells.2.2.2.1
  have kd := Lib.hid (Kept.drew w)
  have kd2 := Lib.hid ((Kept.drew w).trans (Kept.drew _))
  have HL := Lib.hid hl
  have HH := Lib.hid hh
  clear hl hh
  by_cases hd : lr.ht ≤ ll.ht
  · have hd' : (lr.ht : Int) ≤ (ll.ht : Int) := by omega
    refine (callsIn_wide (n := 10)).1 ?_
    refine callsIn_of_wp Try.func58 rfl trivial ?_ rfl
    simp only [Try.ntmps58, List.size_toArray, List.length_cons, List.length_nil, Nat.reduceAdd, Nat.reduceSub, Array.replicate_succ, Array.replicate_zero, List.push_toArray, List.append_toArray, List.nil_append, List.cons_append]
    gi_wp2_with (fail)
    refine region_held [0, 1, 2, 3, 5, 6, 7, 8, 4, 9, 10] (Kept w) (by kernel_rfl) (by kernel_rfl) (fun _ _ d _ _ h => by cases d <;> exact h) kd.out (fun _ => ?_)
    repeat (refine pq rfl rfl ?_; go_big_quiet_step (fail); refine wpQuiet_nil ?_)
    refine pl rfl rfl ?_
    gi_wp2_with (fail)
    refine ⟨trivial, ?_⟩
    refine (callsIn_wide.2 (tall_i _ _ _ (h1.kept kd.out))).mono ?_
    rintro e w' ⟨rfl, rfl⟩
    gi_wp2_with (fail)
    refine ⟨Wd.mem kd.out, ?_⟩
    repeat (refine pq rfl rfl ?_; go_big_quiet_step (fail); refine wpQuiet_nil ?_)
    refine pl rfl rfl ?_
    gi_wp2_with (fail)
    refine ⟨trivial, ?_⟩
    refine (callsIn_wide.2 (tall_i _ _ _ (h2.kept kd.out))).mono ?_
    rintro e w' ⟨rfl, rfl⟩
    gi_wp2_with (fail)
    refine ⟨Wd.mem kd.out, ?_⟩
    repeat (refine pq rfl rfl ?_; go_big_quiet_step (fail); refine wpQuiet_nil ?_)
    refine perm_nil ?_
    gi_wp2_with (fail)
    refine region_held [0, 1, 2, 3, 4, 5, 6, 7, 8, 9, 10, 11, 12, 13] (Kept w) (by kernel_rfl) (by kernel_rfl) (fun _ _ d _ _ h => by cases d <;> exact h) kd2.out (fun _ => ?_)
    repeat (refine pq rfl rfl ?_; go_big_quiet_step (fail); refine wpQuiet_nil ?_)
    refine pl rfl rfl ?_
    gi_wp2_with (fail)
    refine ⟨trivial, ?_⟩
    refine (callsIn_wide.2 (between_i _ b k v x y h (hb.kept kd2.out) lr tr _ _ (h2.kept kd2.out) (hq.kept kd2.out) (by have := HL.out; omega))).mono ?_
    rintro e w1 ⟨p3, t3, rfl, l3, e3, k3⟩
    gi_wp2_with (fail)
    refine ⟨Wd.mem (kd2.out.trans k3), ?_⟩
    repeat (refine pq rfl rfl ?_; go_big_quiet_step (fail); refine wpQuiet_nil ?_)
    have K1 := Lib.hid (kd2.out.trans k3)
    have E3 := Lib.hid e3
    clear k3 e3
    refine pl rfl rfl ?_
    gi_wp2_with (fail)
    refine ⟨trivial, ?_⟩
    refine (callsIn_wide.2 (between_i _ lb lk lv _ _ _ (hn.kept K1.out) ll t3 _ _ (h1.kept K1.out) l3 (by have := HL.out; rw [E3.out]; simp; omega))).mono ?_
    rintro e w2 ⟨p4, t4, rfl, l4, e4, k4⟩
    gi_wp2_with (fail)
    refine ⟨Wd.mem (K1.out.trans k4), ?_⟩
    repeat (refine pq rfl rfl ?_; go_big_quiet_step (fail); refine wpQuiet_nil ?_)
    refine perm_nil ?_
    gi_wp2
    go_ret
    exact ⟨_, t4, rfl, l4, by rw [e4, E3.out]; simp [Tr.list], K1.out.trans k4⟩
  · obtain ⟨ml, mk, mv, mr, rfl⟩ := taller_i (Nat.lt_of_not_le hd)
    obtain ⟨mb, m1, m2, rfl, hm, g1, g2⟩ := h2
    have hl := HL.out
    rw [Tr.length_node] at hl
    have HL := Lib.hid hl
    have hd' : (ll.ht : Int) < ((Tr.node ml mk mv mr).ht : Int) := by omega
    have d2 : ∀ x : Wd (Kept w), x.w.cell? ⟨mb, 2, none⟩ = some m1 := fun x => (hm.kept x.ok).cells.2.2.1
    have d3 : ∀ x : Wd (Kept w), x.w.cell? ⟨mb, 3, none⟩ = some m2 := fun x => (hm.kept x.ok).cells.2.2.2.1
    have cw : w.cell? ⟨lb, 3, none⟩ = some (.pointer (some ⟨mb, 0, none⟩)) := hn.cells.2.2.2.1
    have L2 : Hid (Lies 71 (Value.int .i64) (Value.int .i64) w (.node ml mk mv mr) (.pointer (some ⟨mb, 0, none⟩))) := Lib.hid ⟨mb, m1, m2, rfl, hm, g1, g2⟩
    clear hl
    refine (callsIn_wide (n := 10)).1 ?_
    refine callsIn_of_wp Try.func58 rfl trivial ?_ rfl
    simp only [Try.ntmps58, List.size_toArray, List.length_cons, List.length_nil, Nat.reduceAdd, Nat.reduceSub, Array.replicate_succ, Array.replicate_zero, List.push_toArray, List.append_toArray, List.nil_append, List.cons_append]
    gi_wp2_with (fail)
    refine region_held [0, 1, 2, 3, 5, 6, 7, 8, 4, 9, 10] (Kept w) (by kernel_rfl) (by kernel_rfl) (fun _ _ d _ _ h => by cases d <;> exact h) kd.out (fun _ => ?_)
    repeat (refine pq rfl rfl ?_; go_big_quiet_step (fail); refine wpQuiet_nil ?_)
    refine pl rfl rfl ?_
    gi_wp2_with (fail)
    refine ⟨trivial, ?_⟩
    refine (callsIn_wide.2 (tall_i _ _ _ (h1.kept kd.out))).mono ?_
    rintro e w' ⟨rfl, rfl⟩
    gi_wp2_with (fail)
    refine ⟨Wd.mem kd.out, ?_⟩
    repeat (refine pq rfl rfl ?_; go_big_quiet_step (fail); refine wpQuiet_nil ?_)
    refine pl rfl rfl ?_
    gi_wp2_with (fail)
    refine ⟨trivial, ?_⟩
    refine (callsIn_wide.2 (tall_i _ _ _ (L2.out.kept kd.out))).mono ?_
    rintro e w' ⟨rfl, rfl⟩
    gi_wp2_with (fail)
    refine ⟨Wd.mem kd.out, ?_⟩
    repeat (refine pq rfl rfl ?_; go_big_quiet_step (fail); refine wpQuiet_nil ?_)
    refine perm_nil ?_
    gi_wp2_with (fail)
    refine region_held [0, 1, 2, 3, 4, 5, 6, 7, 8, 9, 11, 12, 13, 14, 15, 16, 10, 17, 18, 19] (Kept w) (by kernel_rfl) (by kernel_rfl) (fun _ _ d _ _ h => by cases d <;> exact h) kd2.out (fun _ => ?_)
    repeat (refine pq rfl rfl ?_; go_big_quiet_step (fail); refine wpQuiet_nil ?_)
    refine pl rfl rfl ?_
    gi_wp2_with (fail)
    refine ⟨trivial, ?_⟩
    refine (callsIn_wide.2 (between_i _ lb lk lv _ _ _ (hn.kept kd2.out) ll ml _ _ (h1.kept kd2.out) (g1.kept kd2.out) (by have := HL.out; omega))).mono ?_
    rintro e w1 ⟨p3, t3, rfl, l3, e3, k3⟩
    gi_wp2_with (fail)
    refine ⟨Wd.mem (kd2.out.trans k3), ?_⟩
    repeat (refine pq rfl rfl ?_; go_big_quiet_step (fail); refine wpQuiet_nil ?_)
    have K1 := Lib.hid (kd2.out.trans k3)
    have E3 := Lib.hid e3
    clear k3 e3
    refine pl rfl rfl ?_
    gi_wp2_with (fail)
    refine ⟨trivial, ?_⟩
    refine (callsIn_wide.2 (between_i _ b k v x y h (hb.kept K1.out) mr tr _ _ (g2.kept K1.out) (hq.kept K1.out) (by have := HL.out; omega))).mono ?_
    rintro e w2 ⟨p4, t4, rfl, l4, e4, k4⟩
    gi_wp2_with (fail)
    refine ⟨Wd.mem (K1.out.trans k4), ?_⟩
    repeat (refine pq rfl rfl ?_; go_big_quiet_step (fail); refine wpQuiet_nil ?_)
    have K2 := Lib.hid (K1.out.trans k4)
    have E4 := Lib.hid e4
    have K4 := Lib.hid k4
    clear k4 e4
    refine pl rfl rfl ?_
    gi_wp2_with (fail)
    refine ⟨trivial, ?_⟩
    refine (callsIn_wide.2 (between_i _ mb mk mv _ _ _ (hm.kept K2.out) t3 t4 _ _ (l3.kept K4.out) l4 (by have := HL.out; rw [E3.out, E4.out]; simp; omega))).mono ?_
    rintro e w3 ⟨p5, t5, rfl, l5, e5, k5⟩
    gi_wp2_with (fail)
    refine ⟨Wd.mem (K2.out.trans k5), ?_⟩
    repeat (refine pq rfl rfl ?_; go_big_quiet_step (fail); refine wpQuiet_nil ?_)
    refine perm_nil ?_
    gi_wp2
    go_ret
    exact ⟨_, t5, rfl, l5, by rw [e5, E3.out, E4.out]; simp [Tr.list], K2.out.trans k5⟩
end Go.Proofs.Ytfckphcbleodbaa
