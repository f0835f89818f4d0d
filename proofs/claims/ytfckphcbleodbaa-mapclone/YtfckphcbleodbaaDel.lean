/-
  package omap at int64: what least, withoutLeast, without and Del answer, and what they turn.
-/
import Derived.Test.YtfckphcbleodbaaMap
namespace Go.Proofs.Ytfckphcbleodbaa
open Go.RowKit Go.Shelf

/-- The node of the least key: it lies, and is the first of the list. -/
theorem least_i (t : Tr Int Int) (w : World) (p : Value) (hp : Lies 71 (Value.int .i64) (Value.int .i64) w t p) (hne : t ≠ .nil) :
    Calls Try.prog 51 #[p] w fun e w' => (∃ b k v x y h, e = .returned (.pointer (some ⟨b, 0, none⟩)) ∧ NodeAt 71 w b (.int .i64 k) (.int .i64 v) x y h ∧ t.list.head? = some (k, v)) ∧ w = w' := by
  have HP := Lib.hid hp
  have HNE := Lib.hid hne
  clear hp hne
  go_enter Try.func51, Try.ntmps51
  go_wp2
  go_loopw [0] (fun n wr => ∃ t', Hid (Lies 71 (Value.int .i64) (Value.int .i64) w t' n) ∧ Hid (t' ≠ .nil) ∧ Hid (t'.list.head? = t.list.head?) ∧ w = wr) (fun n wr => tallOf wr n)
  case atStart => exact ⟨t, HP, HNE, Lib.hid rfl, rfl⟩
  case round =>
    obtain ⟨t', hl', hn', hh', rfl⟩ := hrel
    cases t' with
    | nil => exact (hn'.out rfl).elim
    | node l nk nv r =>
      obtain ⟨nb, q1, q2, rfl, hn, h1, h2⟩ := hl'.out
      obtain ⟨d0, d1, d2, d3, _⟩ := hn.cells
      have M0 := Lib.hid (tallOf_lies hl'.out)
      have M1 := Lib.hid (tallOf_lies h1)
      have HN := Lib.hid hn
      clear hn h2 hl' hn'
      cases l with
      | nil =>
        obtain rfl : _ = Value.pointer none := h1
        go_wp2
        go_ret
        exact ⟨⟨nb, nk, nv, _, _, _, rfl, HN.out, by rw [← hh'.out]; rfl⟩, rfl⟩
      | node ll lk lv lr =>
        have H1 := Lib.hid h1
        obtain ⟨lb, g1, g2, rfl, _⟩ := h1
        go_wp2
        exact ⟨⟨_, H1, Lib.hid (by simp), Lib.hid (by rw [← hh'.out]; simp [Tr.list]), trivial⟩, by rw [M0.out, M1.out]; simp only [Tr.ht]; omega⟩

theorem head_tail {l : List (Int × Int)} {x : Int × Int} (h : l.head? = some x) : x :: l.tail = l := by
  cases l with
  | nil => cases h
  | cons y l =>
    cases h
    rfl
theorem ne_nil {l : Tr Int Int} (hne : l ≠ .nil) : ∃ a k v b, l = .node a k v b := by
  cases l with
  | nil => exact (hne rfl).elim
  | node a k v b => exact ⟨a, k, v, b, rfl⟩
theorem list_ne {l : Tr Int Int} (hne : l ≠ .nil) : l.list ≠ [] := by
  obtain ⟨a, k, v, b, rfl⟩ := ne_nil hne
  simp [Tr.list]

theorem drop_i (t : Tr Int Int) : ∀ (w : World) (p : Value), Lies 71 (Value.int .i64) (Value.int .i64) w t p → t ≠ .nil → t.list.length ≤ 10000 →
    Calls Try.prog 52 #[p] w (Made 71 (Value.int .i64) (Value.int .i64) t.list.tail w) := by
  induction t with
  | nil => exact fun _ _ _ h => (h rfl).elim
  | node l nk nv r ihl ihr =>
    intro w p hp _ hl
    obtain ⟨b, q1, q2, rfl, hn, h1, h2⟩ := hp
    rw [Tr.length_node] at hl
    have w2 : w.cell? ⟨b, 2, none⟩ = some q1 := hn.cells.2.2.1
    have w3 : w.cell? ⟨b, 3, none⟩ = some q2 := hn.cells.2.2.2.1
    have c2 : ∀ x : Wd (Kept w), x.w.cell? ⟨b, 2, none⟩ = some q1 := fun x => (hn.kept x.ok).cells.2.2.1
    have c3 : ∀ x : Wd (Kept w), x.w.cell? ⟨b, 3, none⟩ = some q2 := fun x => (hn.kept x.ok).cells.2.2.2.1
    have HN := Lib.hid hn
    have HL := Lib.hid hl
    have IHL := Lib.hid ihl
    clear hn hl ihl ihr
    have kd := Lib.hid (Kept.drew w)
    by_cases hln : l = .nil
    · subst hln
      obtain rfl : _ = Value.pointer none := h1
      refine (callsIn_wide (n := 10)).1 ?_
      refine callsIn_of_wp Try.func52 rfl trivial ?_ rfl
      simp only [Try.ntmps52, List.size_toArray, List.length_cons, List.length_nil, Nat.reduceAdd, Nat.reduceSub, Array.replicate_succ, Array.replicate_zero, List.push_toArray, List.append_toArray, List.nil_append, List.cons_append]
      gi_wp2_with (fail)
      go_ret
      exact ⟨_, r, rfl, h2, by simp [Tr.list], Kept.refl w⟩
    · have H1 := Lib.hid h1
      obtain ⟨ll, lk, lv, lr, hll⟩ := ne_nil hln
      rw [hll] at h1
      obtain ⟨lb, g1, g2, rfl, _⟩ := h1
      clear hll
      have HLN := Lib.hid hln
      clear hln
      refine (callsIn_wide (n := 10)).1 ?_
      refine callsIn_of_wp Try.func52 rfl trivial ?_ rfl
      simp only [Try.ntmps52, List.size_toArray, List.length_cons, List.length_nil, Nat.reduceAdd, Nat.reduceSub, Array.replicate_succ, Array.replicate_zero, List.push_toArray, List.append_toArray, List.nil_append, List.cons_append]
      gi_wp2_with (fail)
      refine region_held [0, 1, 2, 3, 4, 6, 7, 8, 9, 5, 10, 11] (Kept w) (by kernel_rfl) (by kernel_rfl) (fun _ _ d _ _ h => by cases d <;> exact h) kd.out (fun _ => ?_)
      repeat (refine pq rfl rfl ?_; go_big_quiet_step (fail); refine wpQuiet_nil ?_)
      refine pl rfl rfl ?_
      gi_wp2_with (fail)
      refine ⟨trivial, ?_⟩
      refine (callsIn_wide.2 (IHL.out _ _ (H1.out.kept kd.out) HLN.out (by have := HL.out; omega))).mono ?_
      rintro e w1 ⟨p3, t3, rfl, l3, e3, k3⟩
      gi_wp2_with (fail)
      refine ⟨Wd.mem (kd.out.trans k3), ?_⟩
      repeat (refine pq rfl rfl ?_; go_big_quiet_step (fail); refine wpQuiet_nil ?_)
      have K1 := Lib.hid (kd.out.trans k3)
      have E3 := Lib.hid e3
      clear k3 e3
      refine pl rfl rfl ?_
      gi_wp2_with (fail)
      refine ⟨trivial, ?_⟩
      refine (callsIn_wide.2 (bal_i _ b nk nv _ _ _ (HN.out.kept K1.out) t3 r _ _ l3 (h2.kept K1.out) (by have := HL.out; rw [E3.out, List.length_tail]; omega))).mono ?_
      rintro e w2 ⟨p4, t4, rfl, l4, e4, k4⟩
      gi_wp2_with (fail)
      refine ⟨Wd.mem (K1.out.trans k4), ?_⟩
      repeat (refine pq rfl rfl ?_; go_big_quiet_step (fail); refine wpQuiet_nil ?_)
      refine perm_nil ?_
      gi_wp2
      go_ret
      exact ⟨_, t4, rfl, l4, by rw [e4, E3.out]; exact (List.tail_append_of_ne_nil (list_ne HLN.out)).symm, K1.out.trans k4⟩

theorem without_i (t : Tr Int Int) : ∀ (w : World) (p : Value) (k : Int), Lies 71 (Value.int .i64) (Value.int .i64) w t p → Asc ltI t.list → t.list.length ≤ 10000 →
    Calls Try.prog 43 #[p, .int .i64 k] w (Made 71 (Value.int .i64) (Value.int .i64) (del ltI t.list k) w) := by
  induction t with
  | nil =>
    intro w p k hp _ _
    obtain rfl : p = .pointer none := hp
    refine (callsIn_wide (n := 10)).1 ?_
    refine callsIn_of_wp Try.func43 rfl trivial ?_ rfl
    simp only [Try.ntmps43, List.size_toArray, List.length_cons, List.length_nil, Nat.reduceAdd, Nat.reduceSub, Array.replicate_succ, Array.replicate_zero, List.push_toArray, List.append_toArray, List.nil_append, List.cons_append]
    gi_wp2_with (fail)
    go_ret
    exact ⟨_, .nil, rfl, rfl, rfl, Kept.refl w⟩
  | node l nk nv r ihl ihr =>
    intro w p k hp ha hl
    obtain ⟨b, q1, q2, rfl, hn, h1, h2⟩ := hp
    rw [Tr.length_node] at hl
    obtain ⟨a1, a2, a3, a4⟩ := asc_cut (show Asc ltI (l.list ++ (nk, nv) :: r.list) from ha)
    obtain ⟨w0, _, w2, w3, _⟩ := hn.cells
    have c2 : ∀ x : Wd (Kept w), x.w.cell? ⟨b, 2, none⟩ = some q1 := fun x => (hn.kept x.ok).cells.2.2.1
    have c3 : ∀ x : Wd (Kept w), x.w.cell? ⟨b, 3, none⟩ = some q2 := fun x => (hn.kept x.ok).cells.2.2.2.1
    have HN := Lib.hid hn
    have HL := Lib.hid hl
    have A1 := Lib.hid a1
    have A2 := Lib.hid a2
    have A3 := Lib.hid a3
    have IHL := Lib.hid ihl
    have IHR := Lib.hid ihr
    clear hn hl ha a1 a2 a3 a4 ihl ihr
    have kd := Lib.hid (Kept.drew w)
    cases hlt : ltI k nk with
    | true =>
      have HLT := Lib.hid hlt
      clear hlt
      refine (callsIn_wide (n := 10)).1 ?_
      refine callsIn_of_wp Try.func43 rfl trivial ?_ rfl
      simp only [Try.ntmps43, List.size_toArray, List.length_cons, List.length_nil, Nat.reduceAdd, Nat.reduceSub, Array.replicate_succ, Array.replicate_zero, List.push_toArray, List.append_toArray, List.nil_append, List.cons_append]
      gi_wp2_with (fail)
      refine ⟨trivial, ?_⟩
      refine (callsIn_wide.2 (cmp_i w k nk (-1) (by rw [HLT.out]; rfl))).mono ?_
      rintro e w' ⟨rfl, rfl⟩
      gi_wp2_with (fail)
      refine region_held [0, 1, 2, 3, 4, 5, 7, 8, 9, 10, 6, 11, 12] (Kept w) (by kernel_rfl) (by kernel_rfl) (fun _ _ d _ _ h => by cases d <;> exact h) kd.out (fun _ => ?_)
      repeat (refine pq rfl rfl ?_; go_big_quiet_step (fail); refine wpQuiet_nil ?_)
      refine pl rfl rfl ?_
      gi_wp2_with (fail)
      refine ⟨trivial, ?_⟩
      refine (callsIn_wide.2 (IHL.out _ _ k (h1.kept kd.out) A1.out (by have := HL.out; omega))).mono ?_
      rintro e w1 ⟨p3, t3, rfl, l3, e3, k3⟩
      gi_wp2_with (fail)
      refine ⟨Wd.mem (kd.out.trans k3), ?_⟩
      repeat (refine pq rfl rfl ?_; go_big_quiet_step (fail); refine wpQuiet_nil ?_)
      have K1 := Lib.hid (kd.out.trans k3)
      have E3 := Lib.hid e3
      clear k3 e3
      refine pl rfl rfl ?_
      gi_wp2_with (fail)
      refine ⟨trivial, ?_⟩
      refine (callsIn_wide.2 (bal_i _ b nk nv _ _ _ (HN.out.kept K1.out) t3 r _ _ l3 (h2.kept K1.out) (by have := HL.out; have := (del_sub (lt := ltI) (xs := l.list) (k := k)).length_le; rw [E3.out]; omega))).mono ?_
      rintro e w2 ⟨p4, t4, rfl, l4, e4, k4⟩
      gi_wp2_with (fail)
      refine ⟨Wd.mem (K1.out.trans k4), ?_⟩
      repeat (refine pq rfl rfl ?_; go_big_quiet_step (fail); refine wpQuiet_nil ?_)
      refine perm_nil ?_
      gi_wp2
      go_ret
      exact ⟨_, t4, rfl, l4, by rw [e4, E3.out]; exact (del_low HLT.out).symm, K1.out.trans k4⟩
    | false =>
      cases hgt : ltI nk k with
      | true =>
        have HLT := Lib.hid hlt
        have HGT := Lib.hid hgt
        clear hlt hgt
        refine (callsIn_wide (n := 10)).1 ?_
        refine callsIn_of_wp Try.func43 rfl trivial ?_ rfl
        simp only [Try.ntmps43, List.size_toArray, List.length_cons, List.length_nil, Nat.reduceAdd, Nat.reduceSub, Array.replicate_succ, Array.replicate_zero, List.push_toArray, List.append_toArray, List.nil_append, List.cons_append]
        gi_wp2_with (fail)
        refine ⟨trivial, ?_⟩
        refine (callsIn_wide.2 (cmp_i w k nk 1 (by rw [HLT.out, HGT.out]; rfl))).mono ?_
        rintro e w' ⟨rfl, rfl⟩
        gi_wp2_with (fail)
        refine region_held [0, 1, 2, 3, 4, 5, 6, 7, 8, 9, 10, 11, 12] (Kept w) (by kernel_rfl) (by kernel_rfl) (fun _ _ d _ _ h => by cases d <;> exact h) kd.out (fun _ => ?_)
        repeat (refine pq rfl rfl ?_; go_big_quiet_step (fail); refine wpQuiet_nil ?_)
        refine pl rfl rfl ?_
        gi_wp2_with (fail)
        refine ⟨trivial, ?_⟩
        refine (callsIn_wide.2 (IHR.out _ _ k (h2.kept kd.out) A2.out (by have := HL.out; omega))).mono ?_
        rintro e w1 ⟨p3, t3, rfl, l3, e3, k3⟩
        gi_wp2_with (fail)
        refine ⟨Wd.mem (kd.out.trans k3), ?_⟩
        repeat (refine pq rfl rfl ?_; go_big_quiet_step (fail); refine wpQuiet_nil ?_)
        have K1 := Lib.hid (kd.out.trans k3)
        have E3 := Lib.hid e3
        clear k3 e3
        refine pl rfl rfl ?_
        gi_wp2_with (fail)
        refine ⟨trivial, ?_⟩
        refine (callsIn_wide.2 (bal_i _ b nk nv _ _ _ (HN.out.kept K1.out) l t3 _ _ (h1.kept K1.out) l3 (by have := HL.out; have := (del_sub (lt := ltI) (xs := r.list) (k := k)).length_le; rw [E3.out]; omega))).mono ?_
        rintro e w2 ⟨p4, t4, rfl, l4, e4, k4⟩
        gi_wp2_with (fail)
        refine ⟨Wd.mem (K1.out.trans k4), ?_⟩
        repeat (refine pq rfl rfl ?_; go_big_quiet_step (fail); refine wpQuiet_nil ?_)
        refine perm_nil ?_
        gi_wp2
        go_ret
        exact ⟨_, t4, rfl, l4, by rw [e4, E3.out]; exact (del_high linI HGT.out A3.out).symm, K1.out.trans k4⟩
      | false =>
        have HLT := Lib.hid hlt
        have HGT := Lib.hid hgt
        clear hlt hgt
        have HE : Hid (del ltI (Tr.node l nk nv r).list k = l.list ++ r.list) := Lib.hid (del_eq linI (linI.tri HLT.out HGT.out) A3.out)
        by_cases hrn : r = .nil
        · subst hrn
          obtain rfl : _ = Value.pointer none := h2
          refine (callsIn_wide (n := 10)).1 ?_
          refine callsIn_of_wp Try.func43 rfl trivial ?_ rfl
          simp only [Try.ntmps43, List.size_toArray, List.length_cons, List.length_nil, Nat.reduceAdd, Nat.reduceSub, Array.replicate_succ, Array.replicate_zero, List.push_toArray, List.append_toArray, List.nil_append, List.cons_append]
          gi_wp2_with (fail)
          refine ⟨trivial, ?_⟩
          refine (callsIn_wide.2 (cmp_i w k nk 0 (by rw [HLT.out, HGT.out]; rfl))).mono ?_
          rintro e w' ⟨rfl, rfl⟩
          gi_wp2_with (fail)
          go_ret
          exact ⟨_, l, rfl, h1, by rw [HE.out]; simp [Tr.list], Kept.refl w⟩
        · have H2 := Lib.hid h2
          obtain ⟨rl, rk, rv, rr, hrr⟩ := ne_nil hrn
          rw [hrr] at h2
          obtain ⟨rb, g1, g2, rfl, _⟩ := h2
          clear hrr
          have HRN := Lib.hid hrn
          clear hrn
          refine (callsIn_wide (n := 10)).1 ?_
          refine callsIn_of_wp Try.func43 rfl trivial ?_ rfl
          simp only [Try.ntmps43, List.size_toArray, List.length_cons, List.length_nil, Nat.reduceAdd, Nat.reduceSub, Array.replicate_succ, Array.replicate_zero, List.push_toArray, List.append_toArray, List.nil_append, List.cons_append]
          gi_wp2_with (fail)
          refine ⟨trivial, ?_⟩
          refine (callsIn_wide.2 (cmp_i w k nk 0 (by rw [HLT.out, HGT.out]; rfl))).mono ?_
          rintro e w' ⟨rfl, rfl⟩
          gi_wp2_with (fail)
          refine region_held [0, 1, 2, 3, 5, 6, 7, 8, 9, 10, 11, 12, 4, 13, 14, 15] (Kept w) (by kernel_rfl) (by kernel_rfl) (fun _ _ d _ _ h => by cases d <;> exact h) kd.out (fun _ => ?_)
          repeat (refine pq rfl rfl ?_; go_big_quiet_step (fail); refine wpQuiet_nil ?_)
          refine pl rfl rfl ?_
          gi_wp2_with (fail)
          refine ⟨trivial, ?_⟩
          refine (callsIn_wide.2 (least_i r _ _ (H2.out.kept kd.out) HRN.out)).mono ?_
          rintro e w' ⟨⟨mb, mk, mv, mx, my, mh, rfl, hm, hhead⟩, rfl⟩
          gi_wp2_with (fail)
          refine ⟨Wd.mem kd.out, ?_⟩
          repeat (refine pq rfl rfl ?_; go_big_quiet_step (fail); refine wpQuiet_nil ?_)
          have HM := Lib.hid hm
          have HH := Lib.hid hhead
          clear hm hhead
          refine pl rfl rfl ?_
          gi_wp2_with (fail)
          refine ⟨trivial, ?_⟩
          refine (callsIn_wide.2 (drop_i r _ _ (H2.out.kept kd.out) HRN.out (by have := HL.out; omega))).mono ?_
          rintro e w1 ⟨p3, t3, rfl, l3, e3, k3⟩
          gi_wp2_with (fail)
          refine ⟨Wd.mem (kd.out.trans k3), ?_⟩
          repeat (refine pq rfl rfl ?_; go_big_quiet_step (fail); refine wpQuiet_nil ?_)
          have K1 := Lib.hid (kd.out.trans k3)
          have K3 := Lib.hid k3
          have E3 := Lib.hid e3
          clear k3 e3
          refine pl rfl rfl ?_
          gi_wp2_with (fail)
          refine ⟨trivial, ?_⟩
          refine (callsIn_wide.2 (bal_i _ mb mk mv _ _ _ (HM.out.kept K3.out) l t3 _ _ (h1.kept K1.out) l3 (by have := HL.out; rw [E3.out, List.length_tail]; omega))).mono ?_
          rintro e w2 ⟨p4, t4, rfl, l4, e4, k4⟩
          gi_wp2_with (fail)
          refine ⟨Wd.mem (K1.out.trans k4), ?_⟩
          repeat (refine pq rfl rfl ?_; go_big_quiet_step (fail); refine wpQuiet_nil ?_)
          refine perm_nil ?_
          gi_wp2
          go_ret
          exact ⟨_, t4, rfl, l4, by rw [e4, E3.out, HE.out]; exact congrArg _ (head_tail HH.out), K1.out.trans k4⟩

/-- (*Map).Del -/
theorem del_i (w : World) (b : Nat) (xs : List (Int × Int)) (h : Mp_i w b xs) (k : Int) (hl : xs.length ≤ 5000) :
    Calls Try.prog 20 #[.pointer (some ⟨b, 0, none⟩), .int .i64 k] w fun e w' => e = .returned (.tuple #[.int .i64 ((get ltI xs k).getD 0), .bool (get ltI xs k).isSome]) ∧ Did_i b (del ltI xs k) w w' := by
  have hget := get_i w b xs h k
  have H0 := Lib.hid h
  obtain ⟨t, p, hb, hlt, ht, ha⟩ := h
  have hwith := without_i t w p k hlt (by rw [ht]; exact ha) (by rw [ht]; omega)
  rw [ht] at hwith
  have c0 := hb.cells.1
  have lp := length_del (lt := ltI) (xs := xs) (k := k)
  have hle : (xs.length : Int) ≤ 5000 := by omega
  have hge : (0 : Int) ≤ (xs.length : Int) := by omega
  have HB := Lib.hid hb
  have HA := Lib.hid ha
  have HGET := Lib.hid hget
  have HWITH := Lib.hid hwith
  cases hg : get ltI xs k with
  | none =>
    have HG := Lib.hid hg
    clear hget hwith hb hlt ht ha lp hl hg
    go_enter Try.func20, Try.ntmps20
    go_wp2_with (fail)
    refine HGET.out.mono ?_
    rintro e w' ⟨rfl, rfl⟩
    rw [HG.out]
    simp only [Option.getD_none, Option.isSome_none]
    go_wp2
    go_ret2
    refine ⟨rfl, ?_, Turned.refl _ _⟩
    rw [del_none HG.out]
    exact H0.out
  | some u =>
    rw [hg] at lp
    have hne : 1 ≤ xs.length := by
      cases xs with
      | nil => simp [get] at hg
      | cons x xs => simp
    have hne' : (1 : Int) ≤ (xs.length : Int) := by omega
    have LP := Lib.hid lp
    have HG := Lib.hid hg
    clear hget hwith hb hlt ht ha lp hl hg hne
    go_enter Try.func20, Try.ntmps20
    go_wp2_with (fail)
    refine HGET.out.mono ?_
    rintro e w' ⟨rfl, rfl⟩
    rw [HG.out]
    simp only [Option.getD_some, Option.isSome_some]
    go_wp2_with (fail)
    refine HWITH.out.mono ?_
    rintro e w1 ⟨p3, t3, rfl, l3, e3, k3⟩
    obtain ⟨f0, f1, f2, f3⟩ := (HB.out.kept k3).opened
    obtain ⟨a3, rfl⟩ := l3.pointer
    have L3 := Lib.hid l3
    have E3 := Lib.hid e3
    have K3 := Lib.hid k3
    clear l3 e3 k3
    go_wp2
    go_ret2
    refine ⟨rfl, ?_⟩
    rw [← E3.out]
    exact did_i HB.out K3.out L3.out (by rw [E3.out]; exact asc_del HA.out) (by have := LP.out; rw [E3.out, this]; omega)
end Go.Proofs.Ytfckphcbleodbaa
