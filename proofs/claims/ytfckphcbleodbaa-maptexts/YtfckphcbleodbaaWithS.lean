/-
  The nodes of package omap, keys ByteArray, values Bool: what cmp.Compare and with answer, at trees as they lie.
-/
import Derived.Test.YtfckphcbleodbaaBalS
namespace Go.Proofs.Ytfckphcbleodbaa
open Go.RowKit Go.Shelf

/-- The order of texts, byte by byte. -/
def ltS (a b : ByteArray) : Bool := Op.bytesLess a.toList b.toList

theorem bl_irr : (x : List UInt8) → Op.bytesLess x x = false
  | [] => rfl
  | a :: x => by simp [Op.bytesLess, bl_irr x]
theorem bl_tr : (x y z : List UInt8) → Op.bytesLess x y = true → Op.bytesLess y z = true → Op.bytesLess x z = true
  | [], [], [], h, _ => h
  | [], _ :: _, [], _, h => by simp [Op.bytesLess] at h
  | [], _, _ :: _, _, _ => by simp [Op.bytesLess]
  | _ :: _, [], _, h, _ => by simp [Op.bytesLess] at h
  | _ :: _, _ :: _, [], _, h => by simp [Op.bytesLess] at h
  | a :: x, b :: y, c :: z, h, k => by
    simp only [Op.bytesLess, Bool.or_eq_true, Bool.and_eq_true, decide_eq_true_eq, beq_iff_eq] at h k ⊢
    rcases h with h | ⟨rfl, h⟩
    · rcases k with k | ⟨rfl, k⟩
      · exact .inl (UInt8.lt_trans h k)
      · exact .inl h
    · rcases k with k | ⟨rfl, k⟩
      · exact .inl k
      · exact .inr ⟨rfl, bl_tr x y z h k⟩
theorem bl_tri : (x y : List UInt8) → Op.bytesLess x y = false → Op.bytesLess y x = false → x = y
  | [], [], _, _ => rfl
  | [], _ :: _, h, _ => by simp [Op.bytesLess] at h
  | _ :: _, [], _, h => by simp [Op.bytesLess] at h
  | a :: x, b :: y, h, k => by
    simp only [Op.bytesLess, Bool.or_eq_false_iff, Bool.and_eq_false_iff, decide_eq_false_iff_not, beq_eq_false_iff_ne, ne_eq] at h k
    have e : a = b := by
      have h1 := h.1
      have k1 := k.1
      exact UInt8.le_antisymm (UInt8.not_lt.1 k1) (UInt8.not_lt.1 h1)
    subst e
    rw [bl_tri x y (h.2.resolve_left fun e => e rfl) (k.2.resolve_left fun e => e rfl)]
theorem toList_inj {a b : ByteArray} (h : a.toList = b.toList) : a = b := by
  have e : a.data.toList = b.data.toList := by simpa [ByteArray.toList_eq] using h
  cases a
  cases b
  simp only [ByteArray.mk.injEq]
  exact Array.toList_inj.1 e
theorem linS : Lin ltS := ⟨fun _ => bl_irr _, fun h k => bl_tr _ _ _ h k, fun h k => toList_inj (bl_tri _ _ h k)⟩
theorem gtr_s (a b : ByteArray) : binOp .gtr 9 (.string a) (.string b) = pure (.bool (ltS b a)) := by
  have : (!(Op.bytesLess a.toList b.toList || a.toList == b.toList)) = ltS b a := by
    cases h : ltS b a with
    | true =>
      have h1 : Op.bytesLess a.toList b.toList = false := linS.asym h
      have h2 : a.toList ≠ b.toList := by
        intro e
        rw [toList_inj e, linS.irr] at h
        cases h
      simp [h1, h2]
    | false =>
      cases h1 : Op.bytesLess a.toList b.toList with
      | true => simp
      | false => simp [bl_tri _ _ h1 h]
  simp [binOp, Op.stringOp, this]

/-- cmp.Compare -/
theorem cmp_s (w : World) (a b : ByteArray) (z : Int) (hz : z = if ltS a b then -1 else if ltS b a then 1 else 0) :
    Calls Try.prog 48 #[.string a, .string b] w fun e w' => e = .returned (.int .i64 z) ∧ w = w' := by
  have gtr := gtr_s a b
  unfold ltS at hz gtr
  cases h1 : Op.bytesLess a.toList b.toList with
  | true =>
    obtain rfl : z = -1 := by rw [hz, h1]; rfl
    clear hz gtr
    go_enter Try.func48, Try.ntmps48
    go_wp2
    go_ret
    exact ⟨rfl, rfl⟩
  | false =>
    cases h2 : Op.bytesLess b.toList a.toList with
    | true =>
      obtain rfl : z = 1 := by rw [hz, h1, h2]; rfl
      rw [h2] at gtr
      clear hz
      go_enter Try.func48, Try.ntmps48
      go_wp2
      go_ret
      exact ⟨rfl, rfl⟩
    | false =>
      obtain rfl : z = 0 := by rw [hz, h1, h2]; rfl
      rw [h2] at gtr
      clear hz
      go_enter Try.func48, Try.ntmps48
      go_wp2
      go_ret
      exact ⟨rfl, rfl⟩

theorem with_s (t : Tr ByteArray Bool) : ∀ (w : World) (p : Value) (k : ByteArray) (v : Bool), Lies 84 Value.string Value.bool w t p → Asc ltS t.list → t.list.length ≤ 10000 →
    Calls Try.prog 45 #[p, (.string k), (.bool v)] w (Made 84 Value.string Value.bool (put ltS t.list k v) w) := by
  induction t with
  | nil =>
    intro w p k v hp _ _
    obtain rfl : p = .pointer none := hp
    have kd := Lib.hid (Kept.drew w)
    refine (callsIn_wide (n := 10)).1 ?_
    refine callsIn_of_wp Try.func45 rfl trivial ?_ rfl
    simp only [Try.ntmps45, List.size_toArray, List.length_cons, List.length_nil, Nat.reduceAdd, Nat.reduceSub, Array.replicate_succ, Array.replicate_zero, List.push_toArray, List.append_toArray, List.nil_append, List.cons_append]
    gi_wp2_with (fail)
    go_ret
    exact made_of_s (tl := .nil) (tr := .nil) (new0_s w k v _ _ _) rfl rfl (by simp [Tr.ht]) (Turned.alloc _ w _)
  | node l nk nv r ihl ihr =>
    intro w p k v hp ha hl
    obtain ⟨b, q1, q2, rfl, hn, h1, h2⟩ := hp
    rw [Tr.length_node] at hl
    obtain ⟨a1, a2, a3, a4⟩ := asc_cut (show Asc ltS (l.list ++ (nk, nv) :: r.list) from ha)
    have w0 : w.cell? ⟨b, 0, none⟩ = some (.string nk) := hn.cells.1
    have c2 : ∀ x : Wd (Kept w), x.w.cell? ⟨b, 2, none⟩ = some q1 := fun x => (hn.kept x.ok).cells.2.2.1
    have c3 : ∀ x : Wd (Kept w), x.w.cell? ⟨b, 3, none⟩ = some q2 := fun x => (hn.kept x.ok).cells.2.2.2.1
    have c0 : ∀ x : Wd (Kept w), x.w.cell? ⟨b, 0, none⟩ = some (.string nk) := fun x => (hn.kept x.ok).cells.1
    have c4 : ∀ x : Wd (Kept w), x.w.cell? ⟨b, 4, none⟩ = some (.int .i64 ((Tr.node l nk nv r).ht : Int)) := fun x => (hn.kept x.ok).cells.2.2.2.2
    have HN := Lib.hid hn
    have HL := Lib.hid hl
    have A1 := Lib.hid a1
    have A2 := Lib.hid a2
    have A3 := Lib.hid a3
    have IHL := Lib.hid ihl
    have IHR := Lib.hid ihr
    clear hn hl ha a1 a2 a3 a4 ihl ihr
    have kd := Lib.hid (Kept.drew w)
    cases hlt : ltS k nk with
    | true =>
      have HLT := Lib.hid hlt
      refine (callsIn_wide (n := 10)).1 ?_
      refine callsIn_of_wp Try.func45 rfl trivial ?_ rfl
      simp only [Try.ntmps45, List.size_toArray, List.length_cons, List.length_nil, Nat.reduceAdd, Nat.reduceSub, Array.replicate_succ, Array.replicate_zero, List.push_toArray, List.append_toArray, List.nil_append, List.cons_append]
      gi_wp2_with (fail)
      refine ⟨trivial, ?_⟩
      refine (callsIn_wide.2 (cmp_s w k nk (-1) (by rw [HLT.out]; rfl))).mono ?_
      rintro e w' ⟨rfl, rfl⟩
      gi_wp2_with (fail)
      refine region_held [0, 1, 2, 3, 4, 5, 6, 8, 9, 10, 11, 7, 12, 13] (Kept w) (by kernel_rfl) (by kernel_rfl) (fun _ _ d _ _ h => by cases d <;> exact h) kd.out (fun _ => ?_)
      repeat (refine pq rfl rfl ?_; go_big_quiet_step (fail); refine wpQuiet_nil ?_)
      refine pl rfl rfl ?_
      gi_wp2_with (fail)
      refine ⟨trivial, ?_⟩
      refine (callsIn_wide.2 (IHL.out _ _ k v (h1.kept kd.out) A1.out (by have := HL.out; omega))).mono ?_
      rintro e w1 ⟨p3, t3, rfl, l3, e3, k3⟩
      gi_wp2_with (fail)
      refine ⟨Wd.mem (kd.out.trans k3), ?_⟩
      repeat (refine pq rfl rfl ?_; go_big_quiet_step (fail); refine wpQuiet_nil ?_)
      have K1 := Lib.hid (kd.out.trans k3)
      have E3 := Lib.hid e3
      clear k3 e3
      refine pl rfl rfl ?_
      gi_wp2_with (fail)
      refine ⟨trivial, ?_⟩
      refine (callsIn_wide.2 (bal_s _ b nk nv _ _ _ (HN.out.kept K1.out) t3 r _ _ l3 (h2.kept K1.out) (by have := HL.out; have := length_put_le (lt := ltS) (xs := l.list) (k := k) (v := v); rw [E3.out]; omega))).mono ?_
      rintro e w2 ⟨p4, t4, rfl, l4, e4, k4⟩
      gi_wp2_with (fail)
      refine ⟨Wd.mem (K1.out.trans k4), ?_⟩
      repeat (refine pq rfl rfl ?_; go_big_quiet_step (fail); refine wpQuiet_nil ?_)
      refine perm_nil ?_
      gi_wp2
      go_ret
      exact ⟨_, t4, rfl, l4, by rw [e4, E3.out]; exact (put_low HLT.out).symm, K1.out.trans k4⟩
    | false =>
      cases hgt : ltS nk k with
      | true =>
        have HLT := Lib.hid hlt
        have HGT := Lib.hid hgt
        clear hlt hgt
        refine (callsIn_wide (n := 10)).1 ?_
        refine callsIn_of_wp Try.func45 rfl trivial ?_ rfl
        simp only [Try.ntmps45, List.size_toArray, List.length_cons, List.length_nil, Nat.reduceAdd, Nat.reduceSub, Array.replicate_succ, Array.replicate_zero, List.push_toArray, List.append_toArray, List.nil_append, List.cons_append]
        gi_wp2_with (fail)
        refine ⟨trivial, ?_⟩
        refine (callsIn_wide.2 (cmp_s w k nk 1 (by rw [HLT.out, HGT.out]; rfl))).mono ?_
        rintro e w' ⟨rfl, rfl⟩
        gi_wp2_with (fail)
        refine region_held [0, 1, 2, 3, 4, 5, 6, 7, 8, 9, 10, 11, 12, 13] (Kept w) (by kernel_rfl) (by kernel_rfl) (fun _ _ d _ _ h => by cases d <;> exact h) kd.out (fun _ => ?_)
        repeat (refine pq rfl rfl ?_; go_big_quiet_step (fail); refine wpQuiet_nil ?_)
        refine pl rfl rfl ?_
        gi_wp2_with (fail)
        refine ⟨trivial, ?_⟩
        refine (callsIn_wide.2 (IHR.out _ _ k v (h2.kept kd.out) A2.out (by have := HL.out; omega))).mono ?_
        rintro e w1 ⟨p3, t3, rfl, l3, e3, k3⟩
        gi_wp2_with (fail)
        refine ⟨Wd.mem (kd.out.trans k3), ?_⟩
        repeat (refine pq rfl rfl ?_; go_big_quiet_step (fail); refine wpQuiet_nil ?_)
        have K1 := Lib.hid (kd.out.trans k3)
        have E3 := Lib.hid e3
        clear k3 e3
        refine pl rfl rfl ?_
        gi_wp2_with (fail)
        refine ⟨trivial, ?_⟩
        refine (callsIn_wide.2 (bal_s _ b nk nv _ _ _ (HN.out.kept K1.out) l t3 _ _ (h1.kept K1.out) l3 (by have := HL.out; have := length_put_le (lt := ltS) (xs := r.list) (k := k) (v := v); rw [E3.out]; omega))).mono ?_
        rintro e w2 ⟨p4, t4, rfl, l4, e4, k4⟩
        gi_wp2_with (fail)
        refine ⟨Wd.mem (K1.out.trans k4), ?_⟩
        repeat (refine pq rfl rfl ?_; go_big_quiet_step (fail); refine wpQuiet_nil ?_)
        refine perm_nil ?_
        gi_wp2
        go_ret
        exact ⟨_, t4, rfl, l4, by rw [e4, E3.out]; exact (put_high linS HGT.out A3.out).symm, K1.out.trans k4⟩
      | false =>
        have HLT := Lib.hid hlt
        have HGT := Lib.hid hgt
        clear hlt hgt
        obtain ⟨al, rfl⟩ := h1.pointer
        obtain ⟨ar, rfl⟩ := h2.pointer
        refine (callsIn_wide (n := 10)).1 ?_
        refine callsIn_of_wp Try.func45 rfl trivial ?_ rfl
        simp only [Try.ntmps45, List.size_toArray, List.length_cons, List.length_nil, Nat.reduceAdd, Nat.reduceSub, Array.replicate_succ, Array.replicate_zero, List.push_toArray, List.append_toArray, List.nil_append, List.cons_append]
        gi_wp2_with (fail)
        refine ⟨trivial, ?_⟩
        refine (callsIn_wide.2 (cmp_s w k nk 0 (by rw [HLT.out, HGT.out]; rfl))).mono ?_
        rintro e w' ⟨rfl, rfl⟩
        gi_wp2_with (fail)
        refine region_held [0, 1, 2, 3, 4, 5, 6, 7, 8, 9, 10, 11, 12, 13, 14, 15, 16, 17, 18, 19] (Kept w) (by kernel_rfl) (by kernel_rfl) (fun _ _ d _ _ h => by cases d <;> exact h) kd.out (fun _ => ?_)
        repeat (refine pq rfl rfl ?_; go_big_quiet_step (fail); refine wpQuiet_nil ?_)
        refine pl rfl rfl ?_
        gi_wp2
        refine ⟨Wd.mem (kd.out.trans (Turned.alloc _ _ _)), ?_⟩
        repeat (refine pq rfl rfl ?_; go_big_quiet_step (fail); refine wpQuiet_nil ?_)
        refine perm_nil ?_
        gi_wp2
        go_ret
        obtain rfl : k = nk := linS.tri HLT.out HGT.out
        rw [show (Tr.node l k nv r).list = l.list ++ (k, nv) :: r.list from rfl, put_eq linS rfl A3.out]
        exact made_of_s (new_s w k v _ _ _) h1 h2 rfl ((Turned.alloc _ w _).trans (Kept.drew _) (fun _ e => e) (fun _ _ e => e))
end Go.Proofs.Ytfckphcbleodbaa
