/-
  What the accesses of the program's memory answer, and what they turn, at a memory as it lies (PMem).
-/
import Derived.Test.YtoaicedkepcalaaCell
import Derived.Test.YtoaicedkepcalaaRows
import Derived.WalkKit
import Derived.WalkSmall
import Derived.BigQuiet
import Derived.Deep.QuietTactic
namespace Go.Proofs.Ytoaicedkepcalaa
open Go.RowKit

/-- The box behind a count. -/
theorem count_p {w : World} {n₀ b : Nat} {v : Value} {s : Mst} (h : PMem w n₀ b v s) (c : Int) : PMem (w.setCell ⟨b, 2, none⟩ (.int .i64 c)) n₀ b v { s with count := c } :=
  h.boxed (by decide) (Turned.setCell _ _ _ rfl) (by rw [box_set _ h.box]; rfl) rfl rfl
theorem odd_p {w : World} {n₀ b : Nat} {v : Value} {s : Mst} (h : PMem w n₀ b v s) (c : Int) : PMem (w.setCell ⟨b, 3, none⟩ (.int .i64 c)) n₀ b v { s with odd := c } :=
  h.boxed (by decide) (Turned.setCell _ _ _ rfl) (by rw [box_set _ h.box]; rfl) rfl rfl
theorem ref_p {w : World} {n₀ b : Nat} {v : Value} {s : Mst} (h : PMem w n₀ b v s) (c : Int) : PMem (w.setCell ⟨b, 4, none⟩ (.int .i64 c)) n₀ b v { s with ref := c } :=
  h.boxed (by decide) (Turned.setCell _ _ _ rfl) (by rw [box_set _ h.box]; rfl) rfl rfl

theorem isUsed_p (w : World) (n₀ b : Nat) (v : Value) (s : Mst) (a : Int) (u : Bool) (h : PMem w n₀ b v s) (hu : s.used a = u) :
    Calls Try.prog 43 #[.pointer (some ⟨b, 0, none⟩), .int .i64 a] w fun e w' => e = .returned (.bool u) ∧ w = w' := by
  obtain ⟨⟨c0, _⟩, _⟩ := h.opened
  obtain ⟨a0, cap, rfl, _⟩ := h.form
  subst hu
  clear h
  by_cases h1 : 1 ≤ a
  · go_enter Try.func43, Try.ntmps43
    go_wp2
    go_ret
    exact ⟨congrArg (fun b => Ending.returned (.bool b)) (by simp [Mst.used, h1]), rfl⟩
  · go_enter Try.func43, Try.ntmps43
    go_wp2
    go_ret
    exact ⟨congrArg (fun b => Ending.returned (.bool b)) (by simp [Mst.used]; omega), rfl⟩

theorem reach_p (w : World) (n₀ b : Nat) (v : Value) (s : Mst) (a : Int) (u : Bool) (h : PMem w n₀ b v s) (hu : s.used a = u) :
    Calls Try.prog 41 #[.pointer (some ⟨b, 0, none⟩), .int .i64 a] w fun e w' => e = .returned (.bool u) ∧ PMem w' n₀ b v (s.touch a) ∧ Turned (fun k => k = b) w w' := by
  obtain ⟨⟨c0, c1, c2, c3, c4⟩, f⟩ := h.opened
  have f2 := f 2
  have f3 := f 3
  have H1 := hide (count_p h (wrap64 (s.count + 1)))
  have H2 := hide (odd_p H1.out (wrap64 (s.odd + 1)))
  obtain ⟨a0, cap, rfl, _⟩ := h.form
  have hl := h.len
  have HU := hide hu
  cases u with
  | true =>
    have HE : Hid (s.touch a = { s with count := wrap64 (s.count + 1) }) := hide (by rw [Mst.touch, if_pos hu])
    obtain ⟨i1, i2⟩ := Mst.used_iff.1 hu
    clear h f hu
    go_enter Try.func41, Try.ntmps41
    go_wp2_with (fail)
    refine (isUsed_p _ n₀ b _ _ a true H1.out HU.out).mono ?_
    rintro e w' ⟨rfl, rfl⟩
    go_wp2
    go_ret
    exact ⟨rfl, by rw [HE.out]; exact H1.out, Turned.setCell _ _ _ rfl⟩
  | false =>
    have HE : Hid (s.touch a = { s with count := wrap64 (s.count + 1), odd := wrap64 (s.odd + 1) }) := hide (by rw [Mst.touch, hu]; rfl)
    have HN : ¬ (1 ≤ a ∧ a ≤ (s.xs.length : Int)) := fun e => by rw [Mst.used_iff.2 e] at hu; cases hu
    clear h f hu
    clear HN
    go_enter Try.func41, Try.ntmps41
    go_wp2_with (fail)
    refine (isUsed_p _ n₀ b _ _ a false H1.out HU.out).mono ?_
    rintro e w' ⟨rfl, rfl⟩
    go_wp2
    go_ret
    exact ⟨rfl, by rw [HE.out]; exact H2.out, (Turned.setCell (R := fun k => k = b) w ⟨b, 2, none⟩ _ rfl).trans (Turned.setCell (R := fun k => k = b) _ ⟨b, 3, none⟩ _ rfl) (fun _ h => h) (fun _ _ h => h)⟩

/-- At -/
theorem look_p (w : World) (n₀ b : Nat) (v : Value) (s : Mst) (a : Int) (h : PMem w n₀ b v s) :
    Calls Try.prog 20 #[.pointer (some ⟨b, 0, none⟩), .int .i64 a] w fun e w' => e = .returned (.int .i64 (s.look a)) ∧ w = w' := by
  have c0 := h.opened.1.1
  have hl := h.len
  have H := hide h
  cases hu : s.used a with
  | true =>
    obtain ⟨j, rfl, hj⟩ := Mst.used_nat hu
    obtain ⟨g, cap, z, rfl, hz, hc, _, hgb⟩ := h.cellAt (by decide) hj
    rw [Mst.look_succ hz]
    have HU := hide hu
    have i1 : (j : Int) < (s.xs.length : Int) := by omega
    clear hu h hz
    go_enter Try.func20, Try.ntmps20
    go_wp2_with (fail)
    refine (isUsed_p _ n₀ b _ _ _ true H.out HU.out).mono ?_
    rintro e w' ⟨rfl, rfl⟩
    go_wp2
    go_ret
    exact ⟨rfl, rfl⟩
  | false =>
    rw [Mst.look_none hu]
    have HN : ¬ (1 ≤ a ∧ a ≤ (s.xs.length : Int)) := fun e => by rw [Mst.used_iff.2 e] at hu; cases hu
    obtain ⟨a0, cap, rfl, _⟩ := h.form
    clear h
    clear HN
    go_enter Try.func20, Try.ntmps20
    go_wp2_with (fail)
    refine (isUsed_p _ n₀ b _ _ _ false H.out hu).mono ?_
    rintro e w' ⟨rfl, rfl⟩
    go_wp2
    go_ret
    exact ⟨rfl, rfl⟩

/-- Read -/
theorem read_p (w : World) (n₀ b : Nat) (v : Value) (s : Mst) (a : Int) (h : PMem w n₀ b v s) :
    Calls Try.prog 39 #[.pointer (some ⟨b, 0, none⟩), .int .i64 a] w fun e w' => e = .returned (.int .i64 (s.look a)) ∧ PMem w' n₀ b v (s.touch a) ∧ Turned (fun k => k = b) w w' := by
  have hl := h.len
  have H := hide h
  cases hu : s.used a with
  | true =>
    obtain ⟨j, rfl, hj⟩ := Mst.used_nat hu
    obtain ⟨g, cap, z, rfl, hz, hc, _, hgb⟩ := h.cellAt (by decide) hj
    rw [Mst.look_succ hz]
    have HU := hide hu
    have i1 : (j : Int) < (s.xs.length : Int) := by omega
    clear hu h hz
    go_enter Try.func39, Try.ntmps39
    go_wp2_with (fail)
    refine (reach_p _ n₀ b _ _ _ true H.out HU.out).mono ?_
    rintro e w' ⟨rfl, h1, t1⟩
    have c0 := h1.opened.1.1
    have c1 := t1.cell hc hgb
    have H1 := hide h1
    have T1 := hide t1
    clear h1 t1 hc
    go_wp2
    go_ret
    exact ⟨rfl, H1.out, T1.out⟩
  | false =>
    rw [Mst.look_none hu]
    have HU := hide hu
    clear hu h
    go_enter Try.func39, Try.ntmps39
    go_wp2_with (fail)
    refine (reach_p _ n₀ b _ _ _ false H.out HU.out).mono ?_
    rintro e w' ⟨rfl, h1, t1⟩
    have H1 := hide h1
    have T1 := hide t1
    clear h1 t1
    go_wp2
    go_ret
    exact ⟨rfl, H1.out, T1.out⟩

/-- What a store into the row leaves. -/
theorem put_p {w w1 : World} {n₀ b g cap j : Nat} {s : Mst} (hj : j < s.xs.length) (h : PMem w1 n₀ b (.slice (some ⟨g, 0, none⟩) s.xs.length cap) (s.touch ((j : Int) + 1))) (t : Turned (fun k => k = b) w w1) (x : Int) :
    PMem (w1.setCell ⟨g, j, none⟩ (.int .i64 x)) n₀ b (.slice (some ⟨g, 0, none⟩) s.xs.length cap) (s.write ((j : Int) + 1) x) ∧ Turned (Foot b (.slice (some ⟨g, 0, none⟩) s.xs.length cap)) w (w1.setCell ⟨g, j, none⟩ (.int .i64 x)) := by
  rw [Mst.write_in hj]
  rw [Mst.touch_in (Mst.used_succ hj)] at h
  exact ⟨MemAt.stored (T := 50) (s := { s with count := wrap64 (s.count + 1) }) h (by decide) x, t.trans (Turned.setCell (R := Foot b (.slice (some ⟨g, 0, none⟩) s.xs.length cap)) w1 ⟨g, j, none⟩ _ (.inr rfl)) (fun _ e => .inl e) (fun _ _ e => e)⟩
theorem touched_p {w w1 : World} {b : Nat} {v : Value} (t : Turned (fun k => k = b) w w1) : Turned (Foot b v) w w1 := t.mono (fun _ _ e => .inl e)

/-- Write -/
theorem write_p (w : World) (n₀ b : Nat) (v : Value) (s : Mst) (a x : Int) (h : PMem w n₀ b v s) :
    Calls Try.prog 18 #[.pointer (some ⟨b, 0, none⟩), .int .i64 a, .int .i64 x] w fun e w' => e = .returned (.tuple #[]) ∧ PMem w' n₀ b v (s.write a x) ∧ Turned (Foot b v) w w' := by
  have hl := h.len
  have H := hide h
  cases hu : s.used a with
  | true =>
    obtain ⟨j, rfl, hj⟩ := Mst.used_nat hu
    obtain ⟨g, cap, z, rfl, hz, hc, hf, hgb⟩ := h.cellAt (by decide) hj
    have HU := hide hu
    have i1 : (j : Int) < (s.xs.length : Int) := by omega
    clear hu h hz
    go_enter Try.func18, Try.ntmps18
    go_wp2_with (fail)
    refine (reach_p _ n₀ b _ _ _ true H.out HU.out).mono ?_
    rintro e w1 ⟨rfl, h1, t1⟩
    have c0 := h1.opened.1.1
    have c1 := t1.cell hc hgb
    have f1 := (t1.frozen (p := ⟨g, j, none⟩) (World.block_lt_of_cell? _ _ hc) hgb).trans hf
    have HP := hide (put_p hj h1 t1 x)
    clear h1 t1 hc
    go_wp2
    go_end0
    exact ⟨rfl, HP.out⟩
  | false =>
    rw [Mst.write_out hu]
    have HU := hide hu
    clear hu h
    go_enter Try.func18, Try.ntmps18
    go_wp2_with (fail)
    refine (reach_p _ n₀ b _ _ _ false H.out HU.out).mono ?_
    rintro e w1 ⟨rfl, h1, t1⟩
    have H1 := hide h1
    have T1 := hide (touched_p (v := v) t1)
    clear h1 t1
    go_wp2
    go_end0
    exact ⟨rfl, H1.out, T1.out⟩

/-- Cas -/
theorem cas_p (w : World) (n₀ b : Nat) (v : Value) (s : Mst) (a old x : Int) (h : PMem w n₀ b v s) :
    Calls Try.prog 36 #[.pointer (some ⟨b, 0, none⟩), .int .i64 a, .int .i64 old, .int .i64 x] w fun e w' => e = .returned (.bool (s.did a old)) ∧ PMem w' n₀ b v (s.cas a old x) ∧ Turned (Foot b v) w w' := by
  have hl := h.len
  have H := hide h
  cases hu : s.used a with
  | true =>
    obtain ⟨j, rfl, hj⟩ := Mst.used_nat hu
    obtain ⟨g, cap, z, rfl, hz, hc, hf, hgb⟩ := h.cellAt (by decide) hj
    rw [Mst.cas, Mst.did_in hz]
    have HU := hide hu
    have i1 : (j : Int) < (s.xs.length : Int) := by omega
    clear hu h hz
    cases ho : z == old with
    | true =>
      have ho' : (z == old) = true := ho
      go_enter Try.func36, Try.ntmps36
      go_wp2_with (fail)
      refine (reach_p _ n₀ b _ _ _ true H.out HU.out).mono ?_
      rintro e w1 ⟨rfl, h1, t1⟩
      have c0 := h1.opened.1.1
      have c1 := t1.cell hc hgb
      have f1 := (t1.frozen (p := ⟨g, j, none⟩) (World.block_lt_of_cell? _ _ hc) hgb).trans hf
      have HP := hide (put_p hj h1 t1 x)
      clear h1 t1 hc
      go_wp2
      go_ret
      exact ⟨rfl, HP.out⟩
    | false =>
      go_enter Try.func36, Try.ntmps36
      go_wp2_with (fail)
      refine (reach_p _ n₀ b _ _ _ true H.out HU.out).mono ?_
      rintro e w1 ⟨rfl, h1, t1⟩
      have c0 := h1.opened.1.1
      have c1 := t1.cell hc hgb
      have H1 := hide h1
      have T1 := hide (touched_p (v := (.slice (some ⟨g, 0, none⟩) s.xs.length cap)) t1)
      clear h1 t1 hc
      go_wp2
      go_ret
      exact ⟨rfl, H1.out, T1.out⟩
  | false =>
    rw [Mst.cas, Mst.did_out hu, if_neg (by simp)]
    have HU := hide hu
    clear hu h
    go_enter Try.func36, Try.ntmps36
    go_wp2_with (fail)
    refine (reach_p _ n₀ b _ _ _ false H.out HU.out).mono ?_
    rintro e w1 ⟨rfl, h1, t1⟩
    have H1 := hide h1
    have T1 := hide (touched_p (v := v) t1)
    clear h1 t1
    go_wp2
    go_ret
    exact ⟨rfl, H1.out, T1.out⟩

/-- New, of a size that may be. -/
theorem new_p (w : World) (n : Int) (h0 : 1 ≤ n) (h1 : n ≤ 65536) :
    Calls Try.prog 7 #[.int .i64 n] w fun e w' => e = .returned (.tuple #[.pointer (some ⟨w.heap.size, 0, none⟩), .int .i64 0]) ∧ PMem w' w.heap.size w.heap.size (.slice none 0 0) (Mst.new n) ∧ Kept w w' ∧ w.heap.size < w'.heap.size := by
  have HN : Hid (PMem (w.alloc (.cells (layP (.slice none 0 0) n 0 0 0) 50)) w.heap.size w.heap.size (.slice none 0 0) (Mst.new n)) := hide ⟨Nat.le_refl _, heap_new w _, World.ownsRow_nil _ _ _ _, by show (0 : Int) ≤ n; omega, h1⟩
  go_enter Try.func7, Try.ntmps7
  go_wp2
  go_ret2
  exact ⟨rfl, HN.out, Turned.alloc _ _ _, by simp⟩
/-- New, of one that may not. -/
theorem new0_p (w : World) (n : Int) (h : ¬ (1 ≤ n ∧ n ≤ 65536)) :
    Calls Try.prog 7 #[.int .i64 n] w fun e w' => e = .returned (.tuple #[.pointer none, .int .i64 1]) ∧ w = w' := by
  by_cases h0 : 1 ≤ n
  · have h1 : 65536 < n := by omega
    clear h
    go_enter Try.func7, Try.ntmps7
    go_wp2
    go_ret2
    exact ⟨rfl, rfl⟩
  · have h1 : n < 1 := by omega
    clear h
    go_enter Try.func7, Try.ntmps7
    go_wp2
    go_ret2
    exact ⟨rfl, rfl⟩
end Go.Proofs.Ytoaicedkepcalaa
