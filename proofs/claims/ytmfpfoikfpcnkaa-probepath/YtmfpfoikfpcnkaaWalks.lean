/-
  What probe's two walks from a guess answer (contracts): the path that was handed in, with the keys that they look at behind it, in memory from n₀ on; what lay below n₀ is not turned.
-/
import Derived.Test.YtmfpfoikfpcnkaaFind
namespace Go.Proofs.Ytmfpfoikfpcnkaa
open Go.RowKit

theorem info3 : (Try.prog.info? 3).map (fun i => (i.zero, i.size, i.bytes)) = some (some (.int .i64 0), 1, 8) := by kernel_rfl

/-- A path from n₀ on; what lay below n₀ lies as it lay. -/
def Pathed (n₀ : Nat) (xs : List Int) (w : World) (e : Ending) (w' : World) : Prop := ∃ v, e = .returned v ∧ Row w' n₀ 3 v xs ∧ Turned (fun g => n₀ ≤ g) w w'
/-- What may be turned from n₀ on. -/
abbrev From (n₀ : Nat) (w w' : World) : Prop := Turned (fun g => n₀ ≤ g) w w'
theorem From.trans {n₀ : Nat} {a b c : World} (h : From n₀ a b) (k : From n₀ b c) : From n₀ a c := Turned.trans h k (fun _ e => e) (fun _ _ e => e)
theorem From.of_kept {n₀ : Nat} {a b : World} (h : Kept a b) : From n₀ a b := Turned.mono h (fun _ _ e => e.elim)
theorem From.kept {w0 w w' : World} (k : Kept w0 w) (h : From w0.heap.size w w') : Kept w0 w' := k.own (fun _ h => h) h
/-- A slice that reads as these numbers whatever is turned from n₀ on. -/
def Old (n₀ : Nat) (w : World) (a : Option Addr) (q : List Int) : Prop := ∀ w', From n₀ w w' → Reads w' a q
theorem Old.reads {n₀ : Nat} {w : World} {a : Option Addr} {q : List Int} (h : Old n₀ w a q) : Reads w a q := h w (Turned.refl _ _)
theorem Old.turned {n₀ : Nat} {w w' : World} {a : Option Addr} {q : List Int} (h : Old n₀ w a q) (ht : From n₀ w w') : Old n₀ w' a q := fun _ h' => h _ (ht.trans h')
theorem Reads.old {w : World} {a : Option Addr} {q : List Int} (h : Reads w a q) : Old w.heap.size w a q := fun _ ht => h.turned ht (fun k hk _ e => by omega)

theorem goUp_step (q : List Int) (k : Int) (m s : Nat) : goUp q k (m + 1) (s + 1) = ((s : Int) + 1) :: if k < q.getD s 0 then [] else goUp q k m (s + 1 + 1) := by
  rw [goUp]
  simp
theorem getD_some {q : List Int} {i : Nat} {z : Int} (h : q[i]? = some z) : q.getD i 0 = z := by
  rw [List.getD_eq_getElem?_getD, h]
  rfl

theorem row_append {w : World} {n₀ g gc : Nat} {zs : List Int} {x : Int} (h : w.ownsRow n₀ 3 1 (.slice (some ⟨g, 0, none⟩) (zs.length + 1) gc) (zs.length + 1) (cellsOf zs ++ [.int .i64 x])) : Row w n₀ 3 (.slice (some ⟨g, 0, none⟩) (zs.length + 1) gc) (zs ++ [x]) := by
  unfold Row
  rw [List.length_append, List.length_singleton]
  rw [show cellsOf (zs ++ [x]) = cellsOf zs ++ [.int .i64 x] by simp [cellsOf]]
  exact h

set_option maxRecDepth 100000 in
theorem walkUp_c (w : World) (n₀ : Nat) (v : Value) (xs : List Int) (a : Option Addr) (q : List Int) (cap : Nat) (k : Int) (j : Nat)
    (hv : Row w n₀ 3 v xs) (hn : n₀ ≤ w.heap.size) (hr : Old n₀ w a q) (hc : q.length ≤ cap) (hl : q.length ≤ 65536) (hx : xs.length ≤ 4) (hj : j < q.length) :
    Calls Try.prog 32 #[v, .slice a q.length cap, .int .i64 k, .int .i64 (j : Int)] w (Pathed n₀ (xs ++ goUp q k (q.length - (j + 1)) (j + 1)) w) := by
  obtain ⟨y0, hi', hz0, hz1, hz2⟩ := info_parts info3
  have HR := hide hr
  have HV := hide hv
  have HL := hide hl
  have HX := hide hx
  have hl' : (q.length : Int) ≤ 65536 := by omega
  have hj' : (j : Int) < 65536 := by omega
  clear hr hv hl hx
  go_enter Try.func32, Try.ntmps32
  go_wp2
  go_loopw [0, 9] (fun u i wr => ∃ (s m : Nat) (ys : List Int), s + 1 + m = q.length ∧ ys.length ≤ s + 4 ∧ i = .int .i64 ((s : Int) + 1) ∧ Hid (ys ++ goUp q k m (s + 1) = xs ++ goUp q k (q.length - (j + 1)) (j + 1)) ∧ Hid (Row wr n₀ 3 u ys) ∧ Hid (From n₀ w wr)) (fun _ i _ => q.length - (intOf i).toNat)
  case atStart => exact ⟨j, q.length - (j + 1), xs, by omega, by have := HX.out; omega, rfl, hide rfl, HV, hide (Turned.refl _ _)⟩
  case round =>
    obtain ⟨s, m, ys, hsm, hys, rfl, HE, HW, HT⟩ := hrel
    clear HV
    cases m with
    | zero =>
      have i1 : ¬ ((s : Int) + 1 < (q.length : Int)) := by omega
      have HE' : Hid (ys = xs ++ goUp q k (q.length - (j + 1)) (j + 1)) := hide (by have := HE.out; simpa [goUp] using this)
      clear HE hsm
      go_wp2
      go_ret
      exact ⟨_, rfl, by rw [← HE'.out]; exact HW.out, HT.out⟩
    | succ m =>
      have i1 : (s : Int) + 1 < (q.length : Int) := by omega
      obtain ⟨z, hz⟩ : ∃ p, q[s]? = some p := ⟨_, List.getElem?_eq_getElem (by omega)⟩
      have HZ := hide hz
      have HS : Hid (ys.length ≤ 65540) := hide (by have := HL.out; omega)
      have i3 : s < cap := by omega
      have zr : n₀ ≤ wr.heap.size := Nat.le_trans hn HT.out.size
      have hrow := HW.out.alloc (.cells #[.int .i64 ((s : Int) + 1)] 3)
      clear hz
      go_wp2_with (at_builtin; refine Stop.out ?_)
      refine ⟨?_⟩
      refine wpList_append_lies _ rfl _ _ 26 rfl n₀ 3 y0 (.int .i64 0) 1 8 Try.underlying26 hi' hz0 hz1 hz2 rfl (by decide) _ _ _ rfl hrow ⟨wr.heap.size, 0, none⟩ 1 1 [.int .i64 ((s : Int) + 1)] rfl rfl (one_new _ _ _) (by simp [Value.oneCell']) (by decide) (by have := HS.out; unfold maxLen; omega) (by have := HS.out; omega) (by simp; omega) (wr.heap.size + 1) (by simp) ?_
      intro g gc A1 hown hgrow hat hlt2
      have T1 := hide (HT.out.trans (turned_append HW.out hgrow))
      have R1 := hide (row_append hown)
      obtain ⟨bl, off, rfl, hbl, g1⟩ := (HR.out A1 T1.out).at HZ.out
      clear hown hgrow hat hlt2 hrow HW HT
      by_cases hzk : k < z
      · have HE' : Hid (ys ++ [(s : Int) + 1] = xs ++ goUp q k (q.length - (j + 1)) (j + 1)) := hide (by
          have := HE.out
          rw [goUp_step, getD_some HZ.out, if_pos hzk] at this
          exact this)
        clear HE
        go_wp2
        go_ret
        exact ⟨_, rfl, by rw [← HE'.out]; exact R1.out, T1.out⟩
      · have HE' : Hid (ys ++ [(s : Int) + 1] ++ goUp q k m (s + 1 + 1) = xs ++ goUp q k (q.length - (j + 1)) (j + 1)) := hide (by
          have := HE.out
          rw [goUp_step, getD_some HZ.out, if_neg hzk] at this
          simpa using this)
        clear HE
        go_wp2
        exact ⟨⟨s + 1, m, ys ++ [(s : Int) + 1], by omega, by simp; omega, by simp, HE', R1, T1⟩, by simp [intOf]; omega⟩

set_option maxRecDepth 100000 in
theorem walkDown_c (w : World) (n₀ : Nat) (v : Value) (xs : List Int) (a : Option Addr) (q : List Int) (cap : Nat) (k : Int) (j : Nat)
    (hv : Row w n₀ 3 v xs) (hn : n₀ ≤ w.heap.size) (hr : Old n₀ w a q) (hc : q.length ≤ cap) (hl : q.length ≤ 65536) (hx : xs.length ≤ 4) (hj : j < q.length) (hj1 : 2 ≤ j) :
    Calls Try.prog 33 #[v, .slice a q.length cap, .int .i64 k, .int .i64 (j : Int)] w (Pathed n₀ (xs ++ goDown q k (j - 2)) w) := by
  obtain ⟨y0, hi', hz0, hz1, hz2⟩ := info_parts info3
  obtain ⟨J, rfl⟩ : ∃ J, j = J + 2 := ⟨j - 2, by omega⟩
  rw [Nat.add_sub_cancel]
  have HR := hide hr
  have HV := hide hv
  have HL := hide hl
  have HX := hide hx
  have hl' : (q.length : Int) ≤ 65536 := by omega
  have hj' : (J : Int) < 9223372036854775800 := by omega
  have ej : ((J + 2 : Nat) : Int) = (J : Int) + 2 := by omega
  rw [ej]
  clear hr hv hl hx hj1 ej
  go_enter Try.func33, Try.ntmps33
  go_wp2
  go_loopw [0, 9] (fun u i wr => ∃ (m : Nat) (ys : List Int), m ≤ J ∧ ys.length + m ≤ J + 4 ∧ i = .int .i64 ((m : Int) + 1) ∧ Hid (ys ++ goDown q k m = xs ++ goDown q k J) ∧ Hid (Row wr n₀ 3 u ys) ∧ Hid (From n₀ w wr)) (fun _ i _ => (intOf i).toNat)
  case atStart => exact ⟨J, xs, Nat.le_refl _, by have := HX.out; omega, by first | rfl | (congr 1; omega), hide rfl, HV, hide (Turned.refl _ _)⟩
  case round =>
    obtain ⟨m, ys, hm, hys, rfl, HE, HW, HT⟩ := hrel
    clear HV
    cases m with
    | zero =>
      have HE' : Hid (ys = xs ++ goDown q k J) := hide (by have := HE.out; simpa [goDown] using this)
      clear HE
      go_wp2
      go_ret
      exact ⟨_, rfl, by rw [← HE'.out]; exact HW.out, HT.out⟩
    | succ m =>
      obtain ⟨z, hz⟩ : ∃ p, q[m + 1]? = some p := ⟨_, List.getElem?_eq_getElem (by omega)⟩
      have HZ := hide hz
      have HS : Hid (ys.length ≤ 65540) := hide (by have := HL.out; omega)
      have i3 : m + 1 < cap := by omega
      have i4 : m + 1 < q.length := by omega
      have zr : n₀ ≤ wr.heap.size := Nat.le_trans hn HT.out.size
      have em : ((m + 1 : Nat) : Int) + 1 = (m : Int) + 2 := by omega
      rw [em]
      have hrow := HW.out.alloc (.cells #[.int .i64 ((m : Int) + 2)] 3)
      have HM : Hid (m + 1 ≤ J ∧ ys.length + (m + 1) ≤ J + 4) := hide ⟨hm, hys⟩
      have i5 : (m : Int) < 9223372036854775000 := by omega
      have i6 : (1 : Int) < (m : Int) + 2 := by omega
      clear hz em hm hys
      go_wp2_with (at_builtin; refine Stop.out ?_)
      refine ⟨?_⟩
      refine wpList_append_lies _ rfl _ _ 26 rfl n₀ 3 y0 (.int .i64 0) 1 8 Try.underlying26 hi' hz0 hz1 hz2 rfl (by decide) _ _ _ rfl hrow ⟨wr.heap.size, 0, none⟩ 1 1 [.int .i64 ((m : Int) + 2)] rfl rfl (one_new _ _ _) (by simp [Value.oneCell']) (by decide) (by have := HS.out; unfold maxLen; omega) (by have := HS.out; omega) (by simp; omega) (wr.heap.size + 1) (by simp) ?_
      intro g gc A1 hown hgrow hat hlt2
      have T1 := hide (HT.out.trans (turned_append HW.out hgrow))
      have R1 := hide (row_append hown)
      obtain ⟨bl, off, rfl, hbl, g1⟩ := (HR.out A1 T1.out).at HZ.out
      clear hown hgrow hat hlt2 hrow HW HT
      by_cases hzk : z ≤ k
      · have HE' : Hid (ys ++ [(m : Int) + 2] = xs ++ goDown q k J) := hide (by
          have := HE.out
          rw [goDown, getD_some HZ.out, if_pos hzk] at this
          simpa using this)
        clear HE
        go_wp2
        go_ret
        exact ⟨_, rfl, by rw [← HE'.out]; exact R1.out, T1.out⟩
      · have HE' : Hid (ys ++ [(m : Int) + 2] ++ goDown q k m = xs ++ goDown q k J) := hide (by
          have := HE.out
          rw [goDown, getD_some HZ.out, if_neg hzk] at this
          simpa using this)
        clear HE
        go_wp2
        exact ⟨⟨m, ys ++ [(m : Int) + 2], by have := HM.out; omega, by have := HM.out; simp; omega, by first | rfl | (congr 1; omega), HE', R1, T1⟩, by simp [intOf]; omega⟩
end Go.Proofs.Ytmfpfoikfpcnkaa
