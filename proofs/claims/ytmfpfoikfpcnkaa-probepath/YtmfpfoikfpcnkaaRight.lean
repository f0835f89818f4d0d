/-
  What probe.Right, the document's Rising, cmp.Less and slices.BinarySearch at int64, probe.Find, the document's Find and its Ints answer, of slices that read as lists of whole numbers; the worlds differ by draws alone.
-/
import Derived.Test.YtmfpfoikfpcnkaaRows
import Derived.Test.YtmfpfoikfpcnkaaOwn
import Derived.Test.YtmfpfoikfpcnkaaProbe
import Derived.WalkKit
import Derived.WalkSmall
import Derived.BigQuiet
import Derived.Deep.QuietTactic
namespace Go.Proofs.Ytmfpfoikfpcnkaa
open Go.RowKit

theorem Reads.two {w : World} {a : Option Addr} {zs : List Int} (h : Reads w a zs) {i j : Nat} {y z : Int} (hy : zs[i]? = some y) (hz : zs[j]? = some z) :
    ∃ bl off, a = some ⟨bl, off, none⟩ ∧ bl < w.heap.size ∧ w.cell? ⟨bl, off + i, none⟩ = some (.int .i64 y) ∧ w.cell? ⟨bl, off + j, none⟩ = some (.int .i64 z) := by
  obtain ⟨bl, off, rfl, h1, h2⟩ := h.at hy
  obtain ⟨bl', off', e, _, h4⟩ := h.at hz
  cases e
  exact ⟨bl, off, rfl, h1, h2, h4⟩

theorem up_false {q : List Int} (h : ¬ q.Pairwise (· < ·)) : upB q = false := by
  simp only [upB, decide_eq_false_iff_not]
  exact fun g => h g.2
theorem up_long {q : List Int} (h : 65536 < q.length) : upB q = false := by
  simp only [upB, decide_eq_false_iff_not]
  exact fun g => by have := g.1; omega
theorem up_true {q : List Int} (h0 : q.length ≤ 65536) (h : q.Pairwise (· < ·)) : upB q = true := by
  simp only [upB, decide_eq_true_eq]
  exact ⟨h0, h⟩

/-- Its first n rise. -/
def PwTo (q : List Int) (n : Nat) : Prop := (q.take n).Pairwise (· < ·)
theorem PwTo.start (q : List Int) : PwTo q 1 := by
  unfold PwTo
  cases q with
  | nil => simp
  | cons x q => simp

set_option maxRecDepth 100000 in
theorem right_c (w : World) (a : Option Addr) (q : List Int) (cap : Nat) (hr : Reads w a q) (hc : q.length ≤ cap) (hm : cap ≤ maxLen) :
    Calls Try.prog 11 #[.slice a q.length cap] w fun e w' => e = .returned (.bool (upB q)) ∧ ∃ m, w' = w.drewN m := by
  have HR := hide hr
  clear hr
  have hm' : (q.length : Int) ≤ 9223372036854775807 := by unfold maxLen at hm; omega
  clear hm
  by_cases hl : 65536 < q.length
  · rw [up_long hl]
    have hl' : (65536 : Int) < (q.length : Int) := by omega
    go_enter Try.func11, Try.ntmps11
    go_wp2
    go_ret
    exact ⟨rfl, 0, rfl⟩
  · have hl' : ¬ ((65536 : Int) < (q.length : Int)) := by omega
    have HL : Hid (q.length ≤ 65536) := hide (by omega)
    clear hl
    go_enter Try.func11, Try.ntmps11
    go_wp2
    go_loopw [3] (fun i wr => ∃ k d : Nat, (k < q.length ∨ k = 0) ∧ i = .int .i64 ((k : Int) + 1) ∧ PwTo q (k + 1) ∧ wr = w.drewN d) (fun i _ => q.length + 1 - (intOf i).toNat)
    case atStart =>
      exact ⟨0, 0, .inr rfl, rfl, .start q, rfl⟩
    case round =>
      obtain ⟨k, d, hk1, rfl, HP, rfl⟩ := hrel
      by_cases hlt : k + 1 < q.length
      · obtain ⟨z, hz⟩ : ∃ p, q[k + 1]? = some p := ⟨_, List.getElem?_eq_getElem hlt⟩
        obtain ⟨y, hy⟩ : ∃ p, q[k]? = some p := ⟨_, List.getElem?_eq_getElem (by omega)⟩
        obtain ⟨bl, off, rfl, hbl, g1, g3⟩ := HR.out.two hy hz
        have i1 : (k : Int) + 1 < (q.length : Int) := by omega
        have i3 : k + 1 < cap := by omega
        by_cases hyz : y < z
        · have HP2 : Hid (PwTo q (k + 1 + 1)) := pw_snoc HP hy hz hyz
          have hzy : ¬ (z ≤ y) := by omega
          clear hz hy hk1 HP hyz
          go_wp2
          go_quiet (fail)
          go_wp2
          exact ⟨⟨k + 1, _, .inl (by omega), by simp, HP2.out, rfl⟩, by simp [intOf]; omega⟩
        · have HF := hide (up_false (pw_not hy hz (by omega)))
          have hyz' : z ≤ y := by omega
          clear hz hy hk1 HP hyz
          go_wp2
          go_quiet (fail)
          go_wp2
          go_ret
          exact ⟨by rw [HF.out]; rfl, _, World.drewN_drewN ..⟩
      · have i1 : ¬ ((k : Int) + 1 < (q.length : Int)) := by omega
        have HF : Hid (upB q = true) := hide (up_true HL.out (by
          have : (q.take (k + 1)).Pairwise (· < ·) := HP
          rwa [List.take_of_length_le (by omega)] at this))
        clear HP
        go_wp2
        go_ret
        exact ⟨by rw [HF.out]; rfl, _, rfl⟩
set_option maxRecDepth 100000 in
theorem rising_r (w : World) (a : Option Addr) (q : List Int) (cap : Nat) (hr : Reads w a q) (hc : q.length ≤ cap) (hm : cap ≤ maxLen) :
    Calls Try.prog 17 #[.slice a q.length cap] w fun e w' => e = .returned (.bool (upB q)) ∧ ∃ m, w' = w.drewN m := by
  have HR := hide hr
  clear hr
  have hm' : (q.length : Int) ≤ 9223372036854775807 := by unfold maxLen at hm; omega
  clear hm
  by_cases hl : 65536 < q.length
  · rw [up_long hl]
    have hl' : (65536 : Int) < (q.length : Int) := by omega
    go_enter Try.func17, Try.ntmps17
    go_wp2
    go_ret
    exact ⟨rfl, 0, rfl⟩
  · have hl' : ¬ ((65536 : Int) < (q.length : Int)) := by omega
    have HL : Hid (q.length ≤ 65536) := hide (by omega)
    clear hl
    go_enter Try.func17, Try.ntmps17
    go_wp2
    go_loopw [3] (fun i wr => ∃ k d : Nat, (k < q.length ∨ k = 0) ∧ i = .int .i64 ((k : Int) + 1) ∧ PwTo q (k + 1) ∧ wr = w.drewN d) (fun i _ => q.length + 1 - (intOf i).toNat)
    case atStart =>
      exact ⟨0, 0, .inr rfl, rfl, .start q, rfl⟩
    case round =>
      obtain ⟨k, d, hk1, rfl, HP, rfl⟩ := hrel
      by_cases hlt : k + 1 < q.length
      · obtain ⟨z, hz⟩ : ∃ p, q[k + 1]? = some p := ⟨_, List.getElem?_eq_getElem hlt⟩
        obtain ⟨y, hy⟩ : ∃ p, q[k]? = some p := ⟨_, List.getElem?_eq_getElem (by omega)⟩
        obtain ⟨bl, off, rfl, hbl, g1, g3⟩ := HR.out.two hy hz
        have i1 : (k : Int) + 1 < (q.length : Int) := by omega
        have i3 : k + 1 < cap := by omega
        by_cases hyz : y < z
        · have HP2 : Hid (PwTo q (k + 1 + 1)) := pw_snoc HP hy hz hyz
          have hzy : ¬ (z ≤ y) := by omega
          clear hz hy hk1 HP hyz
          go_wp2
          go_quiet (fail)
          go_wp2
          exact ⟨⟨k + 1, _, .inl (by omega), by simp, HP2.out, rfl⟩, by simp [intOf]; omega⟩
        · have HF := hide (up_false (pw_not hy hz (by omega)))
          have hyz' : z ≤ y := by omega
          clear hz hy hk1 HP hyz
          go_wp2
          go_quiet (fail)
          go_wp2
          go_ret
          exact ⟨by rw [HF.out]; rfl, _, World.drewN_drewN ..⟩
      · have i1 : ¬ ((k : Int) + 1 < (q.length : Int)) := by omega
        have HF : Hid (upB q = true) := hide (up_true HL.out (by
          have : (q.take (k + 1)).Pairwise (· < ·) := HP
          rwa [List.take_of_length_le (by omega)] at this))
        clear HP
        go_wp2
        go_ret
        exact ⟨by rw [HF.out]; rfl, _, rfl⟩

set_option maxRecDepth 100000 in
theorem less_c (w : World) (x y : Int) : Calls Try.prog 30 #[.int .i64 x, .int .i64 y] w fun e w' => e = .returned (.bool (decide (x < y))) ∧ w = w' := by
  go_enter Try.func30, Try.ntmps30
  go_wp2
  go_ret
  exact ⟨rfl, rfl⟩

/-- Where a key lies: the keys ahead of p are below it, those from p on are not. -/
def Lies (q : List Int) (k : Int) (p : Nat) : Prop := p ≤ q.length ∧ (∀ j z, q[j]? = some z → j < p → z < k) ∧ ∀ j z, q[j]? = some z → p ≤ j → k ≤ z

set_option maxRecDepth 100000 in
theorem search_c (w : World) (a : Option Addr) (q : List Int) (cap : Nat) (x : Int) (hr : Reads w a q) (hc : q.length ≤ cap) (hl : q.length ≤ 65536) (hp : q.Pairwise (· < ·)) :
    Calls Try.prog 23 #[.slice a q.length cap, .int .i64 x] w fun e w' => (∃ p : Nat, Lies q x p ∧ e = .returned (.tuple #[.int .i64 (p : Int), .bool (q[p]? == some x)])) ∧ w = w' := by
  have HR := hide hr
  have HP := hide hp
  clear hr hp
  have hm' : (q.length : Int) ≤ 4611686018427387903 := by omega
  clear hl
  go_enter Try.func23, Try.ntmps23
  go_wp2
  go_loopw [7, 8] (fun vi vj wr => ∃ i j : Nat, i ≤ j ∧ j ≤ q.length ∧ vi = .int .i64 (i : Int) ∧ vj = .int .i64 (j : Int) ∧ Hid (∀ t z, q[t]? = some z → t < i → z < x) ∧ Hid (∀ t z, q[t]? = some z → j ≤ t → x ≤ z) ∧ w = wr) (fun vi vj _ => (intOf vj - intOf vi).toNat)
  case atStart => exact ⟨0, q.length, Nat.zero_le _, Nat.le_refl _, rfl, rfl, hide (fun _ _ _ h => by omega), hide (fun t z h h' => by have := (List.getElem?_eq_some_iff.1 h).1; omega), rfl⟩
  case round =>
    obtain ⟨i, j, hij, hj, rfl, rfl, H1, H2, rfl⟩ := hrel
    by_cases hlt : i < j
    · obtain ⟨h, hh⟩ : ∃ h : Nat, (i + j) / 2 = h := ⟨_, rfl⟩
      have h1 : i ≤ h := by omega
      have h2 : h < j := by omega
      have e : ((i : Int) + (j : Int)) / 2 = (h : Int) := by omega
      obtain ⟨z, hz⟩ : ∃ p, q[h]? = some p := ⟨_, List.getElem?_eq_getElem (by omega)⟩
      obtain ⟨bl, off, rfl, hbl, g1⟩ := HR.out.at hz
      have i1 : (i : Int) < (j : Int) := by omega
      have i3 : h < cap := by omega
      have i4 : h < q.length := by omega
      have HZ := hide hz
      clear hz hh
      by_cases hzx : z < x
      · go_wp2_with (go_at_call 30; refine (less_c _ _ _).mono ?_; rintro e w' ⟨rfl, rfl⟩)
        exact ⟨⟨h + 1, j, by omega, hj, by simp, rfl, hide (fun t z' hz' ht => by have := up_le HP.out hz' HZ.out (by omega); omega), H2, trivial⟩, by simp [intOf]; omega⟩
      · go_wp2_with (go_at_call 30; refine (less_c _ _ _).mono ?_; rintro e w' ⟨rfl, rfl⟩)
        exact ⟨⟨i, h, by omega, by omega, rfl, rfl, H1, hide (fun t z' hz' ht => by have := up_le HP.out HZ.out hz' (by omega); omega), trivial⟩, by simp [intOf]; omega⟩
    · obtain rfl : i = j := by omega
      have HL : Hid (Lies q x i) := hide ⟨hj, H1.out, H2.out⟩
      by_cases hn : i < q.length
      · obtain ⟨z, hz⟩ : ∃ p, q[i]? = some p := ⟨_, List.getElem?_eq_getElem hn⟩
        obtain ⟨bl, off, rfl, hbl, g1⟩ := HR.out.at hz
        have i3 : i < cap := by omega
        by_cases hzx : z = x
        · subst hzx
          have HE : Hid ((q[i]? == some z) = true) := hide (by rw [hz]; simp)
          clear hz H1 H2 hlt
          go_wp2
          go_ret2
          exact ⟨⟨i, HL.out, by rw [HE.out]; rfl⟩, rfl⟩
        · have HE : Hid ((q[i]? == some x) = false) := hide (by rw [hz]; simpa using hzx)
          have hne : (z == x) = false := by simpa using hzx
          clear hz H1 H2 hlt hzx
          go_wp2
          go_ret2
          exact ⟨⟨i, HL.out, by rw [HE.out]; rfl⟩, rfl⟩
      · have HE : Hid ((q[i]? == some x) = false) := hide (by rw [List.getElem?_eq_none (by omega)]; rfl)
        have hn' : ¬ ((i : Int) < (q.length : Int)) := by omega
        clear H1 H2 hlt
        go_wp2
        go_ret2
        exact ⟨⟨i, HL.out, by rw [HE.out]; rfl⟩, rfl⟩
end Go.Proofs.Ytmfpfoikfpcnkaa
