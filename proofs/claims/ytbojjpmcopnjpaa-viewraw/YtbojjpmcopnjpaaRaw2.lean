/-
  What the proof of YtbojjpmcopnjpaaViewRawProof goes by, part 2 of 5: contracts and plain facts; each part begins with its own sentence. No conditions beyond each theorem's own.
-/
import Derived.Test.YtbojjpmcopnjpaaRaw1
import Derived.Lib.BitFns
import Derived.Lib.ItoaNum
import Derived.Test.YtbojjpmcopnjpaaRows
import Derived.WalkKit
import Derived.WalkSmall
import Derived.BigQuiet
import Derived.Deep.QuietTactic
/-! What InnerWords, KeyAt, ChildAt and Begin of node answer, and the document's own InnerWords, KeyAt, ChildAt. No conditions beyond each theorem's own. -/
namespace Go.Proofs.Ytbojjpmcopnjpaa
open Go.RowKit

/-- The cells of an Inner. -/
def innerL (size : Int) (q c : List Int) : List Int := [(c.length : Int), size, 0, 0, 0] ++ (q ++ c)
theorem innerL_length (size : Int) (q c : List Int) : (innerL size q c).length = 5 + q.length + c.length := by simp [innerL]; omega

theorem inner_lists {w : World} (size : Int) {aq ac : Option Addr} {q c : List Int} {cq cc : Nat} (hq : Reads w aq q) (hc : Reads w ac c) (hq0 : aq = none → cq = 0) (hc0 : ac = none → cc = 0) :
    Lists ((w.alloc (.cells #[.int .i64 (c.length : Int), .int .i64 size, .int .i64 0, .int .i64 0, .int .i64 0] 2)).alloc (.cells #[.slice (some ⟨w.heap.size, 0, none⟩) 5 5, .slice aq q.length cq, .slice ac c.length cc] 39)) (w.heap.size + 1) [[(c.length : Int), size, 0, 0, 0], q, c] := by
  have k1 : Kept w (w.alloc (.cells #[.int .i64 (c.length : Int), .int .i64 size, .int .i64 0, .int .i64 0, .int .i64 0] 2)) := Turned.alloc _ _ _
  have r1 : Reads (w.alloc (.cells #[.int .i64 (c.length : Int), .int .i64 size, .int .i64 0, .int .i64 0, .int .i64 0] 2)) (some ⟨w.heap.size, 0, none⟩) [(c.length : Int), size, 0, 0, 0] := Reads.new w 2 [(c.length : Int), size, 0, 0, 0]
  have hq1 := hq.kept k1
  have hc1 := hc.kept k1
  have hs : (w.alloc (.cells #[.int .i64 (c.length : Int), .int .i64 size, .int .i64 0, .int .i64 0, .int .i64 0] 2)).heap.size = w.heap.size + 1 := by simp
  generalize w.alloc (.cells #[.int .i64 (c.length : Int), .int .i64 size, .int .i64 0, .int .i64 0, .int .i64 0] 2) = W at *
  have k2 : Kept W (W.alloc (.cells #[.slice (some ⟨w.heap.size, 0, none⟩) 5 5, .slice aq q.length cq, .slice ac c.length cc] 39)) := Turned.alloc _ _ _
  have hb : (W.alloc (.cells #[.slice (some ⟨w.heap.size, 0, none⟩) 5 5, .slice aq q.length cq, .slice ac c.length cc] 39)).heap[w.heap.size + 1]? = some (.cells #[.slice (some ⟨w.heap.size, 0, none⟩) 5 5, .slice aq q.length cq, .slice ac c.length cc] 39) := by rw [← hs]; exact heap_new W _
  intro t zs ht
  rcases t with _ | _ | _ | t
  · simp at ht
    subst ht
    exact ⟨_, 5, by simp [World.cell?, hb], r1.kept k2, fun e => by cases e⟩
  · simp at ht
    subst ht
    exact ⟨aq, cq, by simp [World.cell?, hb], hq1.kept k2, hq0⟩
  · simp at ht
    subst ht
    exact ⟨ac, cc, by simp [World.cell?, hb], hc1.kept k2, hc0⟩
  · simp at ht

/-- InnerWords, of one more child than there are keys. -/
theorem inner_c (w : World) (size : Int) (aq : Option Addr) (q : List Int) (cq : Nat) (ac : Option Addr) (c : List Int) (cc : Nat) (hq : Reads w aq q) (hc : Reads w ac c) (hq0 : aq = none → cq = 0) (hc0 : ac = none → cc = 0) (hlen : c.length = q.length + 1) (hl : c.length ≤ 40000) :
    Calls Try.prog 51 #[.int .i64 size, .slice aq q.length cq, .slice ac c.length cc] w (Fresh (innerL size q c) w) := by
  have HC := hide (concat_c _ (w.heap.size + 1) 3 3 _ (inner_lists size hq hc hq0 hc0) rfl (by decide) (by decide) (by simp; omega))
  have K1 : Kept w ((w.alloc (.cells #[.int .i64 (c.length : Int), .int .i64 size, .int .i64 0, .int .i64 0, .int .i64 0] 2)).alloc (.cells #[.slice (some ⟨w.heap.size, 0, none⟩) 5 5, .slice aq q.length cq, .slice ac c.length cc] 39)) := ((Kept.refl w).alloc _).alloc _
  have KK := hide K1
  have HE : Hid ([[(c.length : Int), size, 0, 0, 0], q, c].flatten = innerL size q c) := hide (by simp [innerL])
  have n1 : ((c.length : Int) == (q.length : Int) + 1) = true := by simp only [beq_iff_eq]; omega
  have n2 : ((c.length : Int) != (q.length : Int) + 1) = false := by simp only [bne_eq_false_iff_eq]; omega
  have i1 : (q.length : Int) ≤ 40000 := by omega
  clear hq hc hq0 hc0 hlen hl K1
  go_enter Try.func51, Try.ntmps51
  go_wp2_with (fail)
  refine HC.out.mono ?_
  intro e W1 h
  rw [HE.out] at h
  obtain ⟨v1, rfl, hrow, hk⟩ := h.low KK.out
  have HR := hide hrow
  have HK := hide hk
  clear hrow hk h
  go_wp2
  go_ret
  exact ⟨_, rfl, HR.out, HK.out⟩
/-- .. of as many as else. -/
theorem inner0_c (w : World) (size : Int) (aq : Option Addr) (q : List Int) (cq : Nat) (ac : Option Addr) (c : List Int) (cc : Nat) (hlen : c.length ≠ q.length + 1) (hl : q.length ≤ 1000000) :
    Calls Try.prog 51 #[.int .i64 size, .slice aq q.length cq, .slice ac c.length cc] w fun e w' => e = .returned (.slice none 0 0) ∧ w = w' := by
  have n1 : ((c.length : Int) == (q.length : Int) + 1) = false := by simp only [beq_eq_false_iff_ne, ne_eq]; omega
  have n2 : ((c.length : Int) != (q.length : Int) + 1) = true := by simp only [bne_iff_ne, ne_eq]; omega
  have i1 : (q.length : Int) ≤ 1000000 := by omega
  clear hlen hl
  go_enter Try.func51, Try.ntmps51
  go_wp2
  go_ret
  exact ⟨rfl, rfl⟩

/-- Is it 0 to 2^40? -/
def nearB (x : Int) : Bool := decide (0 ≤ x) && decide (x ≤ 1099511627776)
theorem nearB_iff {x : Int} : nearB x = true ↔ 0 ≤ x ∧ x ≤ 1099511627776 := by simp [nearB]
def keyZ (n i : Int) : Int := if (nearB n && nearB i) = true then n + 4 + i else 0
def childZ (n d i : Int) : Int := if (nearB n && nearB d && nearB i) = true then n + 4 + d + i else 0
theorem keyZ_in {n i : Int} (h1 : 0 ≤ n) (h2 : n ≤ 100000) (h3 : 0 ≤ i) (h4 : i ≤ 100000) : keyZ n i = n + 4 + i := by
  rw [keyZ, nearB_iff.2 ⟨h1, by omega⟩, nearB_iff.2 ⟨h3, by omega⟩]
  rfl
theorem childZ_in {n d i : Int} (h1 : 0 ≤ n) (h2 : n ≤ 100000) (h3 : 0 ≤ d) (h4 : d ≤ 100000) (h5 : 0 ≤ i) (h6 : i ≤ 100000) : childZ n d i = n + 4 + d + i := by
  rw [childZ, nearB_iff.2 ⟨h1, by omega⟩, nearB_iff.2 ⟨h3, by omega⟩, nearB_iff.2 ⟨h5, by omega⟩]
  rfl

theorem near_c (w : World) (x : Int) (u : Bool) (hu : nearB x = u) : Calls Try.prog 91 #[.int .i64 x] w fun e w' => e = .returned (.bool u) ∧ w = w' := by
  subst hu
  by_cases h1 : 0 ≤ x
  · go_enter Try.func91, Try.ntmps91
    go_wp2
    go_ret
    exact ⟨congrArg (fun b => Ending.returned (.bool b)) (by simp [nearB, h1]), rfl⟩
  · go_enter Try.func91, Try.ntmps91
    go_wp2
    go_ret
    exact ⟨congrArg (fun b => Ending.returned (.bool b)) (by simp [nearB]; omega), rfl⟩
theorem key_c (w : World) (n i r : Int) (h : keyZ n i = r) : Calls Try.prog 83 #[.int .i64 n, .int .i64 i] w fun e w' => e = .returned (.int .i64 r) ∧ w = w' := by
  subst h
  cases hn : nearB n with
  | false =>
    have HN := hide hn
    clear hn
    go_enter Try.func83, Try.ntmps83
    go_wp2_with (fail)
    refine (near_c _ n false HN.out).mono ?_
    rintro e w' ⟨rfl, rfl⟩
    go_wp2
    go_ret
    exact ⟨by rw [keyZ, HN.out]; rfl, rfl⟩
  | true =>
    cases hi : nearB i with
    | false =>
      have HN := hide hn
      have HI := hide hi
      clear hn hi
      go_enter Try.func83, Try.ntmps83
      go_wp2_with (fail)
      refine (near_c _ n true HN.out).mono ?_
      rintro e w' ⟨rfl, rfl⟩
      go_wp2_with (fail)
      refine (near_c _ i false HI.out).mono ?_
      rintro e w' ⟨rfl, rfl⟩
      go_wp2
      go_ret
      exact ⟨by rw [keyZ, HN.out, HI.out]; rfl, rfl⟩
    | true =>
      have HN := hide hn
      have HI := hide hi
      obtain ⟨i1, i2⟩ := nearB_iff.1 hn
      obtain ⟨i3, i4⟩ := nearB_iff.1 hi
      clear hn hi
      go_enter Try.func83, Try.ntmps83
      go_wp2_with (fail)
      refine (near_c _ n true HN.out).mono ?_
      rintro e w' ⟨rfl, rfl⟩
      go_wp2_with (fail)
      refine (near_c _ i true HI.out).mono ?_
      rintro e w' ⟨rfl, rfl⟩
      go_wp2
      go_ret
      exact ⟨by rw [keyZ, HN.out, HI.out]; rfl, rfl⟩
theorem child_c (w : World) (n d i r : Int) (h : childZ n d i = r) : Calls Try.prog 79 #[.int .i64 n, .int .i64 d, .int .i64 i] w fun e w' => e = .returned (.int .i64 r) ∧ w = w' := by
  subst h
  cases hn : nearB n with
  | false =>
    have HN := hide hn
    clear hn
    go_enter Try.func79, Try.ntmps79
    go_wp2_with (fail)
    refine (near_c _ n false HN.out).mono ?_
    rintro e w' ⟨rfl, rfl⟩
    go_wp2
    go_ret
    exact ⟨by rw [childZ, HN.out]; rfl, rfl⟩
  | true =>
    cases hd : nearB d with
    | false =>
      have HN := hide hn
      have HD := hide hd
      clear hn hd
      go_enter Try.func79, Try.ntmps79
      go_wp2_with (fail)
      refine (near_c _ n true HN.out).mono ?_
      rintro e w' ⟨rfl, rfl⟩
      go_wp2_with (fail)
      refine (near_c _ d false HD.out).mono ?_
      rintro e w' ⟨rfl, rfl⟩
      go_wp2
      go_ret
      exact ⟨by rw [childZ, HN.out, HD.out]; rfl, rfl⟩
    | true =>
      cases hi : nearB i with
      | false =>
        have HN := hide hn
        have HD := hide hd
        have HI := hide hi
        clear hn hi hd
        go_enter Try.func79, Try.ntmps79
        go_wp2_with (fail)
        refine (near_c _ n true HN.out).mono ?_
        rintro e w' ⟨rfl, rfl⟩
        go_wp2_with (fail)
        refine (near_c _ d true HD.out).mono ?_
        rintro e w' ⟨rfl, rfl⟩
        go_wp2_with (fail)
        refine (near_c _ i false HI.out).mono ?_
        rintro e w' ⟨rfl, rfl⟩
        go_wp2
        go_ret
        exact ⟨by rw [childZ, HN.out, HD.out, HI.out]; rfl, rfl⟩
      | true =>
        have HN := hide hn
        have HD := hide hd
        have HI := hide hi
        obtain ⟨i1, i2⟩ := nearB_iff.1 hn
        obtain ⟨i3, i4⟩ := nearB_iff.1 hi
        obtain ⟨i5, i6⟩ := nearB_iff.1 hd
        clear hn hi hd
        go_enter Try.func79, Try.ntmps79
        go_wp2_with (fail)
        refine (near_c _ n true HN.out).mono ?_
        rintro e w' ⟨rfl, rfl⟩
        go_wp2_with (fail)
        refine (near_c _ d true HD.out).mono ?_
        rintro e w' ⟨rfl, rfl⟩
        go_wp2_with (fail)
        refine (near_c _ i true HI.out).mono ?_
        rintro e w' ⟨rfl, rfl⟩
        go_wp2
        go_ret
        exact ⟨by rw [childZ, HN.out, HD.out, HI.out]; rfl, rfl⟩

theorem near_r (w : World) (x : Int) (u : Bool) (hu : nearB x = u) : Calls Try.prog 87 #[.int .i64 x] w fun e w' => e = .returned (.bool u) ∧ w = w' := by
  subst hu
  by_cases h1 : 0 ≤ x
  · go_enter Try.func87, Try.ntmps87
    go_wp2
    go_ret
    exact ⟨congrArg (fun b => Ending.returned (.bool b)) (by simp [nearB, h1]), rfl⟩
  · go_enter Try.func87, Try.ntmps87
    go_wp2
    go_ret
    exact ⟨congrArg (fun b => Ending.returned (.bool b)) (by simp [nearB]; omega), rfl⟩
theorem key_r (w : World) (n i r : Int) (h : keyZ n i = r) : Calls Try.prog 94 #[.int .i64 n, .int .i64 i] w fun e w' => e = .returned (.int .i64 r) ∧ w = w' := by
  subst h
  cases hn : nearB n with
  | false =>
    have HN := hide hn
    clear hn
    go_enter Try.func94, Try.ntmps94
    go_wp2_with (fail)
    refine (near_r _ n false HN.out).mono ?_
    rintro e w' ⟨rfl, rfl⟩
    go_wp2
    go_ret
    exact ⟨by rw [keyZ, HN.out]; rfl, rfl⟩
  | true =>
    cases hi : nearB i with
    | false =>
      have HN := hide hn
      have HI := hide hi
      clear hn hi
      go_enter Try.func94, Try.ntmps94
      go_wp2_with (fail)
      refine (near_r _ n true HN.out).mono ?_
      rintro e w' ⟨rfl, rfl⟩
      go_wp2_with (fail)
      refine (near_r _ i false HI.out).mono ?_
      rintro e w' ⟨rfl, rfl⟩
      go_wp2
      go_ret
      exact ⟨by rw [keyZ, HN.out, HI.out]; rfl, rfl⟩
    | true =>
      have HN := hide hn
      have HI := hide hi
      obtain ⟨i1, i2⟩ := nearB_iff.1 hn
      obtain ⟨i3, i4⟩ := nearB_iff.1 hi
      clear hn hi
      go_enter Try.func94, Try.ntmps94
      go_wp2_with (fail)
      refine (near_r _ n true HN.out).mono ?_
      rintro e w' ⟨rfl, rfl⟩
      go_wp2_with (fail)
      refine (near_r _ i true HI.out).mono ?_
      rintro e w' ⟨rfl, rfl⟩
      go_wp2
      go_ret
      exact ⟨by rw [keyZ, HN.out, HI.out]; rfl, rfl⟩
theorem child_r (w : World) (n d i r : Int) (h : childZ n d i = r) : Calls Try.prog 72 #[.int .i64 n, .int .i64 d, .int .i64 i] w fun e w' => e = .returned (.int .i64 r) ∧ w = w' := by
  subst h
  cases hn : nearB n with
  | false =>
    have HN := hide hn
    clear hn
    go_enter Try.func72, Try.ntmps72
    go_wp2_with (fail)
    refine (near_r _ n false HN.out).mono ?_
    rintro e w' ⟨rfl, rfl⟩
    go_wp2
    go_ret
    exact ⟨by rw [childZ, HN.out]; rfl, rfl⟩
  | true =>
    cases hd : nearB d with
    | false =>
      have HN := hide hn
      have HD := hide hd
      clear hn hd
      go_enter Try.func72, Try.ntmps72
      go_wp2_with (fail)
      refine (near_r _ n true HN.out).mono ?_
      rintro e w' ⟨rfl, rfl⟩
      go_wp2_with (fail)
      refine (near_r _ d false HD.out).mono ?_
      rintro e w' ⟨rfl, rfl⟩
      go_wp2
      go_ret
      exact ⟨by rw [childZ, HN.out, HD.out]; rfl, rfl⟩
    | true =>
      cases hi : nearB i with
      | false =>
        have HN := hide hn
        have HD := hide hd
        have HI := hide hi
        clear hn hi hd
        go_enter Try.func72, Try.ntmps72
        go_wp2_with (fail)
        refine (near_r _ n true HN.out).mono ?_
        rintro e w' ⟨rfl, rfl⟩
        go_wp2_with (fail)
        refine (near_r _ d true HD.out).mono ?_
        rintro e w' ⟨rfl, rfl⟩
        go_wp2_with (fail)
        refine (near_r _ i false HI.out).mono ?_
        rintro e w' ⟨rfl, rfl⟩
        go_wp2
        go_ret
        exact ⟨by rw [childZ, HN.out, HD.out, HI.out]; rfl, rfl⟩
      | true =>
        have HN := hide hn
        have HD := hide hd
        have HI := hide hi
        obtain ⟨i1, i2⟩ := nearB_iff.1 hn
        obtain ⟨i3, i4⟩ := nearB_iff.1 hi
        obtain ⟨i5, i6⟩ := nearB_iff.1 hd
        clear hn hi hd
        go_enter Try.func72, Try.ntmps72
        go_wp2_with (fail)
        refine (near_r _ n true HN.out).mono ?_
        rintro e w' ⟨rfl, rfl⟩
        go_wp2_with (fail)
        refine (near_r _ d true HD.out).mono ?_
        rintro e w' ⟨rfl, rfl⟩
        go_wp2_with (fail)
        refine (near_r _ i true HI.out).mono ?_
        rintro e w' ⟨rfl, rfl⟩
        go_wp2
        go_ret
        exact ⟨by rw [childZ, HN.out, HD.out, HI.out]; rfl, rfl⟩
end Go.Proofs.Ytbojjpmcopnjpaa

/-! The plain arithmetic of chapter 2: gaps, shares, roots, digits, sums and products as functions of whole numbers, and what holds of them; no Go in sight. -/
namespace Go.Proofs.Ytbojjpmcopnjpaa.Pb
open Go

def gapZ (a b : Int) : Int := if b < a then 0 else b - a
def shareZ (p w n : Int) : Int := if 1 ≤ w ∧ 1 ≤ n ∧ n ≤ 65536 then min p w * n / w else 0
def sqN : Nat → Nat
  | 0 => 0
  | n + 1 => if (sqN n + 1) * (sqN n + 1) ≤ n + 1 then sqN n + 1 else sqN n
def rootZ (n : Int) : Int := (sqN n.toNat : Int)
def bitsZ (n : Int) : Int := (Lib.bitLen n.toNat : Int)
def plusZ (a b : Int) : Int := if 0 ≤ a ∧ 0 ≤ b then min (a + b) 9223372036854775807 else 0
def timesZ (a b : Int) : Int := if 0 ≤ a ∧ 0 ≤ b then min (a * b) 9223372036854775807 else 0

/-! ### Roots -/
theorem sqN_spec (n : Nat) : sqN n * sqN n ≤ n ∧ n < (sqN n + 1) * (sqN n + 1) := by
  induction n with
  | zero => simp [sqN]
  | succ n ih =>
    obtain ⟨h1, h2⟩ := ih
    unfold sqN
    split
    · rename_i h
      refine ⟨h, ?_⟩
      generalize sqN n = r at h1 h2 h
      have e : (r + 1 + 1) * (r + 1 + 1) = (r + 1) * (r + 1) + 2 * r + 3 := by
        simp only [Nat.mul_add, Nat.add_mul]; omega
      omega
    · rename_i h
      exact ⟨by omega, by omega⟩

theorem mul_self_lt {a b : Int} (ha : 0 ≤ a) (h : a < b) : a * a < b * b := by
  have h1 : a * a ≤ a * b := Int.mul_le_mul_of_nonneg_left (by omega) ha
  have h2 : a * b < b * b := Int.mul_lt_mul_of_pos_right h (by omega)
  omega
theorem mul_self_le {a b : Int} (ha : 0 ≤ a) (h : a ≤ b) : a * a ≤ b * b := by
  have h1 : a * a ≤ a * b := Int.mul_le_mul_of_nonneg_left h ha
  have h2 : a * b ≤ b * b := Int.mul_le_mul_of_nonneg_right h (by omega)
  omega
theorem lt_of_self {a b : Int} (hb : 0 ≤ b) (h : a * a < b * b) : a < b := by
  rcases Int.lt_or_le a b with g | g
  · exact g
  · have := mul_self_le hb g
    omega

theorem root_spec {n : Int} (h : 0 ≤ n) : 0 ≤ rootZ n ∧ rootZ n * rootZ n ≤ n ∧ n < (rootZ n + 1) * (rootZ n + 1) := by
  obtain ⟨h1, h2⟩ := sqN_spec n.toNat
  unfold rootZ
  refine ⟨by omega, ?_, ?_⟩
  · rw [← Int.natCast_mul]; omega
  · have e : ((sqN n.toNat : Int) + 1) * ((sqN n.toNat : Int) + 1) = (((sqN n.toNat + 1) * (sqN n.toNat + 1) : Nat) : Int) := by
      rw [Int.natCast_mul, Int.natCast_add]; rfl
    rw [e]; omega
theorem root_unique {n r : Int} (hr : 0 ≤ r) (h1 : r * r ≤ n) (h2 : n < (r + 1) * (r + 1)) : rootZ n = r := by
  have hn : 0 ≤ n := Int.le_trans (Int.mul_nonneg hr hr) h1
  obtain ⟨g0, g1, g2⟩ := root_spec hn
  have a1 := lt_of_self (a := r) (b := rootZ n + 1) (by omega) (by omega)
  have a2 := lt_of_self (a := rootZ n) (b := r + 1) (by omega) (by omega)
  omega
theorem root_none {n : Int} (h : n < 1) : rootZ n = 0 := by
  have e : n.toNat = 0 := by omega
  unfold rootZ
  rw [e]; rfl

/-- d is a power of two up to 2^31 -/
def Pw (d : Int) : Prop := ∃ k : Nat, k ≤ 31 ∧ d = ((2 ^ k : Nat) : Int)
theorem pw_bound {d : Int} (h : Pw d) : 1 ≤ d ∧ d ≤ 2147483648 := by
  obtain ⟨k, hk, rfl⟩ := h
  have h1 : 1 ≤ 2 ^ k := Nat.one_le_two_pow
  have h2 : 2 ^ k ≤ 2 ^ 31 := Nat.pow_le_pow_right (by omega) hk
  omega
theorem pw_half {d : Int} (h : Pw d) : (d = 1 ∧ d / 2 = 0) ∨ (d = 2 * (d / 2) ∧ Pw (d / 2)) := by
  obtain ⟨k, hk, rfl⟩ := h
  cases k with
  | zero => left; decide
  | succ k =>
    right
    have e : ((2 ^ (k + 1) : Nat) : Int) = 2 * ((2 ^ k : Nat) : Int) := by rw [Nat.pow_succ]; omega
    refine ⟨by omega, k, by omega, by omega⟩

def RInv (n r d : Int) : Prop := 0 ≤ r ∧ r * r ≤ n ∧ ((d = 0 ∧ n < (r + 1) * (r + 1)) ∨ (Pw d ∧ n < (r + 2 * d) * (r + 2 * d)))
theorem rinv_bound {n r d : Int} (hn : n ≤ 9223372036854775807) (h : RInv n r d) : 0 ≤ r ∧ r ≤ 3037000499 ∧ 0 ≤ d ∧ d ≤ 2147483648 := by
  obtain ⟨h0, h1, h2⟩ := h
  have a := lt_of_self (a := r) (b := 3037000500) (by omega) (by omega)
  rcases h2 with ⟨rfl, _⟩ | ⟨h2, _⟩
  · omega
  · have := pw_bound h2; omega
theorem rinv_up {n r d : Int} (h : RInv n r d) (hd : 0 < d) (hc : (r + d) * (r + d) ≤ n) : RInv n (r + d) (d / 2) := by
  obtain ⟨h0, h1, h2⟩ := h
  rcases h2 with ⟨rfl, _⟩ | ⟨h2, h3⟩
  · omega
  · refine ⟨by omega, hc, ?_⟩
    have e : r + d + d = r + 2 * d := by omega
    rcases pw_half h2 with ⟨g1, g2⟩ | ⟨g1, g2⟩
    · left
      refine ⟨g2, ?_⟩
      have e1 : r + d + 1 = r + 2 * d := by omega
      rw [e1]; exact h3
    · right
      refine ⟨g2, ?_⟩
      have e1 : r + d + 2 * (d / 2) = r + 2 * d := by omega
      rw [e1]; exact h3
theorem rinv_stay {n r d : Int} (h : RInv n r d) (hd : 0 < d) (hc : n < (r + d) * (r + d)) : RInv n r (d / 2) := by
  obtain ⟨h0, h1, h2⟩ := h
  rcases h2 with ⟨rfl, _⟩ | ⟨h2, h3⟩
  · omega
  · refine ⟨h0, h1, ?_⟩
    rcases pw_half h2 with ⟨g1, g2⟩ | ⟨g1, g2⟩
    · left
      refine ⟨g2, ?_⟩
      rw [← g1]; rw [g1] at hc ⊢; exact hc
    · right
      refine ⟨g2, ?_⟩
      rw [← g1]; exact hc
theorem rinv_end {n r : Int} (h : RInv n r 0) : rootZ n = r := by
  obtain ⟨h0, h1, h2⟩ := h
  rcases h2 with ⟨_, h3⟩ | ⟨h2, h3⟩
  · exact root_unique h0 h1 h3
  · have := pw_bound h2; omega
theorem le_quo {n t : Int} (ht : 0 < t) : t ≤ n / t ↔ t * t ≤ n := Int.le_ediv_iff_mul_le ht

/-! ### Digits -/
theorem bits_spec {n : Int} (h : 1 ≤ n) (h' : n ≤ 9223372036854775807) : ∃ L : Nat, bitsZ n = L ∧ 1 ≤ L ∧ L ≤ 63 ∧ ((2 ^ (L - 1) : Nat) : Int) ≤ n ∧ n < ((2 ^ L : Nat) : Int) := by
  obtain ⟨a, b, c⟩ := Lib.bitLenAux_bounds 64 n.toNat (by omega) (by omega)
  have d := Lib.bitLen_le n.toNat 63 (by omega) (by omega)
  refine ⟨Lib.bitLen n.toNat, rfl, a, d, ?_, ?_⟩
  · have b' : 2 ^ (Lib.bitLen n.toNat - 1) ≤ n.toNat := b
    omega
  · have c' : n.toNat < 2 ^ Lib.bitLen n.toNat := c
    omega
theorem bits_none {n : Int} (h : n < 1) : bitsZ n = 0 := by
  have e : n.toNat = 0 := by omega
  unfold bitsZ
  rw [e]; rfl
theorem bits_le (n : Int) (h' : n ≤ 9223372036854775807) : 0 ≤ bitsZ n ∧ bitsZ n ≤ 63 := by
  have d := Lib.bitLen_le n.toNat 63 (by omega) (by omega)
  unfold bitsZ
  omega
theorem bits_half {n : Int} (h : 0 < n) (h' : n ≤ 9223372036854775807) : bitsZ n = bitsZ (n / 2) + 1 := by
  have e := Lib.bitLen_half n.toNat (by omega) (by omega)
  have e2 : (n / 2).toNat = n.toNat / 2 := by omega
  unfold bitsZ
  rw [e2, e]; omega

theorem root_begin {n : Int} (h : 1 ≤ n) (h' : n ≤ 9223372036854775807) : RInv n 0 ((2 ^ ((bitsZ n - 1) / 2).toNat : Nat) : Int) := by
  obtain ⟨L, e, l1, l2, b1, b2⟩ := bits_spec h h'
  rw [e]
  have e2 : (((L : Int) - 1) / 2).toNat = (L - 1) / 2 := by omega
  rw [e2]
  refine ⟨by omega, by omega, Or.inr ⟨⟨(L - 1) / 2, by omega, rfl⟩, ?_⟩⟩
  have e3 : (0 + 2 * ((2 ^ ((L - 1) / 2) : Nat) : Int)) = ((2 ^ ((L - 1) / 2 + 1) : Nat) : Int) := by
    rw [Nat.pow_succ]; omega
  rw [e3, ← Int.natCast_mul, ← Nat.pow_add]
  have : 2 ^ L ≤ 2 ^ ((L - 1) / 2 + 1 + ((L - 1) / 2 + 1)) := Nat.pow_le_pow_right (by omega) (by omega)
  omega
end Go.Proofs.Ytbojjpmcopnjpaa.Pb

/-! Chapter 6 as functions of lists of whole numbers: rising lists, how many are not above a key, the guess, the path; what holds of them. No Go in sight. No conditions beyond each theorem's own. -/
namespace Go.Proofs.Ytbojjpmcopnjpaa.Pb

/-- A list of strictly ascending keys, not too long. -/
def Up (q : List Int) : Prop := q.length ≤ 65536 ∧ q.Pairwise (· < ·)
instance (q : List Int) : Decidable (Up q) := inferInstanceAs (Decidable (_ ∧ _))
def upB (q : List Int) : Bool := decide (Up q)
/-- How many are not above k. -/
def cnt (q : List Int) (k : Int) : Nat := q.countP (fun z => decide (z ≤ k))
def findN (q : List Int) (k : Int) : Nat := if Up q then cnt q k else 0
def guessZ (a b k n : Int) : Int := if 2 ≤ n ∧ n ≤ 65536 ∧ a ≤ k ∧ k < b then 1 + shareZ (gapZ a k) (gapZ a b) (n - 1) else 0
/-- From i on up to the first one above k; m: how many there are ahead of the last. -/
def goUp (q : List Int) (k : Int) : Nat → Nat → List Int
  | 0, _ => []
  | m + 1, i => (i : Int) :: if k < q.getD (i - 1) 0 then [] else goUp q k m (i + 1)
/-- From m + 1 on down to the first one that is not above k, but not to 1. -/
def goDown (q : List Int) (k : Int) : Nat → List Int
  | 0 => []
  | m + 1 => ((m + 2 : Nat) : Int) :: if q.getD (m + 1) 0 ≤ k then [] else goDown q k m
/-- The path where k lies between the first and the last key. -/
def midP (q : List Int) (k : Int) (j : Nat) : List Int :=
  (1 : Int) :: (q.length : Int) :: ((if 1 < j then [(j : Int)] else []) ++ if q.getD (j - 1) 0 ≤ k then goUp q k (q.length - (j + 1)) (j + 1) else goDown q k (j - 2))
def pathP (q : List Int) (k : Int) : List Int :=
  if Up q then
    match q with
    | [] => []
    | x :: r =>
      if k < x ∨ r = [] then [1]
      else if q.getD (q.length - 1) 0 ≤ k then [1, (q.length : Int)]
      else midP q k (guessZ x (q.getD (q.length - 1) 0) k q.length).toNat
  else []

/-! ### Rising lists -/
theorem take_snoc' {q : List Int} {k : Nat} {z : Int} (h : q[k]? = some z) : q.take (k + 1) = q.take k ++ [z] := by
  obtain ⟨h1, rfl⟩ := List.getElem?_eq_some_iff.1 h
  exact List.take_succ_eq_append_getElem h1
theorem pw_snoc {q : List Int} {k : Nat} {y z : Int} (h : (q.take (k + 1)).Pairwise (· < ·)) (hy : q[k]? = some y) (hz : q[k + 1]? = some z) (hyz : y < z) : (q.take (k + 2)).Pairwise (· < ·) := by
  rw [take_snoc' hz, List.pairwise_append]
  refine ⟨h, by simp, fun a ha b hb => ?_⟩
  obtain rfl : b = z := by simpa using hb
  rw [take_snoc' hy] at h ha
  rw [List.pairwise_append] at h
  rcases List.mem_append.1 ha with ha | ha
  · have := h.2.2 a ha y (by simp)
    omega
  · obtain rfl : a = y := by simpa using ha
    exact hyz
theorem pw_not {q : List Int} {k : Nat} {y z : Int} (hy : q[k]? = some y) (hz : q[k + 1]? = some z) (hyz : z ≤ y) : ¬ q.Pairwise (· < ·) := by
  intro h
  obtain ⟨h1, e1⟩ := List.getElem?_eq_some_iff.1 hy
  obtain ⟨h2, e2⟩ := List.getElem?_eq_some_iff.1 hz
  have := List.pairwise_iff_getElem.1 h k (k + 1) h1 h2 (by omega)
  omega
theorem up_lt {q : List Int} (h : q.Pairwise (· < ·)) {i j : Nat} {y z : Int} (hy : q[i]? = some y) (hz : q[j]? = some z) (hij : i < j) : y < z := by
  obtain ⟨h1, e1⟩ := List.getElem?_eq_some_iff.1 hy
  obtain ⟨h2, e2⟩ := List.getElem?_eq_some_iff.1 hz
  have := List.pairwise_iff_getElem.1 h i j h1 h2 hij
  omega
theorem up_le {q : List Int} (h : q.Pairwise (· < ·)) {i j : Nat} {y z : Int} (hy : q[i]? = some y) (hz : q[j]? = some z) (hij : i ≤ j) : y ≤ z := by
  rcases Nat.lt_or_ge i j with g | g
  · exact Int.le_of_lt (up_lt h hy hz g)
  · obtain rfl : i = j := by omega
    rw [hy] at hz
    cases hz
    exact Int.le_refl _

/-! ### How many are not above -/
theorem cnt_snoc {q : List Int} {k z : Int} {n : Nat} (h : q[n]? = some z) : cnt (q.take (n + 1)) k = cnt (q.take n) k + if z ≤ k then 1 else 0 := by
  rw [take_snoc' h]
  unfold cnt
  rw [List.countP_append]
  simp [List.countP_cons]
theorem cnt_le (q : List Int) (k : Int) : cnt q k ≤ q.length := List.countP_le_length
theorem cnt_take_le (q : List Int) (k : Int) (n : Nat) : cnt (q.take n) k ≤ n := by
  have := cnt_le (q.take n) k
  rw [List.length_take] at this
  omega
/-- Where the keys up to p are not above k and those behind it are. -/
theorem cnt_at {q : List Int} {k : Int} {p : Nat} (hp : p ≤ q.length) (h1 : ∀ j z, q[j]? = some z → j < p → z ≤ k) (h2 : ∀ j z, q[j]? = some z → p ≤ j → k < z) : cnt q k = p := by
  have e : q = q.take p ++ q.drop p := (List.take_append_drop p q).symm
  unfold cnt
  rw [e, List.countP_append]
  have e1 : (q.take p).countP (fun z => decide (z ≤ k)) = p := by
    have : (q.take p).length = p := by rw [List.length_take]; omega
    rw [List.countP_eq_length.2, this]
    intro z hz
    obtain ⟨i, hi, rfl⟩ := List.getElem_of_mem hz
    rw [List.length_take] at hi
    simp only [decide_eq_true_eq, List.getElem_take]
    exact h1 i _ (List.getElem?_eq_getElem (by omega)) (by omega)
  have e2 : (q.drop p).countP (fun z => decide (z ≤ k)) = 0 := by
    rw [List.countP_eq_zero]
    intro z hz
    obtain ⟨i, hi, rfl⟩ := List.getElem_of_mem hz
    rw [List.length_drop] at hi
    simp only [decide_eq_true_eq, List.getElem_drop]
    have := h2 (p + i) _ (List.getElem?_eq_getElem (by omega)) (by omega)
    omega
  rw [e1, e2, Nat.add_zero]
theorem cnt_below {q : List Int} {k : Int} (h : q.Pairwise (· < ·)) {j : Nat} {z : Int} (hz : q[j]? = some z) : (j < cnt q k ↔ z ≤ k) := by
  induction q generalizing j with
  | nil => simp at hz
  | cons x q ih =>
    obtain ⟨h1, h2⟩ := List.pairwise_cons.1 h
    have hc : cnt (x :: q) k = cnt q k + if x ≤ k then 1 else 0 := by
      unfold cnt
      rw [List.countP_cons]
      simp
    rw [hc]
    cases j with
    | zero =>
      obtain rfl : x = z := by simpa using hz
      by_cases g : x ≤ k
      · simp [g]
      · have : cnt q k = 0 := by
          unfold cnt
          rw [List.countP_eq_zero]
          intro y hy
          have := h1 y hy
          simp only [decide_eq_true_eq]
          omega
        simp [g, this]
    | succ j =>
      have hz' : q[j]? = some z := by simpa using hz
      have := ih h2 hz'
      obtain ⟨hj, ez⟩ := List.getElem?_eq_some_iff.1 hz'
      have hx : x < z := h1 z (by rw [← ez]; exact List.getElem_mem hj)
      by_cases g : x ≤ k
      · rw [if_pos g, ← this]
        omega
      · rw [if_neg g]
        constructor
        · intro hlt
          have := this.1 (by omega)
          omega
        · intro hlt
          omega

/-! ### The guess -/
theorem guess_none {a b k n : Int} (h : ¬ (2 ≤ n ∧ n ≤ 65536 ∧ a ≤ k ∧ k < b)) : guessZ a b k n = 0 := if_neg h
theorem guess_some {a b k n : Int} (h : 2 ≤ n ∧ n ≤ 65536 ∧ a ≤ k ∧ k < b) : guessZ a b k n = 1 + (k - a) * (n - 1) / (b - a) := by
  unfold guessZ
  rw [if_pos h]
  have e1 : gapZ a k = k - a := by simp only [gapZ]; rw [if_neg (by omega)]
  have e2 : gapZ a b = b - a := by simp only [gapZ]; rw [if_neg (by omega)]
  rw [e1, e2]
  unfold shareZ
  rw [if_pos (by omega), show min (k - a) (b - a) = k - a by omega]
theorem guess_bound {a b k n : Int} (h : 2 ≤ n ∧ n ≤ 65536 ∧ a ≤ k ∧ k < b) : 1 ≤ guessZ a b k n ∧ guessZ a b k n ≤ n - 1 := by
  rw [guess_some h]
  have h1 : 0 ≤ (k - a) * (n - 1) := Int.mul_nonneg (by omega) (by omega)
  have h2 : (k - a) * (n - 1) < (n - 1) * (b - a) := by
    rw [Int.mul_comm (n - 1)]
    exact Int.mul_lt_mul_of_pos_right (by omega) (by omega)
  have h3 := Int.ediv_nonneg h1 (show 0 ≤ b - a by omega)
  have h4 := (Int.ediv_lt_iff_lt_mul (show 0 < b - a by omega)).2 h2
  omega
theorem guess_mono {a b k l n : Int} (h : 2 ≤ n ∧ n ≤ 65536 ∧ a ≤ k ∧ k ≤ l ∧ l < b) : guessZ a b k n ≤ guessZ a b l n := by
  rw [guess_some (by omega), guess_some (by omega)]
  have h1 : (k - a) * (n - 1) ≤ (l - a) * (n - 1) := Int.mul_le_mul_of_nonneg_right (by omega) (by omega)
  have := Int.ediv_le_ediv (show 0 < b - a by omega) h1
  omega
theorem guess_first {a b n : Int} (h : 2 ≤ n ∧ n ≤ 65536 ∧ a < b) : guessZ a b a n = 1 := by
  rw [guess_some (by omega), Int.sub_self, Int.zero_mul, Int.zero_ediv]
  rfl
end Go.Proofs.Ytbojjpmcopnjpaa.Pb

/-! What probe.Right, the document's Rising, cmp.Less and slices.BinarySearch at int64, probe.Find, the document's Find and its Ints answer, of slices that read as lists of whole numbers; the worlds differ by draws alone. -/
namespace Go.Proofs.Ytbojjpmcopnjpaa.Pb
open Go.RowKit

theorem _root_.Go.Proofs.Ytbojjpmcopnjpaa.Reads.two {w : World} {a : Option Addr} {zs : List Int} (h : Reads w a zs) {i j : Nat} {y z : Int} (hy : zs[i]? = some y) (hz : zs[j]? = some z) :
    ∃ bl off, a = some ⟨bl, off, none⟩ ∧ bl < w.heap.size ∧ w.cell? ⟨bl, off + i, none⟩ = some (.int .i64 y) ∧ w.cell? ⟨bl, off + j, none⟩ = some (.int .i64 z) := by
  obtain ⟨bl, off, rfl, h1, h2⟩ := h.at hy
  obtain ⟨bl', off', e, _, h4⟩ := h.at hz
  cases e
  exact ⟨bl, off, rfl, h1, h2, h4⟩

theorem up_false {q : List Int} (h : ¬ q.Pairwise (· < ·)) : upB q = false := by
  simp only [upB, decide_eq_false_iff_not]
  exact fun g => h g.2
theorem up_long {q : List Int} (h : 65536 < q.length) : upB q = false := by
  simp only [upB, decide_eq_false_iff_not]
  exact fun g => by have := g.1; omega
theorem up_true {q : List Int} (h0 : q.length ≤ 65536) (h : q.Pairwise (· < ·)) : upB q = true := by
  simp only [upB, decide_eq_true_eq]
  exact ⟨h0, h⟩

/-- Its first n rise. -/
def PwTo (q : List Int) (n : Nat) : Prop := (q.take n).Pairwise (· < ·)
theorem PwTo.start (q : List Int) : PwTo q 1 := by
  unfold PwTo
  cases q with
  | nil => simp
  | cons x q => simp

set_option maxRecDepth 100000 in
theorem right_c (w : World) (a : Option Addr) (q : List Int) (cap : Nat) (hr : Reads w a q) (hc : q.length ≤ cap) (hm : cap ≤ maxLen) :
    Calls Try.prog 90 #[.slice a q.length cap] w fun e w' => e = .returned (.bool (upB q)) ∧ ∃ m, w' = w.drewN m := by
  have HR := hide hr
  clear hr
  have hm' : (q.length : Int) ≤ 9223372036854775807 := by unfold maxLen at hm; omega
  clear hm
  by_cases hl : 65536 < q.length
  · rw [up_long hl]
    have hl' : (65536 : Int) < (q.length : Int) := by omega
    go_enter Try.func90, Try.ntmps90
    go_wp2
    go_ret
    exact ⟨rfl, 0, rfl⟩
  · have hl' : ¬ ((65536 : Int) < (q.length : Int)) := by omega
    have HL : Hid (q.length ≤ 65536) := hide (by omega)
    clear hl
    go_enter Try.func90, Try.ntmps90
    go_wp2
    go_loopw [3] (fun i wr => ∃ k d : Nat, (k < q.length ∨ k = 0) ∧ i = .int .i64 ((k : Int) + 1) ∧ PwTo q (k + 1) ∧ wr = w.drewN d) (fun i _ => q.length + 1 - (intOf i).toNat)
    case atStart =>
      exact ⟨0, 0, .inr rfl, rfl, .start q, rfl⟩
    case round =>
      obtain ⟨k, d, hk1, rfl, HP, rfl⟩ := hrel
      by_cases hlt : k + 1 < q.length
      · obtain ⟨z, hz⟩ : ∃ p, q[k + 1]? = some p := ⟨_, List.getElem?_eq_getElem hlt⟩
        obtain ⟨y, hy⟩ : ∃ p, q[k]? = some p := ⟨_, List.getElem?_eq_getElem (by omega)⟩
        obtain ⟨bl, off, rfl, hbl, g1, g3⟩ := HR.out.two hy hz
        have i1 : (k : Int) + 1 < (q.length : Int) := by omega
        have i3 : k + 1 < cap := by omega
        by_cases hyz : y < z
        · have HP2 : Hid (PwTo q (k + 1 + 1)) := pw_snoc HP hy hz hyz
          have hzy : ¬ (z ≤ y) := by omega
          clear hz hy hk1 HP hyz
          go_wp2
          go_quiet (fail)
          go_wp2
          exact ⟨⟨k + 1, _, .inl (by omega), by simp, HP2.out, rfl⟩, by simp [intOf]; omega⟩
        · have HF := hide (up_false (pw_not hy hz (by omega)))
          have hyz' : z ≤ y := by omega
          clear hz hy hk1 HP hyz
          go_wp2
          go_quiet (fail)
          go_wp2
          go_ret
          exact ⟨by rw [HF.out]; rfl, _, World.drewN_drewN ..⟩
      · have i1 : ¬ ((k : Int) + 1 < (q.length : Int)) := by omega
        have HF : Hid (upB q = true) := hide (up_true HL.out (by
          have : (q.take (k + 1)).Pairwise (· < ·) := HP
          rwa [List.take_of_length_le (by omega)] at this))
        clear HP
        go_wp2
        go_ret
        exact ⟨by rw [HF.out]; rfl, _, rfl⟩
/-- Where a key lies: the keys ahead of p are below it, those from p on are not. -/
def Lies (q : List Int) (k : Int) (p : Nat) : Prop := p ≤ q.length ∧ (∀ j z, q[j]? = some z → j < p → z < k) ∧ ∀ j z, q[j]? = some z → p ≤ j → k ≤ z

end Go.Proofs.Ytbojjpmcopnjpaa.Pb

/-! The program's check of soundness: the keys of an Inner. -/
namespace Go.Proofs.Ytbojjpmcopnjpaa
open Go.RowKit

theorem info4_p : (Try.prog.info? 4).map (fun i => (i.zero, i.size, i.bytes)) = some (some (.bool false), 1, 1) := by kernel_rfl
theorem run_make39 (n : Nat) (h : n ≤ 100000) (w : World) : (Instr.makeSlice 39 (.int .i64 (n : Int)) (.int .i64 (n : Int))).run Try.prog w = .ok (.slice (some ⟨w.heap.size, 0, none⟩) n n) (w.alloc (.cells (madeCells #[.int .i64 0] n) 2)) :=
  run_make_row' 39 2 (.int .i64 0) 8 Try.underlying39 info2_p rfl .i64 .i64 n (by omega) (by omega) w
theorem run_make58 (n : Nat) (h : n ≤ 100000) (w : World) : (Instr.makeSlice 58 (.int .i64 (n : Int)) (.int .i64 (n : Int))).run Try.prog w = .ok (.slice (some ⟨w.heap.size, 0, none⟩) n n) (w.alloc (.cells (madeCells #[.bool false] n) 4)) :=
  run_make_row' 58 4 (.bool false) 1 Try.underlying58 info4_p rfl .i64 .i64 n (by omega) (by omega) w

/-- The keys as they are filled in: the first k. -/
def fillK (s : Mst) (a k : Nat) : Nat → Value := fun j => if j < k then .int .i64 (ky s a (j + 1)) else .int .i64 0
theorem fillK_step (s : Mst) (a k : Nat) (j : Nat) : (if j = k then Value.int .i64 (ky s a (k + 1)) else fillK s a k j) = fillK s a (k + 1) j := by
  unfold fillK
  by_cases e : j = k
  · subst e; simp
  · simp only [e, if_false]
    have : j < k ↔ j < k + 1 := by omega
    simp only [this]
def keysL (s : Mst) (a d : Nat) : List Int := (List.range (d - 1)).map (fun j => ky s a (j + 1))
theorem keysL_len (s : Mst) (a d : Nat) : (keysL s a d).length = d - 1 := by simp [keysL]
theorem keysL_get {s : Mst} {a d j : Nat} (h : j < d - 1) : (keysL s a d)[j]? = some (ky s a (j + 1)) := by
  unfold keysL
  rw [List.getElem?_map, List.getElem?_range h]
  rfl
theorem reads_keys {W : World} {q d a : Nat} {s : Mst} (h : W.rowIs q 2 (d - 1) (fillK s a (d - 1))) : Reads W (some ⟨q, 0, none⟩) (keysL s a d) := by
  refine .inr ⟨q, 0, rfl, fun j z hz => ?_⟩
  have hj : j < d - 1 := by
    have := (List.getElem?_eq_some_iff.1 hz).1
    rwa [keysL_len] at this
  rw [keysL_get hj] at hz
  cases hz
  rw [Nat.zero_add, h.cell hj, fillK, if_pos hj]

/-- The cells that an Inner takes. -/
def innerT (s : Mst) (t : Tk) (a : Nat) : Option Tk := if s.look a < 2 then none else takeO (s.xs.length + 1) t a (2 * (s.look a).toNat + 4)
def KeysPost (w0 W : World) (b : Nat) (s : Mst) (c g a : Nat) (r : Option Tk) (e : Ending) (W' : World) : Prop :=
  ∃ t', Turned (fun i => i = g) W W' ∧ Chk w0 W' b s c g t' ∧ ((r = none ∧ e = .returned (.tuple #[.slice none 0 0, .bool false])) ∨
    (r = some t' ∧ ∃ d q : Nat, s.look a = (d : Int) ∧ 2 ≤ d ∧ d ≤ 40000 ∧ a + 2 * d + 4 ≤ s.xs.length + 1 ∧ w0.heap.size ≤ q ∧ q ≠ g ∧ q ≠ c ∧ W'.rowIs q 2 (d - 1) (fillK s a (d - 1)) ∧ e = .returned (.tuple #[.slice (some ⟨q, 0, none⟩) (d - 1) (d - 1), .bool true])))

set_option maxRecDepth 20000 in
theorem keys_p (w0 W : World) (b : Nat) (s : Mst) (c g : Nat) (t : Tk) (C : Chk w0 W b s c g t) (a : Nat) (h1 : 1 ≤ a) (h2 : a ≤ 65536) (r : Option Tk) (e1 : innerT s t a = r) :
    Calls Try.prog 89 #[.pointer (some ⟨c, 0, none⟩), .int .i64 (a : Int)] W (KeysPost w0 W b s c g a r) := by
  have c0 := C.c0
  have HL := hide C.ok.2
  have H := hide C
  obtain ⟨D, hD⟩ : ∃ D, s.look a = D := ⟨_, rfl⟩
  have HD := hide hD
  have hI := C.ok.look a
  rw [hD] at hI
  obtain ⟨hI1, hI2⟩ := hI
  by_cases hd2 : D < 2
  · have HR : Hid (r = none) := hide (by rw [← e1, innerT, hD, if_pos hd2])
    clear C e1 hD hI1 hI2
    go_enter Try.func89, Try.ntmps89
    go_wp2_with (fail)
    refine (lk_p _ b s a D H.out.mem HD.out).mono ?_
    rintro e w' ⟨rfl, rfl⟩
    go_wp2
    go_ret2
    exact ⟨t, Turned.refl _ _, H.out, .inl ⟨HR.out, rfl⟩⟩
  · have hr : r = takeO (s.xs.length + 1) t a (2 * D.toNat + 4) := by rw [← e1, innerT, hD, if_neg hd2]
    obtain ⟨d, rfl⟩ : ∃ d : Nat, D = (d : Int) := ⟨D.toNat, by omega⟩
    have hdn : ((d : Int)).toNat = d := by omega
    rw [hdn] at hr
    have hd2' : ¬ ((d : Int) < 2) := hd2
    by_cases hfit : a + 2 * d + 4 ≤ s.xs.length + 1
    · have hN := HL.out
      have dS : d ≤ 40000 := by omega
      have hcz := hide (childZ_in (n := a) (d := d) (i := d) (by omega) (by omega) (by omega) (by omega) (by omega) (by omega))
      have HF := hide hfit
      have HR := hide hr.symm
      have i5 : (a : Int) + 4 + d + d - a = ((2 * d + 4 : Nat) : Int) := by omega
      clear C e1 hD hI1 hI2 hd2 hfit hr hdn hN
      cases hT : takeO (s.xs.length + 1) t a (2 * d + 4) with
      | none =>
        have HT := hide hT
        clear hT
        go_enter Try.func89, Try.ntmps89
        go_wp2_with (fail)
        refine (lk_p _ b s a d H.out.mem HD.out).mono ?_
        rintro e w' ⟨rfl, rfl⟩
        go_wp2_with (fail)
        refine (child_c _ a d d _ hcz.out).mono ?_
        rintro e w' ⟨rfl, rfl⟩
        go_wp2_with (fail)
        refine (take_p w0 _ b s c g t H.out a (2 * d + 4) h1 (by omega) (by omega) none HT.out).mono ?_
        rintro e w' ⟨rfl, hT', t', C', _⟩
        have H' := hide C'
        have TT := hide hT'
        clear C' hT' H c0
        go_wp2
        go_ret2
        exact ⟨t', TT.out, H'.out, .inl ⟨by rw [← HR.out, HT.out], rfl⟩⟩
      | some t1 =>
        have HT := hide hT
        clear hT
        go_enter Try.func89, Try.ntmps89
        go_wp2_with (fail)
        refine (lk_p _ b s a d H.out.mem HD.out).mono ?_
        rintro e w' ⟨rfl, rfl⟩
        go_wp2_with (fail)
        refine (child_c _ a d d _ hcz.out).mono ?_
        rintro e w' ⟨rfl, rfl⟩
        go_wp2_with (fail)
        refine (take_p w0 _ b s c g t H.out a (2 * d + 4) h1 (by omega) (by omega) (some t1) HT.out).mono ?_
        rintro e W1 ⟨rfl, hT', t', C', ht'⟩
        have := ht' _ rfl
        subst this
        have H' := hide C'
        have TT := hide hT'
        have hq1 := Nat.le_trans H'.out.hg (Nat.le_of_lt H'.out.row.lt)
        have hq2 := H'.out.row.lt
        have hq3 : c < W1.heap.size := by
          have := H'.out.box
          by_cases hh : c < W1.heap.size
          · exact hh
          · rw [Array.getElem?_eq_none (by omega)] at this; cases this
        have Q1 := hide hq1
        have Q2 := hide hq2
        have Q3 := hide hq3
        clear C' hT' H c0 ht' hq1 hq2 hq3
        have hmk := run_make39 (d - 1) (by omega)
        have M0 := hide (World.rowIs_made W1 (.int .i64 0) (d - 1) 2)
        have HA := hide (H'.out.on (Kept.alloc (Kept.refl _) (.cells (madeCells #[.int .i64 0] (d - 1)) 2)))
        have TA := hide (Kept.behind TT.out (Kept.alloc (Kept.refl _) (.cells (madeCells #[.int .i64 0] (d - 1)) 2)))
        have L1 := hide (TT.out.size)
        obtain ⟨q, hq⟩ : ∃ q, W1.heap.size = q := ⟨_, rfl⟩
        have MM : Hid ((W1.alloc (.cells (madeCells #[.int .i64 0] (d - 1)) 2)).rowIs q 2 (d - 1) (fillK s a 0)) := hide (by
          rw [← hq]
          exact M0.out.congr (fun j _ => by simp [fillK]))
        have QW : Hid (W1.heap.size = q) := hide hq
        rw [hq] at Q1 Q2 Q3 L1
        have hm0 : (d - 1 : Nat) ≤ 40000 := by omega
        obtain ⟨m, hm⟩ : ∃ m, d - 1 = m := ⟨_, rfl⟩
        have HM := hide hm
        have i6 : (d : Int) - 1 = (m : Int) := by omega
        rw [hm] at hmk MM HA TA hm0
        clear M0 hm H'
        go_wp2
        go_loopw [35] (fun v wr => ∃ k : Nat, k ≤ m ∧ v = .int .i64 (k : Int) ∧ Hid (wr.rowIs q 2 m (fillK s a k)) ∧ Hid (Chk w0 wr b s c g t') ∧ Hid (Turned (fun i => i = g) W wr)) (fun v _ => m - (intOf v).toNat)
        case atStart => exact ⟨0, by omega, by simp, MM, HA, TA⟩
        case round =>
          obtain ⟨k, hk, rfl, HK, HC, HTR⟩ := hrel
          by_cases hkn : k < m
          · have j1 : (k : Int) < (m : Int) := by omega
            obtain ⟨V, hV⟩ : ∃ V, wr.drew = V := ⟨_, rfl⟩
            have HCV : Hid (Chk w0 V b s c g t') := hide (by rw [← hV]; exact HC.out.on (Kept.drew wr))
            have HKV : Hid (V.rowIs q 2 m (fillK s a k)) := hide (by rw [← hV]; exact HK.out)
            have HV := hide hV
            have hkz := hide (keyZ_in (n := a) (i := (k : Int) + 1) (by omega) (by omega) (by omega) (by omega))
            obtain ⟨z, hz⟩ : ∃ z, s.look ((a : Int) + 4 + ((k : Int) + 1)) = z := ⟨_, rfl⟩
            have HZ := hide hz
            have b3 := HKV.out.frozen k
            have b4 := HKV.out.cell hkn
            have G1 : Hid ((V.setCell ⟨q, k, none⟩ (.int .i64 z)).rowIs q 2 m (fillK s a (k + 1))) := hide ((HKV.out.set k (.int .i64 z)).congr (fun j _ => by
              rw [← fillK_step, ← hz]
              have : ky s a (k + 1) = s.look ((a : Int) + 4 + ((k : Int) + 1)) := by unfold ky; rfl
              rw [this]))
            have G2 : Hid (Chk w0 (V.setCell ⟨q, k, none⟩ (.int .i64 z)) b s c g t') := hide (by
              have T : Turned (fun i => i = q) V (V.setCell ⟨q, k, none⟩ (.int .i64 z)) := Turned.setCell V ⟨q, k, none⟩ (.int .i64 z) rfl
              have C := HCV.out
              exact ⟨C.mem0, C.ok, C.kept.did Q1.out T, C.hc, C.hg, C.ne, T.heap C.box (by have := Q3.out; omega), C.row.of_block (T.block g C.row.lt (by have := Q2.out; omega))⟩)
            have x0 : ∀ y : Wd (fun U => U = V ∨ U = V.setCell ⟨q, k, none⟩ (.int .i64 z)), y.w.cell? ⟨c, 0, none⟩ = some (.pointer (some ⟨b, 0, none⟩)) := fun y => by
              rcases y.ok with e | e
              · rw [e]; exact HCV.out.c0
              · rw [e]; exact G2.out.c0
            have G3 : Hid (Turned (fun i => i = g) W (V.setCell ⟨q, k, none⟩ (.int .i64 z))) := hide (by
              have T : Turned (fun i => i = q) V (V.setCell ⟨q, k, none⟩ (.int .i64 z)) := Turned.setCell V ⟨q, k, none⟩ (.int .i64 z) rfl
              rw [← hV] at T ⊢
              exact (Kept.behind HTR.out (Kept.drew wr)).trans T (fun _ e => e) (fun i hi e => absurd hi (by have := L1.out; omega)))
            clear hz HK HC HTR
            go_wp2_with (fail)
            refine region_wide [0, 1, 2, 3, 4, 5, 6, 7, 8, 9, 10, 11, 12] (fun U => U = V ∨ U = V.setCell ⟨q, k, none⟩ (.int .i64 z)) (by kernel_rfl) (by kernel_rfl) (.inl HV.out) (fun _ => ?_)
            clear hV
            rw [HV.out]
            repeat (refine pq rfl rfl ?_; go_big_quiet_step (fail); refine wpQuiet_nil ?_)
            refine pl rfl rfl ?_
            gi_wp2_with (fail)
            refine ⟨trivial, ?_⟩
            refine (callsIn_wide.2 (key_c _ a ((k : Int) + 1) _ hkz.out)).mono ?_
            rintro e U ⟨rfl, rfl⟩
            gi_wp2_with (fail)
            refine ⟨Wd.mem (.inl rfl), ?_⟩
            refine pl rfl rfl ?_
            gi_wp2_with (fail)
            refine ⟨trivial, ?_⟩
            refine (callsIn_wide.2 (lk_p _ b s _ z HCV.out.mem HZ.out)).mono ?_
            rintro e U ⟨rfl, rfl⟩
            gi_wp2_with (fail)
            refine ⟨Wd.mem (.inl rfl), ?_⟩
            refine pq rfl rfl ?_
            go_big_quiet_step (fail)
            refine wpQuiet_nil ?_
            refine pl rfl rfl ?_
            gi_wp2
            refine ⟨Wd.mem (.inr rfl), ?_⟩
            refine perm_done ?_
            go_wp2
            exact ⟨⟨k + 1, by omega, by simp, G1, G2, G3⟩, by simp [intOf]; omega⟩
          · have hkn' : k = m := by omega
            subst hkn'
            have j1 : ¬ ((k : Int) < (k : Int)) := by omega
            go_wp2
            go_ret2
            have HR2 : r = some t' := by rw [← HR.out, HT.out]
            refine ⟨t', HTR.out, HC.out, .inr ⟨HR2, d, q, HD.out, by omega, by omega, HF.out, Q1.out, by have := Q2.out; omega, by have := Q3.out; omega, ?_, ?_⟩⟩
            · rw [HM.out]; exact HK.out
            · rw [HM.out]; rfl
    · have hr' : r = none := by
        rw [hr]; unfold takeO
        rw [if_neg]
        intro hh
        simp only [Bool.and_eq_true, decide_eq_true_eq] at hh
        omega
      obtain ⟨n', hn'⟩ : ∃ n', childZ a d d = n' := ⟨_, rfl⟩
      have hn2 : n' = 0 ∨ (n' = a + 4 + d + d ∧ (d : Int) ≤ 1099511627776) := by
        rw [← hn']; unfold childZ; split
        · rename_i hh
          simp only [Bool.and_eq_true, nearB_iff] at hh
          exact .inr ⟨rfl, by omega⟩
        · exact .inl rfl
      have HC := hide hn'
      have HR := hide hr'
      have i1 : -100000 ≤ n' - a := by omega
      have i2 : n' - a ≤ 5000000000000 := by omega
      have i3 : ¬ (1 ≤ n' - a ∧ a + (n' - a) ≤ (s.xs.length : Int) + 1) := by omega
      have J1 := hide i1
      have J2 := hide i2
      have J3 := hide i3
      clear C e1 hD hI1 hI2 hd2 hfit hr hdn hr' hn' hn2 i3
      go_enter Try.func89, Try.ntmps89
      go_wp2_with (fail)
      refine (lk_p _ b s a d H.out.mem HD.out).mono ?_
      rintro e w' ⟨rfl, rfl⟩
      go_wp2_with (fail)
      refine (child_c _ a d d _ HC.out).mono ?_
      rintro e w' ⟨rfl, rfl⟩
      go_wp2_with (fail)
      refine (take0_p w0 _ b s c g t H.out a (n' - a) (by omega) (by omega) J1.out J2.out J3.out).mono ?_
      rintro e w' ⟨rfl, hT', t', C', _⟩
      have H' := hide C'
      have TT := hide hT'
      clear C' hT' H c0
      go_wp2
      go_ret2
      exact ⟨t', TT.out, H'.out, .inl ⟨HR.out, rfl⟩⟩
end Go.Proofs.Ytbojjpmcopnjpaa

/-! The program's check of soundness: slots, Inners, words. -/
namespace Go.Proofs.Ytbojjpmcopnjpaa
open Go.RowKit

/-- The contract of a word with fuel f, and of a slot. -/
def WordC (f : Nat) : Prop := ∀ (w0 W : World) (b : Nat) (s : Mst) (c g : Nat) (t : Tk) (_ : Chk w0 W b s c g t) (x lo hi : Int) (_ : I64 x) (_ : I64 lo) (_ : I64 hi) (_ : freeN (s.xs.length + 1) t < f) (r : Option Tk) (_ : sndW s f x lo hi t = r),
    Calls Try.prog 57 #[.pointer (some ⟨c, 0, none⟩), .int .i64 x, .int .i64 lo, .int .i64 hi] W (SndPost w0 W b s c g r)
def SlotC (f : Nat) : Prop := ∀ (w0 W : World) (b : Nat) (s : Mst) (c g : Nat) (t : Tk) (_ : Chk w0 W b s c g t) (x lo hi : Int) (_ : I64 lo) (_ : I64 hi) (_ : freeN (s.xs.length + 1) t < f) (r : Option Tk) (_ : sndSlot s (sndW s f) x lo hi t = r),
    Calls Try.prog 31 #[.pointer (some ⟨c, 0, none⟩), .int .i64 x, .int .i64 lo, .int .i64 hi] W (SndPost w0 W b s c g r)

theorem slot_of_word (f : Nat) (hW : WordC f) : SlotC f := by
  intro w0 W b s c g t C x lo hi hlo hhi hf r e1
  have c0 := C.c0
  have H := hide C
  obtain ⟨z, hz⟩ : ∃ z, s.look x = z := ⟨_, rfl⟩
  obtain ⟨k, hk⟩ : ∃ k, kd z = k := ⟨_, rfl⟩
  obtain ⟨p, hp⟩ : ∃ p, ad z = p := ⟨_, rfl⟩
  obtain ⟨l, hl⟩ : ∃ l, s.logicZ x = l := ⟨_, rfl⟩
  have hzb := C.ok.look x
  rw [hz] at hzb
  have hlb := C.ok.logic x
  rw [hl] at hlb
  have kr := ad_range z
  rw [hp] at kr
  have HZ := hide hz
  have HK := hide hk
  have HP := hide hp
  have HL := hide hl
  have HZB := hide hzb
  have HLB := hide hlb
  have HLO := hide hlo
  have HHI := hide hhi
  have HFU := hide hf
  have KR := hide kr
  have HO := hide C.ok
  by_cases hk5 : k = 5
  · cases hd : (decide (p + 4 ≤ (s.xs.length : Int)) && (s.look (p + 1) == x)) with
    | false =>
      have HR : Hid (r = none) := hide (by
        rw [← e1, sndSlot, dcssB, hz, hk, hp, hd, hk5]; rfl)
      have HD := hide hd
      subst hk5
      clear C hz hk hp hl hzb hlb hlo hhi hf kr e1 hd
      go_enter Try.func31, Try.ntmps31
      go_wp2_with (fail)
      refine (lk_p _ b s x z H.out.mem HZ.out).mono ?_
      rintro e w' ⟨rfl, rfl⟩
      go_wp2_with (fail)
      refine (kk_p _ z 5 HZB.out HK.out).mono ?_
      rintro e w' ⟨rfl, rfl⟩
      go_wp2_with (fail)
      refine (ak_p _ z p HZB.out HP.out).mono ?_
      rintro e w' ⟨rfl, rfl⟩
      go_wp2_with (fail)
      refine (dcss_p w0 _ b s c g t H.out p x false KR.out.1 (by have := KR.out.2; omega) HD.out).mono ?_
      rintro e w' ⟨rfl, rfl⟩
      go_wp2
      go_ret
      exact ⟨by rw [HR.out]; rfl, Turned.refl _ _, t, H.out, fun u h => by rw [HR.out] at h; cases h⟩
    | true =>
      have HR : Hid (sndW s f l lo hi t = r) := hide (by
        rw [← e1, sndSlot, dcssB, hz, hk, hp, hd, hk5, hl]; rfl)
      have HD := hide hd
      subst hk5
      clear C hz hk hp hl hzb hlb hlo hhi hf kr e1 hd
      go_enter Try.func31, Try.ntmps31
      go_wp2_with (fail)
      refine (lk_p _ b s x z H.out.mem HZ.out).mono ?_
      rintro e w' ⟨rfl, rfl⟩
      go_wp2_with (fail)
      refine (kk_p _ z 5 HZB.out HK.out).mono ?_
      rintro e w' ⟨rfl, rfl⟩
      go_wp2_with (fail)
      refine (ak_p _ z p HZB.out HP.out).mono ?_
      rintro e w' ⟨rfl, rfl⟩
      go_wp2_with (fail)
      refine (dcss_p w0 _ b s c g t H.out p x true KR.out.1 (by have := KR.out.2; omega) HD.out).mono ?_
      rintro e w' ⟨rfl, rfl⟩
      go_wp2_with (fail)
      refine (logic_p _ b s x l H.out.mem HO.out HL.out).mono ?_
      rintro e w' ⟨rfl, rfl⟩
      go_wp2_with (fail)
      refine (hW w0 _ b s c g t H.out l lo hi HLB.out HLO.out HHI.out HFU.out r HR.out).mono ?_
      rintro e w' ⟨rfl, hT, hC⟩
      have HC := hide hC
      have HT := hide hT
      clear hC hT H c0
      go_wp2
      go_ret
      exact ⟨rfl, HT.out, HC.out⟩
  · have HR : Hid (sndW s f l lo hi t = r) := hide (by
      have : (k == 5) = false := by simp [hk5]
      rw [← e1, sndSlot, dcssB, hz, hk, this, hl]; rfl)
    have g1 : (k == 5) = false := by simp [hk5]
    have g2 : (k != 5) = true := by simp [hk5]
    clear C hz hk hp hl hzb hlb hlo hhi hf kr e1 hk5
    go_enter Try.func31, Try.ntmps31
    go_wp2_with (fail)
    refine (lk_p _ b s x z H.out.mem HZ.out).mono ?_
    rintro e w' ⟨rfl, rfl⟩
    go_wp2_with (fail)
    refine (kk_p _ z k HZB.out HK.out).mono ?_
    rintro e w' ⟨rfl, rfl⟩
    go_wp2_with (fail)
    refine (logic_p _ b s x l H.out.mem HO.out HL.out).mono ?_
    rintro e w' ⟨rfl, rfl⟩
    go_wp2_with (fail)
    refine (hW w0 _ b s c g t H.out l lo hi HLB.out HLO.out HHI.out HFU.out r HR.out).mono ?_
    rintro e w' ⟨rfl, hT, hC⟩
    have HC := hide hC
    have HT := hide hT
    clear hC hT H c0
    go_wp2
    go_ret
    exact ⟨rfl, HT.out, HC.out⟩

theorem right_k (W : World) (q M : Nat) (L : List Int) (hM : L.length = M) (hm : M ≤ 100000) (hr : Reads W (some ⟨q, 0, none⟩) L) (r : Bool) (e1 : Pb.upB L = r) :
    Calls Try.prog 90 #[.slice (some ⟨q, 0, none⟩) M M] W fun e W' => e = .returned (.bool r) ∧ Kept W W' := by
  subst hM e1
  refine (Pb.right_c W (some ⟨q, 0, none⟩) L L.length hr (Nat.le_refl _) (by unfold maxLen; omega)).mono ?_
  rintro e W' ⟨rfl, m, rfl⟩
  exact ⟨rfl, Kept.drewN _ _⟩

theorem keysB_iff {s : Mst} {a d : Nat} {lo hi : Int} : keysB s a d lo hi = true ↔ ∀ i, i < d - 1 → lowZ s a lo i < ky s a (i + 1) ∧ ky s a (i + 1) ≤ hi := by
  unfold keysB
  rw [List.all_eq_true]
  constructor
  · intro h i hi'
    have := h i (by simpa using hi')
    simpa using this
  · intro h i hi'
    have := h i (by simpa using hi')
    simpa using this
theorem keysB_up {s : Mst} {a d : Nat} {lo hi : Int} (hd : d ≤ 60000) (h : keysB s a d lo hi = true) : Pb.upB (keysL s a d) = true := by
  refine Pb.up_true (by rw [keysL_len]; omega) ?_
  have hk := keysB_iff.1 h
  have key : ∀ i j, i < j → j < d - 1 → ky s a (i + 1) < ky s a (j + 1) := by
    intro i j hij
    induction j with
    | zero => omega
    | succ j ih =>
      intro hj
      have h1 := (hk (j + 1) hj).1
      rw [lowZ, if_neg (by omega)] at h1
      by_cases e : i = j
      · subst e; exact h1
      · exact Int.lt_trans (ih (by omega) (by omega)) h1
  rw [List.pairwise_iff_getElem]
  intro i j hi hj hij
  rw [keysL_len] at hi hj
  simp only [keysL, List.getElem_map, List.getElem_range]
  exact key i j hij hj
theorem keysB_of {s : Mst} {a d : Nat} {lo hi : Int} (hd : 2 ≤ d) (hu : Pb.upB (keysL s a d) = true) (h0 : lo < ky s a 1) (h1 : ky s a (d - 1) ≤ hi) : keysB s a d lo hi = true := by
  have hp : (keysL s a d).Pairwise (· < ·) := (of_decide_eq_true hu).2
  apply keysB_iff.2
  intro i hi'
  have up : ∀ i j, i < j → j < d - 1 → ky s a (i + 1) < ky s a (j + 1) := fun i j hij hj =>
    Pb.up_lt hp (keysL_get (by omega)) (keysL_get hj) hij
  constructor
  · unfold lowZ
    split
    · rename_i e; subst e; exact h0
    · rename_i e
      have := up (i - 1) i (by omega) hi'
      rwa [Nat.sub_add_cancel (by omega)] at this
  · by_cases e : i = d - 2
    · subst e
      have : d - 2 + 1 = d - 1 := by omega
      rwa [this]
    · have := up i (d - 2) (by omega) (by omega)
      rw [show d - 2 + 1 = d - 1 by omega] at this
      omega

set_option maxHeartbeats 2000000 in
set_option maxRecDepth 20000 in
theorem inner_of_slot (f : Nat) (hS : SlotC f) (w0 W : World) (b : Nat) (s : Mst) (c g : Nat) (t : Tk) (C : Chk w0 W b s c g t) (a : Nat) (lo hi : Int) (h1 : 1 ≤ a) (h2 : a ≤ 65536) (hlo : I64 lo) (hhi : I64 hi) (hf : freeN (s.xs.length + 1) t < f + 1) (r : Option Tk) (e1 : sndInner s (sndW s f) a lo hi t = r) :
    Calls Try.prog 76 #[.pointer (some ⟨c, 0, none⟩), .int .i64 (a : Int), .int .i64 lo, .int .i64 hi] W (SndPost w0 W b s c g r) := by
  have H := hide C
  have HO := hide C.ok
  have HLO := hide hlo
  have HHI := hide hhi
  have HSL := hide hS
  have HTT : Hid (∀ W', Chk w0 W' b s c g t → True) := hide (fun _ _ => trivial)
  have e2 : r = (innerT s t a).bind fun t1 => if (keysB s a (s.look a).toNat lo hi && shutB s a) = true then chain (kidG s (sndW s f) a (s.look a).toNat lo hi) (s.look a).toNat t1 else none := by
    rw [← e1, sndInner, innerT]
    by_cases h : s.look a < 2
    · rw [if_pos h, if_pos h]; rfl
    · rw [if_neg h, if_neg h]
  cases hT : innerT s t a with
  | none =>
    have HT := hide hT
    have HR : Hid (r = none) := hide (by rw [e2, hT]; rfl)
    have HKC := hide (keys_p w0 W b s c g t C a h1 h2 none hT)
    clear C hS hlo hhi hf e1 e2 hT
    go_enter Try.func76, Try.ntmps76
    go_wp2_with (fail)
    refine HKC.out.mono ?_
    rintro e W1 ⟨t', hT1, C1, h | h⟩
    · obtain ⟨_, rfl⟩ := h
      have H1 := hide C1
      have HT1 := hide hT1
      clear C1 H HKC hT1
      go_wp2
      go_ret
      exact ⟨by rw [HR.out]; rfl, HT1.out, t', H1.out, fun u h => by rw [HR.out] at h; cases h⟩
    · exact absurd h.1 (by simp)
  | some t1 =>
    have HT := hide hT
    have hfr : freeN (s.xs.length + 1) t1 < freeN (s.xs.length + 1) t := by
      unfold innerT at hT
      split at hT
      · cases hT
      · exact takeO_free hT
    have HFR : Hid (freeN (s.xs.length + 1) t1 < f) := hide (by omega)
    have E2 := hide e2
    have HKC := hide (keys_p w0 W b s c g t C a h1 h2 (some t1) hT)
    clear C hS hlo hhi hf e1 e2 hT hfr
    refine Exists.elim (show ∃ R, R = r from ⟨r, rfl⟩) (fun R hR => ?_)
    subst hR
    go_enter Try.func76, Try.ntmps76
    go_wp2_with (fail)
    refine HKC.out.mono ?_
    rintro e W1 ⟨t', hT1, C1, h | h⟩
    · exact absurd h.1 (by simp)
    obtain ⟨h0, d, q, hd, hd2, hd4, hfit, hq0, hqg, hqc, hq, rfl⟩ := h
    cases h0
    have HT1 := hide hT1
    have H1 := hide C1
    have hdn : (s.look a).toNat = d := by omega
    have E3 := E2.out
    rw [HT.out, hdn] at E3
    have E4 : Hid (R = if (keysB s a d lo hi && shutB s a) = true then chain (kidG s (sndW s f) a d lo hi) d t1 else none) := hide E3
    have HQ0 := hide hq0
    have HQG := hide hqg
    have HQC := hide hqc
    have HQ := hide hq
    have HD := hide hd
    have hfa : (a : Int) ≤ 65536 := by omega
    obtain ⟨M, hM⟩ : ∃ M, d - 1 = M := ⟨_, rfl⟩
    have dM : d = M + 1 := by omega
    subst dM
    have hM1 : 1 ≤ M := by omega
    have hM2 : M ≤ 40000 := by omega
    have hMM : M + 1 - 1 = M := by omega
    rw [hMM] at HQ
    rw [hMM]
    obtain ⟨L, hL⟩ : ∃ L, keysL s a (M + 1) = L := ⟨_, rfl⟩
    have HLL : Hid (L.length = M) := hide (by rw [← hL, keysL_len]; omega)
    have HRD : Hid (Reads W1 (some ⟨q, 0, none⟩) L) := hide (by rw [← hL]; exact reads_keys (by rw [hMM]; exact HQ.out))
    have HL := hide hL
    obtain ⟨k1, hk1⟩ : ∃ k1, ky s a 1 = k1 := ⟨_, rfl⟩
    obtain ⟨kM, hkM⟩ : ∃ kM, ky s a M = kM := ⟨_, rfl⟩
    have HK1 := hide hk1
    have HKM := hide hkM
    clear hT1 C1 hdn E3 hq0 hqg hqc hq hd hfit HKC H hM hMM hL hk1 hkM hd2 hd4 HT E2
    cases hu : Pb.upB L with
    | false =>
      have HU := hide hu
      have HR : Hid (R = none) := hide (by
        rw [E4.out, if_neg]
        intro hh
        simp only [Bool.and_eq_true] at hh
        have := keysB_up (by omega) hh.1
        rw [HL.out, hu] at this
        cases this)
      clear hu
      go_wp2_with (fail)
      refine (right_k _ q M L HLL.out (by omega) HRD.out false HU.out).mono ?_
      rintro e W2 ⟨rfl, hk⟩
      have HK2 := hide hk
      have H2 := hide (H1.out.on hk)
      have HQ2 : Hid (W2.rowIs q 2 M (fillK s a M)) := hide (HQ.out.of_block (hk.block q HQ.out.lt (fun e => e)))
      have T2 : Hid (Turned (fun i => i = g) W W2) := hide (Kept.behind HT1.out hk)
      clear hk
      go_wp2
      go_ret
      exact ⟨by rw [HR.out]; rfl, T2.out, t1, H2.out, fun u h => by rw [HR.out] at h; cases h⟩
    | true =>
      have HU := hide hu
      clear hu
      by_cases hk1 : k1 ≤ lo
      · have HR : Hid (R = none) := hide (by
          rw [E4.out, if_neg]
          intro hh
          simp only [Bool.and_eq_true] at hh
          have := (keysB_iff.1 hh.1 0 (by omega)).1
          rw [lowZ, if_pos rfl, HK1.out] at this
          omega)
        go_wp2_with (fail)
        refine (right_k _ q M L HLL.out (by omega) HRD.out true HU.out).mono ?_
        rintro e W2 ⟨rfl, hk⟩
        have HK2 := hide hk
        have H2 := hide (H1.out.on hk)
        have HQ2 : Hid (W2.rowIs q 2 M (fillK s a M)) := hide (HQ.out.of_block (hk.block q HQ.out.lt (fun e => e)))
        have T2 : Hid (Turned (fun i => i = g) W W2) := hide (Kept.behind HT1.out hk)
        clear hk
        have q1 : W2.cell? ⟨q, 0, none⟩ = some (.int .i64 k1) := by
          rw [HQ2.out.cell (by omega), fillK, if_pos (by omega), ← HK1.out]
        have q2 : W2.cell? ⟨q, M - 1, none⟩ = some (.int .i64 kM) := by
          rw [HQ2.out.cell (by omega), fillK, if_pos (by omega), ← HKM.out, Nat.sub_add_cancel (by omega)]
        have q3 : ((M : Int) - 1).toNat = M - 1 := by omega
        have q4 : (M : Int) - 1 < (M : Int) := by omega
        have q5 : (0 : Int) < (M : Int) := by omega
        have q6 := H2.out.c0
        go_wp2
        go_ret
        exact ⟨by rw [HR.out]; rfl, T2.out, t1, H2.out, fun u h => by rw [HR.out] at h; cases h⟩
      · by_cases hk2 : hi < kM
        · have HR : Hid (R = none) := hide (by
            rw [E4.out, if_neg]
            intro hh
            simp only [Bool.and_eq_true] at hh
            have := (keysB_iff.1 hh.1 (M - 1) (by omega)).2
            rw [Nat.sub_add_cancel (by omega), HKM.out] at this
            omega)
          go_wp2_with (fail)
          refine (right_k _ q M L HLL.out (by omega) HRD.out true HU.out).mono ?_
          rintro e W2 ⟨rfl, hk⟩
          have HK2 := hide hk
          have H2 := hide (H1.out.on hk)
          have HQ2 : Hid (W2.rowIs q 2 M (fillK s a M)) := hide (HQ.out.of_block (hk.block q HQ.out.lt (fun e => e)))
          have T2 : Hid (Turned (fun i => i = g) W W2) := hide (Kept.behind HT1.out hk)
          clear hk
          have q1 : W2.cell? ⟨q, 0, none⟩ = some (.int .i64 k1) := by
            rw [HQ2.out.cell (by omega), fillK, if_pos (by omega), ← HK1.out]
          have q2 : W2.cell? ⟨q, M - 1, none⟩ = some (.int .i64 kM) := by
            rw [HQ2.out.cell (by omega), fillK, if_pos (by omega), ← HKM.out, Nat.sub_add_cancel (by omega)]
          have q3 : ((M : Int) - 1).toNat = M - 1 := by omega
          have q4 : (M : Int) - 1 < (M : Int) := by omega
          have q5 : (0 : Int) < (M : Int) := by omega
          have q6 := H2.out.c0
          go_wp2
          go_ret
          exact ⟨by rw [HR.out]; rfl, T2.out, t1, H2.out, fun u h => by rw [HR.out] at h; cases h⟩
        · have KB : Hid (keysB s a (M + 1) lo hi = true) := hide (keysB_of (by omega) (by rw [HL.out]; exact HU.out) (by rw [HK1.out]; omega) (by rw [show M + 1 - 1 = M by omega, HKM.out]; omega))
          obtain ⟨z, hz⟩ : ∃ z, s.look ((a : Int) + 2) = z := ⟨_, rfl⟩
          have HZ := hide hz
          clear hz
          have hk1' : lo < k1 := by omega
          have hk2' : kM ≤ hi := by omega
          clear hk1 hk2
          by_cases hz01 : z = 0 ∨ z = 1
          · have SB : Hid (shutB s a = true) := hide (by unfold shutB; rw [HZ.out]; rcases hz01 with e | e <;> subst e <;> rfl)
            have E5 : Hid (R = chain (kidG s (sndW s f) a (M + 1) lo hi) (M + 1) t1) := hide (by rw [E4.out, KB.out, SB.out]; rfl)
            have START : Hid (chain (kidG s (sndW s f) a (M + 1) lo hi) 0 t1 = some t1) := hide rfl
            clear SB E4
            rcases hz01 with hz0 | hz0
            · subst hz0
              go_wp2_with (fail)
              refine (right_k _ q M L HLL.out (by omega) HRD.out true HU.out).mono ?_
              rintro e W2 ⟨rfl, hk⟩
              have HK2 := hide hk
              have H2 := hide (H1.out.on hk)
              have HQ2 : Hid (W2.rowIs q 2 M (fillK s a M)) := hide (HQ.out.of_block (hk.block q HQ.out.lt (fun e => e)))
              have T2 : Hid (Turned (fun i => i = g) W W2) := hide (Kept.behind HT1.out hk)
              clear hk
              have q1 : W2.cell? ⟨q, 0, none⟩ = some (.int .i64 k1) := by
                rw [HQ2.out.cell (by omega), fillK, if_pos (by omega), ← HK1.out]
              have q2 : W2.cell? ⟨q, M - 1, none⟩ = some (.int .i64 kM) := by
                rw [HQ2.out.cell (by omega), fillK, if_pos (by omega), ← HKM.out, Nat.sub_add_cancel (by omega)]
              have q3 : ((M : Int) - 1).toNat = M - 1 := by omega
              have q4 : (M : Int) - 1 < (M : Int) := by omega
              have q5 : (0 : Int) < (M : Int) := by omega
              have q6 := H2.out.c0
              go_wp2_with (fail)
              refine (lk_p _ b s ((a : Int) + 2) 0 H2.out.mem HZ.out).mono ?_
              rintro e w' ⟨rfl, rfl⟩
              clear q1 q2 q3 q4 q5 q6
              go_wp2
              go_loopw [63] (fun v wr => ∃ (k : Nat) (tk : Tk), k ≤ M + 1 ∧ v = .int .i64 (k : Int) ∧ Hid (chain (kidG s (sndW s f) a (M + 1) lo hi) k t1 = some tk) ∧ Hid (Chk w0 wr b s c g tk) ∧ Hid (wr.rowIs q 2 M (fillK s a M)) ∧ Hid (Turned (fun i => i = g) W wr)) (fun v _ => M + 1 - (intOf v).toNat)
              case atStart => exact ⟨0, t1, by omega, by simp, START, H2, HQ2, T2⟩
              case round =>
                obtain ⟨k, tk, hk, rfl, HCH, HC, HW, HTW⟩ := hrel
                by_cases hkn : k < M + 1
                · have j1 : (k : Int) < (M : Int) + 1 := by omega
                  have HFK : Hid (freeN (s.xs.length + 1) tk < f) := hide (Nat.lt_of_le_of_lt (chain_free (sndW_free s f) HCH.out) HFR.out)
                  have hcz := hide (childZ_in (n := a) (d := (M : Int) + 1) (i := k) (by omega) (by omega) (by omega) (by omega) (by omega) (by omega))
                  obtain ⟨u, hu⟩ : ∃ u, kidG s (sndW s f) a (M + 1) lo hi k tk = u := ⟨_, rfl⟩
                  have HUU := hide hu
                  have HNX : Hid (chain (kidG s (sndW s f) a (M + 1) lo hi) (k + 1) t1 = u) := hide (by rw [chain, HCH.out]; exact hu)
                  clear hu HCH
                  by_cases hk0 : k = 0
                  · by_cases hkM : k < M
                    · obtain ⟨kh, hkh⟩ : ∃ kh, ky s a (k + 1) = kh := ⟨_, rfl⟩
                      have r1 : wr.cell? ⟨q, k, none⟩ = some (.int .i64 kh) := by
                        rw [HW.out.cell (by omega), fillK, if_pos (by omega), ← hkh]
                      have r2 : (k : Int) < (M : Int) := by omega
                      have bh1 : I64 kh := by rw [← hkh]; exact HO.out.look _
                      have bh2 : lo < kh := by
                        have h1 := keysB_iff.1 KB.out
                        have : ∀ j, j < M → lo < ky s a (j + 1) := by
                          intro j
                          induction j with
                          | zero => intro hj; have := (h1 0 (by omega)).1; rwa [lowZ, if_pos rfl] at this
                          | succ j ih =>
                            intro hj
                            have h2 := (h1 (j + 1) (by omega)).1
                            rw [lowZ, if_neg (by omega)] at h2
                            have := ih (by omega)
                            omega
                        have := this k (by omega)
                        rwa [hkh] at this
                      have bl := HLO.out
                      have bh3 : -9223372036854775808 ≤ kh - 1 := by have := bl.1; omega
                      have bh4 : kh - 1 ≤ 9223372036854775807 := by have := bh1.2; omega
                      have BH : Hid (I64 (kh - 1)) := hide ⟨bh3, bh4⟩
                      have HU2 : Hid (sndSlot s (sndW s f) ((a : Int) + 4 + ((M : Int) + 1) + k) lo (kh - 1) tk = u) := hide (by
                        rw [← HUU.out]; unfold kidG childS lowZ highZ
                        rw [if_pos hk0, if_pos (by omega), hkh]
                        rfl)
                      subst hk0
                      clear HUU hkh bh1 bl bh2
                      go_wp2_with (fail)
                      refine (child_c _ a ((M : Int) + 1) 0 _ hcz.out).mono ?_
                      rintro e w' ⟨rfl, rfl⟩
                      go_wp2_with (fail)
                      refine (HSL.out w0 _ b s c g tk HC.out _ lo (kh - 1) HLO.out BH.out HFK.out u HU2.out).mono ?_
                      rintro e W4 ⟨rfl, hT4, t4, C4, ht4⟩
                      have H4 := hide C4
                      have T4 : Hid (Turned (fun i => i = g) W W4) := hide (HTW.out.trans hT4 (fun _ e => e) (fun _ _ e => e))
                      have Q4 : Hid (W4.rowIs q 2 M (fillK s a M)) := hide (HW.out.of_block (hT4.block q HW.out.lt HQG.out))
                      cases u with
                      | none =>
                        have HR : Hid (R = none) := hide (by rw [E5.out]; exact chain_none HNX.out (by omega))
                        clear hT4 C4 ht4 HC HW HTW r1
                        go_wp2
                        go_ret
                        exact ⟨by rw [HR.out]; rfl, T4.out, t4, H4.out, fun u h => by rw [HR.out] at h; cases h⟩
                      | some u =>
                        have := ht4 u rfl
                        subst this
                        clear hT4 C4 ht4 HC HW HTW r1
                        go_wp2
                        exact ⟨⟨1, _, by omega, by simp, HNX, H4, Q4, T4⟩, by simp [intOf]⟩
                    · omega
                  · by_cases hkM : k < M
                    · obtain ⟨kl, hkl⟩ : ∃ kl, ky s a k = kl := ⟨_, rfl⟩
                      have p1 : wr.cell? ⟨q, k - 1, none⟩ = some (.int .i64 kl) := by
                        rw [HW.out.cell (by omega), fillK, if_pos (by omega), ← hkl, Nat.sub_add_cancel (by omega)]
                      have p2 : ((k : Int) - 1).toNat = k - 1 := by omega
                      have p3 : (0 : Int) < (k : Int) := by omega
                      have p4 : (k : Int) - 1 < (M : Int) := by omega
                      have BL : Hid (I64 kl) := hide (by rw [← hkl]; exact HO.out.look _)
                      obtain ⟨kh, hkh⟩ : ∃ kh, ky s a (k + 1) = kh := ⟨_, rfl⟩
                      have r1 : wr.cell? ⟨q, k, none⟩ = some (.int .i64 kh) := by
                        rw [HW.out.cell (by omega), fillK, if_pos (by omega), ← hkh]
                      have r2 : (k : Int) < (M : Int) := by omega
                      have bh1 : I64 kh := by rw [← hkh]; exact HO.out.look _
                      have bh2 : lo < kh := by
                        have h1 := keysB_iff.1 KB.out
                        have : ∀ j, j < M → lo < ky s a (j + 1) := by
                          intro j
                          induction j with
                          | zero => intro hj; have := (h1 0 (by omega)).1; rwa [lowZ, if_pos rfl] at this
                          | succ j ih =>
                            intro hj
                            have h2 := (h1 (j + 1) (by omega)).1
                            rw [lowZ, if_neg (by omega)] at h2
                            have := ih (by omega)
                            omega
                        have := this k (by omega)
                        rwa [hkh] at this
                      have bl := HLO.out
                      have bh3 : -9223372036854775808 ≤ kh - 1 := by have := bl.1; omega
                      have bh4 : kh - 1 ≤ 9223372036854775807 := by have := bh1.2; omega
                      have BH : Hid (I64 (kh - 1)) := hide ⟨bh3, bh4⟩
                      have HU2 : Hid (sndSlot s (sndW s f) ((a : Int) + 4 + ((M : Int) + 1) + k) kl (kh - 1) tk = u) := hide (by
                        rw [← HUU.out]; unfold kidG childS lowZ highZ
                        rw [if_neg hk0, hkl, if_pos (by omega), hkh]
                        rfl)
                      clear HUU hkl hkh bh1 bl bh2
                      go_wp2_with (fail)
                      refine (child_c _ a ((M : Int) + 1) k _ hcz.out).mono ?_
                      rintro e w' ⟨rfl, rfl⟩
                      go_wp2_with (fail)
                      refine (HSL.out w0 _ b s c g tk HC.out _ kl (kh - 1) BL.out BH.out HFK.out u HU2.out).mono ?_
                      rintro e W4 ⟨rfl, hT4, t4, C4, ht4⟩
                      have H4 := hide C4
                      have T4 : Hid (Turned (fun i => i = g) W W4) := hide (HTW.out.trans hT4 (fun _ e => e) (fun _ _ e => e))
                      have Q4 : Hid (W4.rowIs q 2 M (fillK s a M)) := hide (HW.out.of_block (hT4.block q HW.out.lt HQG.out))
                      cases u with
                      | none =>
                        have HR : Hid (R = none) := hide (by rw [E5.out]; exact chain_none HNX.out (by omega))
                        clear hT4 C4 ht4 HC HW HTW p1 r1
                        go_wp2
                        go_ret
                        exact ⟨by rw [HR.out]; rfl, T4.out, t4, H4.out, fun u h => by rw [HR.out] at h; cases h⟩
                      | some u =>
                        have := ht4 u rfl
                        subst this
                        clear hT4 C4 ht4 HC HW HTW p1 r1
                        go_wp2
                        exact ⟨⟨k + 1, _, by omega, by simp, HNX, H4, Q4, T4⟩, by simp [intOf]; omega⟩
                    · obtain ⟨kl, hkl⟩ : ∃ kl, ky s a k = kl := ⟨_, rfl⟩
                      have p1 : wr.cell? ⟨q, k - 1, none⟩ = some (.int .i64 kl) := by
                        rw [HW.out.cell (by omega), fillK, if_pos (by omega), ← hkl, Nat.sub_add_cancel (by omega)]
                      have p2 : ((k : Int) - 1).toNat = k - 1 := by omega
                      have p3 : (0 : Int) < (k : Int) := by omega
                      have p4 : (k : Int) - 1 < (M : Int) := by omega
                      have BL : Hid (I64 kl) := hide (by rw [← hkl]; exact HO.out.look _)
                      have r2 : ¬ ((k : Int) < (M : Int)) := by omega
                      have HU2 : Hid (sndSlot s (sndW s f) ((a : Int) + 4 + ((M : Int) + 1) + k) kl hi tk = u) := hide (by
                        rw [← HUU.out]; unfold kidG childS lowZ highZ
                        rw [if_neg hk0, hkl, if_neg (by omega)]
                        rfl)
                      clear HUU hkl
                      go_wp2_with (fail)
                      refine (child_c _ a ((M : Int) + 1) k _ hcz.out).mono ?_
                      rintro e w' ⟨rfl, rfl⟩
                      go_wp2_with (fail)
                      refine (HSL.out w0 _ b s c g tk HC.out _ kl hi BL.out HHI.out HFK.out u HU2.out).mono ?_
                      rintro e W4 ⟨rfl, hT4, t4, C4, ht4⟩
                      have H4 := hide C4
                      have T4 : Hid (Turned (fun i => i = g) W W4) := hide (HTW.out.trans hT4 (fun _ e => e) (fun _ _ e => e))
                      have Q4 : Hid (W4.rowIs q 2 M (fillK s a M)) := hide (HW.out.of_block (hT4.block q HW.out.lt HQG.out))
                      cases u with
                      | none =>
                        have HR : Hid (R = none) := hide (by rw [E5.out]; exact chain_none HNX.out (by omega))
                        clear hT4 C4 ht4 HC HW HTW p1
                        go_wp2
                        go_ret
                        exact ⟨by rw [HR.out]; rfl, T4.out, t4, H4.out, fun u h => by rw [HR.out] at h; cases h⟩
                      | some u =>
                        have := ht4 u rfl
                        subst this
                        clear hT4 C4 ht4 HC HW HTW p1
                        go_wp2
                        exact ⟨⟨k + 1, _, by omega, by simp, HNX, H4, Q4, T4⟩, by simp [intOf]; omega⟩
                · have hkn' : k = M + 1 := by omega
                  subst hkn'
                  have j1 : ¬ (((M + 1 : Nat) : Int) < (M : Int) + 1) := by omega
                  have HR : Hid (R = some tk) := hide (by rw [E5.out]; exact HCH.out)
                  clear HCH
                  go_wp2
                  go_ret
                  exact ⟨by rw [HR.out]; rfl, HTW.out, tk, HC.out, fun u h => by rw [HR.out] at h; cases h; rfl⟩
            · subst hz0
              go_wp2_with (fail)
              refine (right_k _ q M L HLL.out (by omega) HRD.out true HU.out).mono ?_
              rintro e W2 ⟨rfl, hk⟩
              have HK2 := hide hk
              have H2 := hide (H1.out.on hk)
              have HQ2 : Hid (W2.rowIs q 2 M (fillK s a M)) := hide (HQ.out.of_block (hk.block q HQ.out.lt (fun e => e)))
              have T2 : Hid (Turned (fun i => i = g) W W2) := hide (Kept.behind HT1.out hk)
              clear hk
              have q1 : W2.cell? ⟨q, 0, none⟩ = some (.int .i64 k1) := by
                rw [HQ2.out.cell (by omega), fillK, if_pos (by omega), ← HK1.out]
              have q2 : W2.cell? ⟨q, M - 1, none⟩ = some (.int .i64 kM) := by
                rw [HQ2.out.cell (by omega), fillK, if_pos (by omega), ← HKM.out, Nat.sub_add_cancel (by omega)]
              have q3 : ((M : Int) - 1).toNat = M - 1 := by omega
              have q4 : (M : Int) - 1 < (M : Int) := by omega
              have q5 : (0 : Int) < (M : Int) := by omega
              have q6 := H2.out.c0
              go_wp2_with (fail)
              refine (lk_p _ b s ((a : Int) + 2) 1 H2.out.mem HZ.out).mono ?_
              rintro e w' ⟨rfl, rfl⟩
              clear q1 q2 q3 q4 q5 q6
              go_wp2
              go_loopw [63] (fun v wr => ∃ (k : Nat) (tk : Tk), k ≤ M + 1 ∧ v = .int .i64 (k : Int) ∧ Hid (chain (kidG s (sndW s f) a (M + 1) lo hi) k t1 = some tk) ∧ Hid (Chk w0 wr b s c g tk) ∧ Hid (wr.rowIs q 2 M (fillK s a M)) ∧ Hid (Turned (fun i => i = g) W wr)) (fun v _ => M + 1 - (intOf v).toNat)
              case atStart => exact ⟨0, t1, by omega, by simp, START, H2, HQ2, T2⟩
              case round =>
                obtain ⟨k, tk, hk, rfl, HCH, HC, HW, HTW⟩ := hrel
                by_cases hkn : k < M + 1
                · have j1 : (k : Int) < (M : Int) + 1 := by omega
                  have HFK : Hid (freeN (s.xs.length + 1) tk < f) := hide (Nat.lt_of_le_of_lt (chain_free (sndW_free s f) HCH.out) HFR.out)
                  have hcz := hide (childZ_in (n := a) (d := (M : Int) + 1) (i := k) (by omega) (by omega) (by omega) (by omega) (by omega) (by omega))
                  obtain ⟨u, hu⟩ : ∃ u, kidG s (sndW s f) a (M + 1) lo hi k tk = u := ⟨_, rfl⟩
                  have HUU := hide hu
                  have HNX : Hid (chain (kidG s (sndW s f) a (M + 1) lo hi) (k + 1) t1 = u) := hide (by rw [chain, HCH.out]; exact hu)
                  clear hu HCH
                  by_cases hk0 : k = 0
                  · by_cases hkM : k < M
                    · obtain ⟨kh, hkh⟩ : ∃ kh, ky s a (k + 1) = kh := ⟨_, rfl⟩
                      have r1 : wr.cell? ⟨q, k, none⟩ = some (.int .i64 kh) := by
                        rw [HW.out.cell (by omega), fillK, if_pos (by omega), ← hkh]
                      have r2 : (k : Int) < (M : Int) := by omega
                      have bh1 : I64 kh := by rw [← hkh]; exact HO.out.look _
                      have bh2 : lo < kh := by
                        have h1 := keysB_iff.1 KB.out
                        have : ∀ j, j < M → lo < ky s a (j + 1) := by
                          intro j
                          induction j with
                          | zero => intro hj; have := (h1 0 (by omega)).1; rwa [lowZ, if_pos rfl] at this
                          | succ j ih =>
                            intro hj
                            have h2 := (h1 (j + 1) (by omega)).1
                            rw [lowZ, if_neg (by omega)] at h2
                            have := ih (by omega)
                            omega
                        have := this k (by omega)
                        rwa [hkh] at this
                      have bl := HLO.out
                      have bh3 : -9223372036854775808 ≤ kh - 1 := by have := bl.1; omega
                      have bh4 : kh - 1 ≤ 9223372036854775807 := by have := bh1.2; omega
                      have BH : Hid (I64 (kh - 1)) := hide ⟨bh3, bh4⟩
                      have HU2 : Hid (sndSlot s (sndW s f) ((a : Int) + 4 + ((M : Int) + 1) + k) lo (kh - 1) tk = u) := hide (by
                        rw [← HUU.out]; unfold kidG childS lowZ highZ
                        rw [if_pos hk0, if_pos (by omega), hkh]
                        rfl)
                      subst hk0
                      clear HUU hkh bh1 bl bh2
                      go_wp2_with (fail)
                      refine (child_c _ a ((M : Int) + 1) 0 _ hcz.out).mono ?_
                      rintro e w' ⟨rfl, rfl⟩
                      go_wp2_with (fail)
                      refine (HSL.out w0 _ b s c g tk HC.out _ lo (kh - 1) HLO.out BH.out HFK.out u HU2.out).mono ?_
                      rintro e W4 ⟨rfl, hT4, t4, C4, ht4⟩
                      have H4 := hide C4
                      have T4 : Hid (Turned (fun i => i = g) W W4) := hide (HTW.out.trans hT4 (fun _ e => e) (fun _ _ e => e))
                      have Q4 : Hid (W4.rowIs q 2 M (fillK s a M)) := hide (HW.out.of_block (hT4.block q HW.out.lt HQG.out))
                      cases u with
                      | none =>
                        have HR : Hid (R = none) := hide (by rw [E5.out]; exact chain_none HNX.out (by omega))
                        clear hT4 C4 ht4 HC HW HTW r1
                        go_wp2
                        go_ret
                        exact ⟨by rw [HR.out]; rfl, T4.out, t4, H4.out, fun u h => by rw [HR.out] at h; cases h⟩
                      | some u =>
                        have := ht4 u rfl
                        subst this
                        clear hT4 C4 ht4 HC HW HTW r1
                        go_wp2
                        exact ⟨⟨1, _, by omega, by simp, HNX, H4, Q4, T4⟩, by simp [intOf]⟩
                    · omega
                  · by_cases hkM : k < M
                    · obtain ⟨kl, hkl⟩ : ∃ kl, ky s a k = kl := ⟨_, rfl⟩
                      have p1 : wr.cell? ⟨q, k - 1, none⟩ = some (.int .i64 kl) := by
                        rw [HW.out.cell (by omega), fillK, if_pos (by omega), ← hkl, Nat.sub_add_cancel (by omega)]
                      have p2 : ((k : Int) - 1).toNat = k - 1 := by omega
                      have p3 : (0 : Int) < (k : Int) := by omega
                      have p4 : (k : Int) - 1 < (M : Int) := by omega
                      have BL : Hid (I64 kl) := hide (by rw [← hkl]; exact HO.out.look _)
                      obtain ⟨kh, hkh⟩ : ∃ kh, ky s a (k + 1) = kh := ⟨_, rfl⟩
                      have r1 : wr.cell? ⟨q, k, none⟩ = some (.int .i64 kh) := by
                        rw [HW.out.cell (by omega), fillK, if_pos (by omega), ← hkh]
                      have r2 : (k : Int) < (M : Int) := by omega
                      have bh1 : I64 kh := by rw [← hkh]; exact HO.out.look _
                      have bh2 : lo < kh := by
                        have h1 := keysB_iff.1 KB.out
                        have : ∀ j, j < M → lo < ky s a (j + 1) := by
                          intro j
                          induction j with
                          | zero => intro hj; have := (h1 0 (by omega)).1; rwa [lowZ, if_pos rfl] at this
                          | succ j ih =>
                            intro hj
                            have h2 := (h1 (j + 1) (by omega)).1
                            rw [lowZ, if_neg (by omega)] at h2
                            have := ih (by omega)
                            omega
                        have := this k (by omega)
                        rwa [hkh] at this
                      have bl := HLO.out
                      have bh3 : -9223372036854775808 ≤ kh - 1 := by have := bl.1; omega
                      have bh4 : kh - 1 ≤ 9223372036854775807 := by have := bh1.2; omega
                      have BH : Hid (I64 (kh - 1)) := hide ⟨bh3, bh4⟩
                      have HU2 : Hid (sndSlot s (sndW s f) ((a : Int) + 4 + ((M : Int) + 1) + k) kl (kh - 1) tk = u) := hide (by
                        rw [← HUU.out]; unfold kidG childS lowZ highZ
                        rw [if_neg hk0, hkl, if_pos (by omega), hkh]
                        rfl)
                      clear HUU hkl hkh bh1 bl bh2
                      go_wp2_with (fail)
                      refine (child_c _ a ((M : Int) + 1) k _ hcz.out).mono ?_
                      rintro e w' ⟨rfl, rfl⟩
                      go_wp2_with (fail)
                      refine (HSL.out w0 _ b s c g tk HC.out _ kl (kh - 1) BL.out BH.out HFK.out u HU2.out).mono ?_
                      rintro e W4 ⟨rfl, hT4, t4, C4, ht4⟩
                      have H4 := hide C4
                      have T4 : Hid (Turned (fun i => i = g) W W4) := hide (HTW.out.trans hT4 (fun _ e => e) (fun _ _ e => e))
                      have Q4 : Hid (W4.rowIs q 2 M (fillK s a M)) := hide (HW.out.of_block (hT4.block q HW.out.lt HQG.out))
                      cases u with
                      | none =>
                        have HR : Hid (R = none) := hide (by rw [E5.out]; exact chain_none HNX.out (by omega))
                        clear hT4 C4 ht4 HC HW HTW p1 r1
                        go_wp2
                        go_ret
                        exact ⟨by rw [HR.out]; rfl, T4.out, t4, H4.out, fun u h => by rw [HR.out] at h; cases h⟩
                      | some u =>
                        have := ht4 u rfl
                        subst this
                        clear hT4 C4 ht4 HC HW HTW p1 r1
                        go_wp2
                        exact ⟨⟨k + 1, _, by omega, by simp, HNX, H4, Q4, T4⟩, by simp [intOf]; omega⟩
                    · obtain ⟨kl, hkl⟩ : ∃ kl, ky s a k = kl := ⟨_, rfl⟩
                      have p1 : wr.cell? ⟨q, k - 1, none⟩ = some (.int .i64 kl) := by
                        rw [HW.out.cell (by omega), fillK, if_pos (by omega), ← hkl, Nat.sub_add_cancel (by omega)]
                      have p2 : ((k : Int) - 1).toNat = k - 1 := by omega
                      have p3 : (0 : Int) < (k : Int) := by omega
                      have p4 : (k : Int) - 1 < (M : Int) := by omega
                      have BL : Hid (I64 kl) := hide (by rw [← hkl]; exact HO.out.look _)
                      have r2 : ¬ ((k : Int) < (M : Int)) := by omega
                      have HU2 : Hid (sndSlot s (sndW s f) ((a : Int) + 4 + ((M : Int) + 1) + k) kl hi tk = u) := hide (by
                        rw [← HUU.out]; unfold kidG childS lowZ highZ
                        rw [if_neg hk0, hkl, if_neg (by omega)]
                        rfl)
                      clear HUU hkl
                      go_wp2_with (fail)
                      refine (child_c _ a ((M : Int) + 1) k _ hcz.out).mono ?_
                      rintro e w' ⟨rfl, rfl⟩
                      go_wp2_with (fail)
                      refine (HSL.out w0 _ b s c g tk HC.out _ kl hi BL.out HHI.out HFK.out u HU2.out).mono ?_
                      rintro e W4 ⟨rfl, hT4, t4, C4, ht4⟩
                      have H4 := hide C4
                      have T4 : Hid (Turned (fun i => i = g) W W4) := hide (HTW.out.trans hT4 (fun _ e => e) (fun _ _ e => e))
                      have Q4 : Hid (W4.rowIs q 2 M (fillK s a M)) := hide (HW.out.of_block (hT4.block q HW.out.lt HQG.out))
                      cases u with
                      | none =>
                        have HR : Hid (R = none) := hide (by rw [E5.out]; exact chain_none HNX.out (by omega))
                        clear hT4 C4 ht4 HC HW HTW p1
                        go_wp2
                        go_ret
                        exact ⟨by rw [HR.out]; rfl, T4.out, t4, H4.out, fun u h => by rw [HR.out] at h; cases h⟩
                      | some u =>
                        have := ht4 u rfl
                        subst this
                        clear hT4 C4 ht4 HC HW HTW p1
                        go_wp2
                        exact ⟨⟨k + 1, _, by omega, by simp, HNX, H4, Q4, T4⟩, by simp [intOf]; omega⟩
                · have hkn' : k = M + 1 := by omega
                  subst hkn'
                  have j1 : ¬ (((M + 1 : Nat) : Int) < (M : Int) + 1) := by omega
                  have HR : Hid (R = some tk) := hide (by rw [E5.out]; exact HCH.out)
                  clear HCH
                  go_wp2
                  go_ret
                  exact ⟨by rw [HR.out]; rfl, HTW.out, tk, HC.out, fun u h => by rw [HR.out] at h; cases h; rfl⟩
          · have SB : Hid (shutB s a = false) := hide (by unfold shutB; rw [HZ.out]; simp; omega)
            have HR : Hid (R = none) := hide (by rw [E4.out, KB.out, SB.out]; rfl)
            have g1 : (z == 0) = false := by simp; omega
            have g2 : (z != 0) = true := by simp; omega
            have g3 : (z == 1) = false := by simp; omega
            have g4 : (z != 1) = true := by simp; omega
            clear hz01 SB E4
            go_wp2_with (fail)
            refine (right_k _ q M L HLL.out (by omega) HRD.out true HU.out).mono ?_
            rintro e W2 ⟨rfl, hk⟩
            have HK2 := hide hk
            have H2 := hide (H1.out.on hk)
            have HQ2 : Hid (W2.rowIs q 2 M (fillK s a M)) := hide (HQ.out.of_block (hk.block q HQ.out.lt (fun e => e)))
            have T2 : Hid (Turned (fun i => i = g) W W2) := hide (Kept.behind HT1.out hk)
            clear hk
            have q1 : W2.cell? ⟨q, 0, none⟩ = some (.int .i64 k1) := by
              rw [HQ2.out.cell (by omega), fillK, if_pos (by omega), ← HK1.out]
            have q2 : W2.cell? ⟨q, M - 1, none⟩ = some (.int .i64 kM) := by
              rw [HQ2.out.cell (by omega), fillK, if_pos (by omega), ← HKM.out, Nat.sub_add_cancel (by omega)]
            have q3 : ((M : Int) - 1).toNat = M - 1 := by omega
            have q4 : (M : Int) - 1 < (M : Int) := by omega
            have q5 : (0 : Int) < (M : Int) := by omega
            have q6 := H2.out.c0
            go_wp2_with (fail)
            refine (lk_p _ b s ((a : Int) + 2) z H2.out.mem HZ.out).mono ?_
            rintro e w' ⟨rfl, rfl⟩
            go_wp2
            go_ret
            exact ⟨by rw [HR.out]; rfl, T2.out, t1, H2.out, fun u h => by rw [HR.out] at h; cases h⟩
end Go.Proofs.Ytbojjpmcopnjpaa

/-! The program's check of soundness: words (by fuel), and Sound. -/
namespace Go.Proofs.Ytbojjpmcopnjpaa
open Go.RowKit

theorem sndW_succ (s : Mst) (f : Nat) (w lo hi : Int) (t : Tk) : sndW s (f + 1) w lo hi t =
    if kd w = 1 then takeO (s.xs.length + 1) t (ad w).toNat 1
    else if kd w = 2 then (if lo ≤ s.look (ad w) ∧ s.look (ad w) ≤ hi then takeO (s.xs.length + 1) t (ad w).toNat 2 else none)
    else if kd w = 3 then sndInner s (sndW s f) (ad w).toNat lo hi t
    else if kd w = 4 then (if kd (s.look (ad w)) = 3 then (takeO (s.xs.length + 1) t (ad w).toNat 5).bind fun t1 => sndW s f (s.look (ad w)) lo hi t1 else none)
    else none := rfl

set_option maxHeartbeats 1000000 in
set_option maxRecDepth 20000 in
theorem word_p : ∀ f, WordC f
  | 0 => fun w0 W b s c g t C x lo hi hx hlo hhi hf r e1 => absurd hf (by omega)
  | f + 1 => by
    have ih := word_p f
    have hS := slot_of_word f ih
    intro w0 W b s c g t C x lo hi hx hlo hhi hf r e1
    have c0 := C.c0
    have H := hide C
    have HX := hide hx
    have HLO := hide hlo
    have HHI := hide hhi
    have HF := hide hf
    have IH := hide ih
    have HS := hide hS
    obtain ⟨k, hk⟩ : ∃ k, kd x = k := ⟨_, rfl⟩
    obtain ⟨p, hp⟩ : ∃ p, ad x = p := ⟨_, rfl⟩
    have kr := ad_range x
    rw [hp] at kr
    have HK := hide hk
    obtain ⟨a, rfl⟩ : ∃ a : Nat, p = (a : Int) := ⟨p.toNat, by omega⟩
    have HP := hide hp
    have hap : k ≠ 0 → 1 ≤ a := fun h => by
      have := ad_pos (w := x) (by rw [hk]; exact h)
      rw [hp] at this; omega
    have HA := hide hap
    have a1 : (a : Int) ≤ 65536 := kr.2
    have haN : (ad x).toNat = a := by rw [hp]; omega
    obtain ⟨z, hz⟩ : ∃ z, s.look (a : Int) = z := ⟨_, rfl⟩
    have HZ := hide hz
    have HZB : Hid (I64 z) := hide (by rw [← hz]; exact C.ok.look _)
    have e2 : r = if k = 1 then takeO (s.xs.length + 1) t a 1
      else if k = 2 then (if lo ≤ z ∧ z ≤ hi then takeO (s.xs.length + 1) t a 2 else none)
      else if k = 3 then sndInner s (sndW s f) a lo hi t
      else if k = 4 then (if kd z = 3 then (takeO (s.xs.length + 1) t a 5).bind fun t1 => sndW s f z lo hi t1 else none)
      else none := by
      rw [← e1, sndW_succ, hk, hp, hz, Int.toNat_natCast]
    have hkr := kd_range x
    rw [hk] at hkr
    have E2 := hide e2
    by_cases k1 : k = 1
    · have HR : Hid (takeO (s.xs.length + 1) t a 1 = r) := hide (by rw [E2.out, if_pos k1])
      have ha := hap (by omega)
      subst k1
      clear C hx hlo hhi hf ih hS hk hp kr hap haN hz e1 e2 E2 hkr
      go_enter Try.func57, Try.ntmps57
      go_wp2_with (fail)
      refine (ak_p _ x a HX.out HP.out).mono ?_
      rintro e w' ⟨rfl, rfl⟩
      go_wp2_with (fail)
      refine (kk_p _ x 1 HX.out HK.out).mono ?_
      rintro e w' ⟨rfl, rfl⟩
      go_wp2_with (fail)
      refine (take_p w0 _ b s c g t H.out a 1 ha (by omega) (by omega) r HR.out).mono ?_
      rintro e w' ⟨rfl, hT, hC⟩
      have HC := hide hC
      have HT := hide hT
      clear hC hT H c0
      go_wp2
      go_ret
      exact ⟨rfl, HT.out, HC.out⟩
    by_cases k2 : k = 2
    · have ha := hap (by omega)
      have e3 : r = if lo ≤ z ∧ z ≤ hi then takeO (s.xs.length + 1) t a 2 else none := by rw [E2.out, if_neg k1, if_pos k2]
      obtain ⟨u, hu⟩ : ∃ u, takeO (s.xs.length + 1) t a 2 = u := ⟨_, rfl⟩
      have HU := hide hu
      rw [hu] at e3
      have E3 := hide e3
      subst k2
      clear C hx hlo hhi hf ih hS hk hp kr hap haN hz e1 e2 E2 hkr k1 hu e3
      cases u with
      | none =>
        have HR : Hid (r = none) := hide (by rw [E3.out]; split <;> rfl)
        go_enter Try.func57, Try.ntmps57
        go_wp2_with (fail)
        refine (ak_p _ x a HX.out HP.out).mono ?_
        rintro e w' ⟨rfl, rfl⟩
        go_wp2_with (fail)
        refine (kk_p _ x 2 HX.out HK.out).mono ?_
        rintro e w' ⟨rfl, rfl⟩
        go_wp2_with (fail)
        refine (lk_p _ b s a z H.out.mem HZ.out).mono ?_
        rintro e w' ⟨rfl, rfl⟩
        go_wp2_with (fail)
        refine (take_p w0 _ b s c g t H.out a 2 ha (by omega) (by omega) none HU.out).mono ?_
        rintro e w' ⟨rfl, hT, t', hC, _⟩
        have HC := hide hC
        have HT := hide hT
        clear hC hT H c0
        go_wp2
        go_ret
        exact ⟨by rw [HR.out]; rfl, HT.out, t', HC.out, fun u h => by rw [HR.out] at h; cases h⟩
      | some u =>
        by_cases hl1 : lo ≤ z
        · by_cases hl2 : z ≤ hi
          · have HR : Hid (r = some u) := hide (by rw [E3.out, if_pos ⟨hl1, hl2⟩])
            go_enter Try.func57, Try.ntmps57
            go_wp2_with (fail)
            refine (ak_p _ x a HX.out HP.out).mono ?_
            rintro e w' ⟨rfl, rfl⟩
            go_wp2_with (fail)
            refine (kk_p _ x 2 HX.out HK.out).mono ?_
            rintro e w' ⟨rfl, rfl⟩
            go_wp2_with (fail)
            refine (lk_p _ b s a z H.out.mem HZ.out).mono ?_
            rintro e w' ⟨rfl, rfl⟩
            go_wp2_with (fail)
            refine (take_p w0 _ b s c g t H.out a 2 ha (by omega) (by omega) (some u) HU.out).mono ?_
            rintro e w' ⟨rfl, hT, t', hC, ht'⟩
            have := ht' u rfl
            subst this
            have HC := hide hC
            have HT := hide hT
            clear hC hT H c0 ht'
            go_wp2
            go_ret
            exact ⟨by rw [HR.out]; rfl, HT.out, t', HC.out, fun u h => by rw [HR.out] at h; cases h; rfl⟩
          · have HR : Hid (r = none) := hide (by rw [E3.out, if_neg (fun h => hl2 h.2)])
            have g1 : decide (z ≤ hi) = false := by simp; omega
            have hl2' : hi < z := by omega
            clear hl2
            go_enter Try.func57, Try.ntmps57
            go_wp2_with (fail)
            refine (ak_p _ x a HX.out HP.out).mono ?_
            rintro e w' ⟨rfl, rfl⟩
            go_wp2_with (fail)
            refine (kk_p _ x 2 HX.out HK.out).mono ?_
            rintro e w' ⟨rfl, rfl⟩
            go_wp2_with (fail)
            refine (lk_p _ b s a z H.out.mem HZ.out).mono ?_
            rintro e w' ⟨rfl, rfl⟩
            go_wp2_with (fail)
            refine (take_p w0 _ b s c g t H.out a 2 ha (by omega) (by omega) (some u) HU.out).mono ?_
            rintro e w' ⟨rfl, hT, t', hC, _⟩
            have HC := hide hC
            have HT := hide hT
            clear hC hT H c0
            go_wp2
            go_ret
            exact ⟨by rw [HR.out]; rfl, HT.out, t', HC.out, fun u h => by rw [HR.out] at h; cases h⟩
        · have HR : Hid (r = none) := hide (by rw [E3.out, if_neg (fun h => hl1 h.1)])
          have g1 : decide (lo ≤ z) = false := by simp; omega
          have hl1' : z < lo := by omega
          clear hl1
          go_enter Try.func57, Try.ntmps57
          go_wp2_with (fail)
          refine (ak_p _ x a HX.out HP.out).mono ?_
          rintro e w' ⟨rfl, rfl⟩
          go_wp2_with (fail)
          refine (kk_p _ x 2 HX.out HK.out).mono ?_
          rintro e w' ⟨rfl, rfl⟩
          go_wp2_with (fail)
          refine (lk_p _ b s a z H.out.mem HZ.out).mono ?_
          rintro e w' ⟨rfl, rfl⟩
          go_wp2_with (fail)
          refine (take_p w0 _ b s c g t H.out a 2 ha (by omega) (by omega) (some u) HU.out).mono ?_
          rintro e w' ⟨rfl, hT, t', hC, _⟩
          have HC := hide hC
          have HT := hide hT
          clear hC hT H c0
          go_wp2
          go_ret
          exact ⟨by rw [HR.out]; rfl, HT.out, t', HC.out, fun u h => by rw [HR.out] at h; cases h⟩
    by_cases k3 : k = 3
    · have HR : Hid (sndInner s (sndW s f) a lo hi t = r) := hide (by rw [E2.out, if_neg k1, if_neg k2, if_pos k3])
      have ha := hap (by omega)
      subst k3
      clear C hx hlo hhi hf ih hS hk hp kr hap haN hz e1 e2 E2 hkr k1 k2
      go_enter Try.func57, Try.ntmps57
      go_wp2_with (fail)
      refine (ak_p _ x a HX.out HP.out).mono ?_
      rintro e w' ⟨rfl, rfl⟩
      go_wp2_with (fail)
      refine (kk_p _ x 3 HX.out HK.out).mono ?_
      rintro e w' ⟨rfl, rfl⟩
      go_wp2_with (fail)
      refine (inner_of_slot f HS.out w0 _ b s c g t H.out a lo hi ha (by omega) HLO.out HHI.out HF.out r HR.out).mono ?_
      rintro e w' ⟨rfl, hT, hC⟩
      have HC := hide hC
      have HT := hide hT
      clear hC hT H c0
      go_wp2
      go_ret
      exact ⟨rfl, HT.out, HC.out⟩
    by_cases k4 : k = 4
    · have ha := hap (by omega)
      have e3 : r = if kd z = 3 then (takeO (s.xs.length + 1) t a 5).bind (fun t1 => sndW s f z lo hi t1) else none := by rw [E2.out, if_neg k1, if_neg k2, if_neg k3, if_pos k4]
      obtain ⟨u, hu⟩ : ∃ u, takeO (s.xs.length + 1) t a 5 = u := ⟨_, rfl⟩
      have HU := hide hu
      obtain ⟨j, hj⟩ : ∃ j, kd z = j := ⟨_, rfl⟩
      have HJ := hide hj
      rw [hu, hj] at e3
      have E3 := hide e3
      subst k4
      clear C hx hlo hhi hf ih hS hk hp kr hap haN hz e1 e2 E2 hkr k1 k2 k3 e3 hj
      cases u with
      | none =>
        have HR : Hid (r = none) := hide (by rw [E3.out]; split <;> rfl)
        clear hu
        go_enter Try.func57, Try.ntmps57
        go_wp2_with (fail)
        refine (ak_p _ x a HX.out HP.out).mono ?_
        rintro e w' ⟨rfl, rfl⟩
        go_wp2_with (fail)
        refine (kk_p _ x 4 HX.out HK.out).mono ?_
        rintro e w' ⟨rfl, rfl⟩
        go_wp2_with (fail)
        refine (lk_p _ b s a z H.out.mem HZ.out).mono ?_
        rintro e w' ⟨rfl, rfl⟩
        go_wp2_with (fail)
        refine (take_p w0 _ b s c g t H.out a 5 ha (by omega) (by omega) none HU.out).mono ?_
        rintro e w' ⟨rfl, hT, t', hC, _⟩
        have HC := hide hC
        have HT := hide hT
        clear hC hT H c0
        go_wp2
        go_ret
        exact ⟨by rw [HR.out]; rfl, HT.out, t', HC.out, fun u h => by rw [HR.out] at h; cases h⟩
      | some u =>
        have HFU : Hid (freeN (s.xs.length + 1) u < f) := hide (by have := takeO_free hu; have := HF.out; omega)
        clear hu
        by_cases j3 : j = 3
        · have HR : Hid (sndW s f z lo hi u = r) := hide (by rw [E3.out, if_pos j3]; rfl)
          subst j3
          go_enter Try.func57, Try.ntmps57
          go_wp2_with (fail)
          refine (ak_p _ x a HX.out HP.out).mono ?_
          rintro e w' ⟨rfl, rfl⟩
          go_wp2_with (fail)
          refine (kk_p _ x 4 HX.out HK.out).mono ?_
          rintro e w' ⟨rfl, rfl⟩
          go_wp2_with (fail)
          refine (lk_p _ b s a z H.out.mem HZ.out).mono ?_
          rintro e w' ⟨rfl, rfl⟩
          go_wp2_with (fail)
          refine (take_p w0 _ b s c g t H.out a 5 ha (by omega) (by omega) (some u) HU.out).mono ?_
          rintro e w' ⟨rfl, hT, t', hC, ht'⟩
          have := ht' u rfl
          subst this
          have HC := hide hC
          have HT := hide hT
          clear hC hT H c0 ht'
          go_wp2_with (fail)
          refine (kk_p _ z 3 HZB.out HJ.out).mono ?_
          rintro e w'' ⟨rfl, rfl⟩
          go_wp2_with (fail)
          refine (IH.out w0 _ b s c g _ HC.out z lo hi HZB.out HLO.out HHI.out HFU.out r HR.out).mono ?_
          rintro e w'' ⟨rfl, hT, hC⟩
          have HC2 := hide hC
          have HT2 := hide (HT.out.trans hT (fun _ e => e) (fun _ _ e => e))
          clear hC hT HC HT
          go_wp2
          go_ret
          exact ⟨rfl, HT2.out, HC2.out⟩
        · have HR : Hid (r = none) := hide (by rw [E3.out, if_neg j3])
          have g1 : (j == 3) = false := by simp [j3]
          have g2 : (j != 3) = true := by simp [j3]
          clear j3
          go_enter Try.func57, Try.ntmps57
          go_wp2_with (fail)
          refine (ak_p _ x a HX.out HP.out).mono ?_
          rintro e w' ⟨rfl, rfl⟩
          go_wp2_with (fail)
          refine (kk_p _ x 4 HX.out HK.out).mono ?_
          rintro e w' ⟨rfl, rfl⟩
          go_wp2_with (fail)
          refine (lk_p _ b s a z H.out.mem HZ.out).mono ?_
          rintro e w' ⟨rfl, rfl⟩
          go_wp2_with (fail)
          refine (take_p w0 _ b s c g t H.out a 5 ha (by omega) (by omega) (some u) HU.out).mono ?_
          rintro e w' ⟨rfl, hT, t', hC, _⟩
          have HC := hide hC
          have HT := hide hT
          clear hC hT H c0
          go_wp2_with (fail)
          refine (kk_p _ z j HZB.out HJ.out).mono ?_
          rintro e w'' ⟨rfl, rfl⟩
          go_wp2
          go_ret
          exact ⟨by rw [HR.out]; rfl, HT.out, t', HC.out, fun u h => by rw [HR.out] at h; cases h⟩
    · have HR : Hid (r = none) := hide (by rw [E2.out, if_neg k1, if_neg k2, if_neg k3, if_neg k4])
      have g1 : (k == 1) = false := by simp [k1]
      have g2 : (k == 2) = false := by simp [k2]
      have g3 : (k == 3) = false := by simp [k3]
      have g4 : (k == 4) = false := by simp [k4]
      clear C hx hlo hhi hf ih hS hk hp kr hap haN hz e1 e2 E2 hkr k1 k2 k3 k4
      go_enter Try.func57, Try.ntmps57
      go_wp2_with (fail)
      refine (ak_p _ x a HX.out HP.out).mono ?_
      rintro e w' ⟨rfl, rfl⟩
      go_wp2_with (fail)
      refine (kk_p _ x k HX.out HK.out).mono ?_
      rintro e w' ⟨rfl, rfl⟩
      go_wp2
      go_ret
      exact ⟨by rw [HR.out]; rfl, Turned.refl _ _, t, H.out, fun u h => by rw [HR.out] at h; cases h⟩
end Go.Proofs.Ytbojjpmcopnjpaa

/-! The document's check of soundness: its row of cells that were met ('DCk'), takes, slots by words. -/
namespace Go.Proofs.Ytbojjpmcopnjpaa
open Go.RowKit

/-- A check under way: its row at g, where t is taken; the document's memory at b; all that lay at w0 is as it was. -/
structure DCk (w0 W : World) (b : Nat) (s : Mst) (g : Nat) (t : Tk) : Prop where
  mem0 : DM w0 b s
  ok : s.ok
  kept : Kept w0 W
  hg : w0.heap.size ≤ g
  row : W.rowIs g 4 (s.xs.length + 1) (fun j => .bool (t j))
namespace DCk
variable {w0 W W' : World} {b g : Nat} {s : Mst} {t t' : Tk}
theorem mem (h : DCk w0 W b s g t) : DM W b s := h.mem0.kept h.kept
theorem on (h : DCk w0 W b s g t) (k : Kept W W') : DCk w0 W' b s g t :=
  ⟨h.mem0, h.ok, h.kept.trans k, h.hg, h.row.of_block (k.block g h.row.lt (fun e => e))⟩
theorem put (h : DCk w0 W b s g t) (i : Nat) (e : (fun j => if j = i then true else t j) = t') : DCk w0 (W.setCell ⟨g, i, none⟩ (.bool true)) b s g t' := by
  have T : Turned (fun k => k = g) W (W.setCell ⟨g, i, none⟩ (.bool true)) := Turned.setCell W ⟨g, i, none⟩ (.bool true) rfl
  refine ⟨h.mem0, h.ok, h.kept.did h.hg T, h.hg, ?_⟩
  refine (h.row.set i (.bool true)).congr (fun j _ => ?_)
  rw [← e]
  by_cases e : j = i
  · simp [e]
  · simp [e]
/-- The slice of its memory, as it is written out. -/
theorem cells (h : DM W b s) : ∃ a cap, W.cell? ⟨b, 1, none⟩ = some (.slice a s.xs.length cap) ∧ Reads W a s.xs := by
  obtain ⟨n₀, v, s0, e, h⟩ := h
  obtain ⟨a, cap, rfl, h2, _, _⟩ := h.form
  rw [← e]
  exact ⟨a, cap, (DMem.opened h).1.1, h2⟩
end DCk

/-- What a step of the check answers. -/
def DPost (w0 W : World) (b : Nat) (s : Mst) (g : Nat) (r : Option Tk) (e : Ending) (W' : World) : Prop :=
  e = .returned (.bool r.isSome) ∧ Turned (fun i => i = g) W W' ∧ ∃ t', DCk w0 W' b s g t' ∧ ∀ u, r = some u → t' = u
/-- The slice of the row. -/
abbrev metS (s : Mst) (g : Nat) : Value := .slice (some ⟨g, 0, none⟩) (s.xs.length + 1) (s.xs.length + 1)

theorem take_d (w0 W : World) (b : Nat) (s : Mst) (g : Nat) (t : Tk) (C : DCk w0 W b s g t) (a n : Nat) (h1 : 1 ≤ a) (h2 : a ≤ 100000) (h3 : 1 ≤ n) (h4 : n ≤ 500000000) (r : Option Tk) (e1 : takeO (s.xs.length + 1) t a n = r) :
    Calls Try.prog 85 #[.pointer (some ⟨b, 0, none⟩), .int .i64 (a : Int), .int .i64 (n : Int), metS s g] W (DPost w0 W b s g r) := by
  obtain ⟨la, lc, c1, _⟩ := DCk.cells C.mem
  have HL := hide C.ok.2
  have H := hide C
  obtain ⟨N, hN⟩ : ∃ N, s.xs.length = N := ⟨_, rfl⟩
  have hN2 : N ≤ 65536 := by rw [← hN]; exact HL.out
  have HN := hide hN
  unfold metS
  rw [hN] at c1 ⊢
  by_cases h5 : a + n ≤ N + 1
  · have e2 : r = if freeB t a n = true then some (takeT t a n) else none := by
      rw [← e1, hN]; unfold takeO
      have d1 : decide (1 ≤ n) = true := by simp; omega
      have d2 : decide (a + n ≤ N + 1) = true := by simp; omega
      rw [d1, d2]; rfl
    have E2 := hide e2
    have HS : Hid (DCk w0 W b s g (takeT t a 0)) := hide (by rw [takeT_zero]; exact C)
    have i0 : ¬ ((N : Int) < (a : Int) + n - 1) := by omega
    have i1 : ¬ ((a : Int) < 1) := by omega
    clear C e1 e2 hN
    go_enter Try.func85, Try.ntmps85
    go_wp2
    go_loopw [9] (fun v wr => ∃ k : Nat, k ≤ n ∧ v = .int .i64 ((a : Int) + k) ∧ Hid (freeB t a k = true) ∧ Hid (DCk w0 wr b s g (takeT t a k)) ∧ Hid (Turned (fun i => i = g) W wr)) (fun v _ => n + a - (intOf v).toNat)
    case atStart => exact ⟨0, by omega, by simp, hide (freeB_zero t a), HS, hide (Turned.refl _ _)⟩
    case round =>
      obtain ⟨k, hk, rfl, HF, HC, HT⟩ := hrel
      by_cases hkn : k < n
      · have i1 : (a : Int) + k < (a : Int) + n := by omega
        have i2 : a + k < N + 1 := by omega
        have i3 : (a : Int) + k < (N : Int) + 1 := by omega
        have b2 := HC.out.row.cell (show a + k < s.xs.length + 1 by rw [HN.out]; exact i2)
        have b3 := HC.out.row.frozen (a + k)
        simp only [takeT_at] at b2
        have i4 : ((a : Int) + k).toNat = a + k := by omega
        by_cases ht : t (a + k) = true
        · have HR : Hid (r = none) := hide (by
            rw [E2.out, if_neg]
            rw [freeB_false (n := k + 1) (by rw [freeB_succ, HF.out, ht]; rfl) (by omega)]
            simp)
          rw [ht] at b2
          clear ht
          go_wp2
          go_ret
          exact ⟨by rw [HR.out]; rfl, HT.out, _, HC.out, fun u h => by rw [HR.out] at h; cases h⟩
        · have ht' : t (a + k) = false := by simpa using ht
          rw [ht'] at b2
          have G1 : Hid (freeB t a (k + 1) = true) := hide (by rw [freeB_succ, HF.out, ht']; rfl)
          have G2 := hide (HC.out.put (a + k) (takeT_succ t a k))
          have G3 : Hid (Turned (fun i => i = g) W (wr.setCell ⟨g, a + k, none⟩ (.bool true))) := hide (HT.out.trans (Turned.setCell (R := fun i => i = g) wr ⟨g, a + k, none⟩ (.bool true) rfl) (fun _ e => e) (fun _ _ e => e))
          clear ht ht'
          go_wp2
          exact ⟨⟨k + 1, by omega, by simp; omega, G1, G2, G3⟩, by simp [intOf]; omega⟩
      · have hkn' : k = n := by omega
        subst hkn'
        have i1 : ¬ ((a : Int) + k < (a : Int) + k) := by omega
        have HR : Hid (r = some (takeT t a k)) := hide (by rw [E2.out, if_pos HF.out])
        go_wp2
        go_ret
        exact ⟨by rw [HR.out]; rfl, HT.out, _, HC.out, fun u h => by rw [HR.out] at h; cases h; rfl⟩
  · have HR : Hid (r = none) := hide (by
      rw [← e1, hN]; unfold takeO
      rw [if_neg]
      intro hh
      simp only [Bool.and_eq_true, decide_eq_true_eq] at hh
      exact h5 hh.1.2)
    have i0 : (N : Int) < (a : Int) + n - 1 := by omega
    have i1 : ¬ ((a : Int) < 1) := by omega
    clear C e1 hN h5
    go_enter Try.func85, Try.ntmps85
    go_wp2
    go_ret
    exact ⟨by rw [HR.out]; rfl, Turned.refl _ _, t, H.out, fun u h => by rw [HR.out] at h; cases h⟩

/-- The contract of a word with fuel f, and of a slot. -/
def WordD (f : Nat) : Prop := ∀ (w0 W : World) (b : Nat) (s : Mst) (g : Nat) (t : Tk) (_ : DCk w0 W b s g t) (x lo hi : Int) (_ : I64 x) (_ : I64 lo) (_ : I64 hi) (_ : freeN (s.xs.length + 1) t < f) (r : Option Tk) (_ : sndW s f x lo hi t = r),
    Calls Try.prog 70 #[.pointer (some ⟨b, 0, none⟩), .int .i64 x, .int .i64 lo, .int .i64 hi, metS s g] W (DPost w0 W b s g r)
def SlotD (f : Nat) : Prop := ∀ (w0 W : World) (b : Nat) (s : Mst) (g : Nat) (t : Tk) (_ : DCk w0 W b s g t) (x lo hi : Int) (_ : I64 lo) (_ : I64 hi) (_ : freeN (s.xs.length + 1) t < f) (r : Option Tk) (_ : sndSlot s (sndW s f) x lo hi t = r),
    Calls Try.prog 45 #[.pointer (some ⟨b, 0, none⟩), .int .i64 x, .int .i64 lo, .int .i64 hi, metS s g] W (DPost w0 W b s g r)

theorem slot_of_word_d (f : Nat) (hW : WordD f) : SlotD f := by
  intro w0 W b s g t C x lo hi hlo hhi hf r e1
  obtain ⟨la, lc, c1, _⟩ := DCk.cells C.mem
  have H := hide C
  obtain ⟨z, hz⟩ : ∃ z, s.look x = z := ⟨_, rfl⟩
  obtain ⟨k, hk⟩ : ∃ k, kd z = k := ⟨_, rfl⟩
  obtain ⟨p, hp⟩ : ∃ p, ad z = p := ⟨_, rfl⟩
  obtain ⟨l, hl⟩ : ∃ l, s.logicZ x = l := ⟨_, rfl⟩
  obtain ⟨N, hN⟩ : ∃ N, s.xs.length = N := ⟨_, rfl⟩
  have hzb := C.ok.look x
  rw [hz] at hzb
  have hlb := C.ok.logic x
  rw [hl] at hlb
  have kr := ad_range z
  rw [hp] at kr
  obtain ⟨p0, p1⟩ := kr
  have hn : N ≤ 65536 := by rw [← hN]; exact C.ok.2
  have HZ := hide hz
  have HK := hide hk
  have HP := hide hp
  have HL := hide hl
  have HN := hide hN
  have HZB := hide hzb
  have HLB := hide hlb
  have HLO := hide hlo
  have HHI := hide hhi
  have HFU := hide hf
  have HO := hide C.ok
  have HW := hide hW
  rw [hN] at c1
  have ew : metS s g = .slice (some ⟨g, 0, none⟩) (N + 1) (N + 1) := by unfold metS; rw [hN]
  have EW := hide ew
  rw [ew]
  have FIN : dcssB s x = true → Hid (sndW s f l lo hi t = r) := fun hd => hide (by rw [← e1, sndSlot, if_pos hd, hl])
  have NONE : dcssB s x = false → Hid (r = none) := fun hd => hide (by rw [← e1, sndSlot, hd]; rfl)
  by_cases hk5 : k = 5
  · obtain ⟨y, hy⟩ : ∃ y, s.look (p + 1) = y := ⟨_, rfl⟩
    have HY := hide hy
    have ed : dcssB s x = (decide (p + 4 ≤ (N : Int)) && (y == x)) := by rw [dcssB, hz, hk, hp, hN, hk5, hy]; rfl
    have ED := hide ed
    by_cases c2 : p + 4 ≤ (N : Int)
    · have c2' : ¬ ((N : Int) < p + 4) := by omega
      by_cases c3 : y = x
      · have HR := FIN (by rw [ed]; simp [c2, c3])
        subst c3 hk5
        clear C hz hk hp hl hN hzb hlb hlo hhi hf e1 hy ed ED ew FIN NONE hW
        go_enter Try.func45, Try.ntmps45
        go_wp2_with (fail)
        refine (lk_d _ b s y z H.out.mem HZ.out).mono ?_
        rintro e w' ⟨rfl, rfl⟩
        go_wp2_with (fail)
        refine (kk_d _ z 5 HZB.out HK.out).mono ?_
        rintro e w' ⟨rfl, rfl⟩
        go_wp2_with (fail)
        refine (ak_d _ z p HZB.out HP.out).mono ?_
        rintro e w' ⟨rfl, rfl⟩
        go_wp2_with (fail)
        refine (lk_d _ b s (p + 1) y H.out.mem HY.out).mono ?_
        rintro e w' ⟨rfl, rfl⟩
        go_wp2_with (fail)
        refine (logic_d _ b s y l H.out.mem HO.out HL.out).mono ?_
        rintro e w' ⟨rfl, rfl⟩
        go_wp2_with (fail)
        rw [← EW.out]
        refine (HW.out w0 _ b s g t H.out l lo hi HLB.out HLO.out HHI.out HFU.out r HR.out).mono ?_
        rintro e w' ⟨rfl, hT, hC⟩
        have HC := hide hC
        have HT := hide hT
        clear hC hT H c1
        go_wp2
        go_ret
        exact ⟨rfl, HT.out, HC.out⟩
      · have HR := NONE (by rw [ed]; simp [c3])
        have g1 : (y == x) = false := by simp [c3]
        have g2 : (y != x) = true := by simp [c3]
        subst hk5
        clear C hz hk hp hl hN hzb hlb hlo hhi hf e1 hy ed ED ew FIN NONE hW c3
        go_enter Try.func45, Try.ntmps45
        go_wp2_with (fail)
        refine (lk_d _ b s x z H.out.mem HZ.out).mono ?_
        rintro e w' ⟨rfl, rfl⟩
        go_wp2_with (fail)
        refine (kk_d _ z 5 HZB.out HK.out).mono ?_
        rintro e w' ⟨rfl, rfl⟩
        go_wp2_with (fail)
        refine (ak_d _ z p HZB.out HP.out).mono ?_
        rintro e w' ⟨rfl, rfl⟩
        go_wp2_with (fail)
        refine (lk_d _ b s (p + 1) y H.out.mem HY.out).mono ?_
        rintro e w' ⟨rfl, rfl⟩
        go_wp2
        go_ret
        exact ⟨by rw [HR.out]; rfl, Turned.refl _ _, t, H.out, fun u h => by rw [HR.out] at h; cases h⟩
    · have HR := NONE (by rw [ed]; simp [c2])
      have c2' : (N : Int) < p + 4 := by omega
      subst hk5
      clear C hz hk hp hl hN hzb hlb hlo hhi hf e1 hy ed ED ew FIN NONE hW c2
      go_enter Try.func45, Try.ntmps45
      go_wp2_with (fail)
      refine (lk_d _ b s x z H.out.mem HZ.out).mono ?_
      rintro e w' ⟨rfl, rfl⟩
      go_wp2_with (fail)
      refine (kk_d _ z 5 HZB.out HK.out).mono ?_
      rintro e w' ⟨rfl, rfl⟩
      go_wp2_with (fail)
      refine (ak_d _ z p HZB.out HP.out).mono ?_
      rintro e w' ⟨rfl, rfl⟩
      go_wp2
      go_ret
      exact ⟨by rw [HR.out]; rfl, Turned.refl _ _, t, H.out, fun u h => by rw [HR.out] at h; cases h⟩
  · have HR := FIN (by rw [dcssB, hz, hk]; simp [hk5])
    have g1 : (k == 5) = false := by simp [hk5]
    have g2 : (k != 5) = true := by simp [hk5]
    clear C hz hk hp hl hN hzb hlb hlo hhi hf e1 ew FIN NONE hW hk5
    go_enter Try.func45, Try.ntmps45
    go_wp2_with (fail)
    refine (lk_d _ b s x z H.out.mem HZ.out).mono ?_
    rintro e w' ⟨rfl, rfl⟩
    go_wp2_with (fail)
    refine (kk_d _ z k HZB.out HK.out).mono ?_
    rintro e w' ⟨rfl, rfl⟩
    go_wp2_with (fail)
    refine (logic_d _ b s x l H.out.mem HO.out HL.out).mono ?_
    rintro e w' ⟨rfl, rfl⟩
    go_wp2_with (fail)
    rw [← EW.out]
    refine (HW.out w0 _ b s g t H.out l lo hi HLB.out HLO.out HHI.out HFU.out r HR.out).mono ?_
    rintro e w' ⟨rfl, hT, hC⟩
    have HC := hide hC
    have HT := hide hT
    clear hC hT H c1
    go_wp2
    go_ret
    exact ⟨rfl, HT.out, HC.out⟩
end Go.Proofs.Ytbojjpmcopnjpaa

/-! The document's check of soundness: Inners, words (by fuel), Sound. -/
namespace Go.Proofs.Ytbojjpmcopnjpaa
open Go.RowKit

set_option maxHeartbeats 4000000 in
set_option maxRecDepth 20000 in
theorem inner_of_slot_d (f : Nat) (hS : SlotD f) (w0 W : World) (b : Nat) (s : Mst) (g : Nat) (t : Tk) (C : DCk w0 W b s g t) (a : Nat) (lo hi : Int) (h1 : 1 ≤ a) (h2 : a ≤ 65536) (hlo : I64 lo) (hhi : I64 hi) (hf : freeN (s.xs.length + 1) t < f + 1) (r : Option Tk) (e1 : sndInner s (sndW s f) a lo hi t = r) :
    Calls Try.prog 86 #[.pointer (some ⟨b, 0, none⟩), .int .i64 (a : Int), .int .i64 lo, .int .i64 hi, metS s g] W (DPost w0 W b s g r) := by
  have H := hide C
  have HO := hide C.ok
  have HLO := hide hlo
  have HHI := hide hhi
  have HSL := hide hS
  have HF := hide hf
  obtain ⟨N, hN⟩ : ∃ N, s.xs.length = N := ⟨_, rfl⟩
  have hn : N ≤ 65536 := by rw [← hN]; exact C.ok.2
  have ew : metS s g = .slice (some ⟨g, 0, none⟩) (N + 1) (N + 1) := by unfold metS; rw [hN]
  have EW := hide ew
  obtain ⟨D, hD⟩ : ∃ D, s.look a = D := ⟨_, rfl⟩
  have HD := hide hD
  obtain ⟨z, hz⟩ : ∃ z, s.look ((a : Int) + 2) = z := ⟨_, rfl⟩
  have HZ := hide hz
  have e2 : r = if D < 2 then none else (takeO (N + 1) t a (2 * D.toNat + 4)).bind fun t1 => if (keysB s a D.toNat lo hi && shutB s a) = true then chain (kidG s (sndW s f) a D.toNat lo hi) D.toNat t1 else none := by
    rw [← e1, sndInner, hD, hN]
  have E2 := hide e2
  have HN := hide hN
  have a1 : (a : Int) ≤ 65536 := by omega
  rw [ew]
  by_cases d2 : D < 2
  · have HR : Hid (r = none) := hide (by rw [e2, if_pos d2])
    clear C hS hlo hhi hf e1 e2 hN ew hD hz
    go_enter Try.func86, Try.ntmps86
    go_wp2_with (fail)
    refine (lk_d _ b s a D H.out.mem HD.out).mono ?_
    rintro e w' ⟨rfl, rfl⟩
    go_wp2
    go_ret
    exact ⟨by rw [HR.out]; rfl, Turned.refl _ _, t, H.out, fun u h => by rw [HR.out] at h; cases h⟩
  by_cases d3 : 65536 < D
  · have HR : Hid (r = none) := hide (by
      rw [e2, if_neg d2, takeO, if_neg]
      · rfl
      · intro hh
        simp only [Bool.and_eq_true, decide_eq_true_eq] at hh
        omega)
    clear C hS hlo hhi hf e1 e2 hN ew hD hz
    go_enter Try.func86, Try.ntmps86
    go_wp2_with (fail)
    refine (lk_d _ b s a D H.out.mem HD.out).mono ?_
    rintro e w' ⟨rfl, rfl⟩
    go_wp2_with (fail)
    refine (lk_d _ b s a D H.out.mem HD.out).mono ?_
    rintro e w' ⟨rfl, rfl⟩
    go_wp2
    go_ret
    exact ⟨by rw [HR.out]; rfl, Turned.refl _ _, t, H.out, fun u h => by rw [HR.out] at h; cases h⟩
  obtain ⟨d, rfl⟩ : ∃ d : Nat, D = (d : Int) := ⟨D.toNat, by omega⟩
  have e3 : r = (takeO (N + 1) t a (2 * d + 4)).bind fun t1 => if (keysB s a d lo hi && shutB s a) = true then chain (kidG s (sndW s f) a d lo hi) d t1 else none := by
    rw [e2, if_neg d2, Int.toNat_natCast]
  have E3 := hide e3
  have d5 : (d : Int) ≤ 65536 := by omega
  have d4 : (2 : Int) ≤ (d : Int) := by omega
  have i5 : ((2 * d + 4 : Nat) : Int) = 2 * (d : Int) + 4 := by omega
  have I5 := hide i5
  cases hT : takeO (N + 1) t a (2 * d + 4) with
  | none =>
    have HT : Hid (takeO (s.xs.length + 1) t a (2 * d + 4) = none) := hide (by rw [hN]; exact hT)
    have HR : Hid (r = none) := hide (by rw [e3, hT]; rfl)
    clear C hS hlo hhi hf e1 e2 e3 hN ew hD hz E2 E3 hT i5
    go_enter Try.func86, Try.ntmps86
    go_wp2_with (fail)
    refine (lk_d _ b s a d H.out.mem HD.out).mono ?_
    rintro e w' ⟨rfl, rfl⟩
    go_wp2_with (fail)
    refine (lk_d _ b s a d H.out.mem HD.out).mono ?_
    rintro e w' ⟨rfl, rfl⟩
    go_wp2_with (fail)
    refine (lk_d _ b s a d H.out.mem HD.out).mono ?_
    rintro e w' ⟨rfl, rfl⟩
    go_wp2_with (fail)
    rw [← EW.out, ← I5.out]
    refine (take_d w0 _ b s g t H.out a (2 * d + 4) h1 (by omega) (by omega) (by omega) none HT.out).mono ?_
    rintro e w' ⟨rfl, hT', t', C', _⟩
    have H' := hide C'
    have TT := hide hT'
    clear C' hT' H
    go_wp2
    go_ret
    exact ⟨by rw [HR.out]; rfl, TT.out, t', H'.out, fun u h => by rw [HR.out] at h; cases h⟩
  | some t1 =>
    have HT : Hid (takeO (s.xs.length + 1) t a (2 * d + 4) = some t1) := hide (by rw [hN]; exact hT)
    have HFR : Hid (freeN (s.xs.length + 1) t1 < f) := hide (by have := takeO_free HT.out; have := HF.out; omega)
    have e4 : r = if (keysB s a d lo hi && shutB s a) = true then chain (kidG s (sndW s f) a d lo hi) d t1 else none := by rw [e3, hT]; rfl
    have e5 : r = if shutB s a = true then chain (docG s (sndW s f) a d lo hi) d t1 else none := by
      rw [e4, doc_chain]
      cases keysB s a d lo hi <;> cases shutB s a <;> rfl
    have E5 := hide e5
    have hfit : Hid (a + (2 * d + 4) ≤ N + 1) := hide (by
      unfold takeO at hT
      split at hT
      · rename_i c
        simp only [Bool.and_eq_true, decide_eq_true_eq] at c
        exact c.1.2
      · cases hT)
    by_cases hz01 : z = 0 ∨ z = 1
    · have SB : shutB s a = true := by unfold shutB; rw [hz]; rcases hz01 with e | e <;> subst e <;> rfl
      have E6 : Hid (r = chain (docG s (sndW s f) a d lo hi) d t1) := hide (by rw [e5, if_pos SB])
      have START : Hid (chain (docG s (sndW s f) a d lo hi) 0 t1 = some t1) := hide rfl
      have LZ : Hid (lowZ s a lo 0 = lo) := hide (by rw [lowZ, if_pos rfl])
      clear C hS hlo hhi hf e1 e2 e3 e4 e5 hN ew hD hz E2 E3 E5 hT SB i5
      rcases hz01 with hz0 | hz0
      · subst hz0
        go_enter Try.func86, Try.ntmps86
        go_wp2_with (fail)
        refine (lk_d _ b s a d H.out.mem HD.out).mono ?_
        rintro e w' ⟨rfl, rfl⟩
        go_wp2_with (fail)
        refine (lk_d _ b s a d H.out.mem HD.out).mono ?_
        rintro e w' ⟨rfl, rfl⟩
        go_wp2_with (fail)
        refine (lk_d _ b s a d H.out.mem HD.out).mono ?_
        rintro e w' ⟨rfl, rfl⟩
        go_wp2_with (fail)
        rw [← EW.out, ← I5.out]
        refine (take_d w0 _ b s g t H.out a (2 * d + 4) h1 (by omega) (by omega) (by omega) (some t1) HT.out).mono ?_
        rintro e W1 ⟨rfl, hT', t', C', ht'⟩
        have et := ht' _ rfl
        rw [et] at C'
        have H' := hide C'
        have TT := hide hT'
        clear C' hT' H ht' et
        rw [EW.out, I5.out]
        go_wp2_with (fail)
        refine (lk_d _ b s ((a : Int) + 2) 0 H'.out.mem HZ.out).mono ?_
        rintro e w' ⟨rfl, rfl⟩
        go_wp2
        go_loopw [12, 13] (fun v12 v wr => ∃ (k : Nat) (tk : Tk) (F : Int), k ≤ d ∧ v12 = .int .i64 F ∧ v = .int .i64 (k : Int) ∧ Hid (k < d → lowZ s a lo k = F) ∧ Hid (chain (docG s (sndW s f) a d lo hi) k t1 = some tk) ∧ Hid (DCk w0 wr b s g tk) ∧ Hid (Turned (fun i => i = g) W wr)) (fun _ v _ => d - (intOf v).toNat)
        case atStart => exact ⟨0, _, lo, by omega, rfl, by simp, hide (fun _ => LZ.out), START, H', TT⟩
        case round =>
          obtain ⟨k, tk, F, hk, rfl, rfl, HLF, HCH, HC, HTW⟩ := hrel
          by_cases hkn : k < d
          · have j1 : (k : Int) < (d : Int) := by omega
            have hF : lowZ s a lo k = F := HLF.out hkn
            have HFB : Hid (I64 F) := hide (by
              rw [← hF, lowZ]; split
              · exact HLO.out
              · exact HO.out.look _)
            have HFK : Hid (freeN (s.xs.length + 1) tk < f) := hide (by
              have h0 : ∀ n t', chain (docG s (sndW s f) a d lo hi) n t1 = some t' → freeN (s.xs.length + 1) t' ≤ freeN (s.xs.length + 1) t1 := by
                intro n
                induction n with
                | zero => intro t' h; simp [chain] at h; subst h; exact Nat.le_refl _
                | succ n ih =>
                  intro t' h
                  rw [chain, Option.bind_eq_some_iff] at h
                  obtain ⟨u, h1, h2⟩ := h
                  unfold docG at h2
                  split at h2
                  · cases h2
                  · exact Nat.le_trans (sndSlot_free (sndW_free s f) h2) (ih _ h1)
              exact Nat.lt_of_le_of_lt (h0 _ _ HCH.out) HFR.out)
            have hcz := hide (childZ_in (n := a) (d := (d : Int)) (i := k) (by omega) (by omega) (by omega) (by omega) (by omega) (by omega))
            have HLF2 := hide hF
            clear hF HLF
            by_cases hkd : k + 1 < d
            · have j2 : (k : Int) < (d : Int) - 1 := by omega
              have hkz := hide (keyZ_in (n := a) (i := (k : Int) + 1) (by omega) (by omega) (by omega) (by omega))
              obtain ⟨y, hy⟩ : ∃ y, s.look ((a : Int) + 4 + ((k : Int) + 1)) = y := ⟨_, rfl⟩
              have HYB := HO.out.look ((a : Int) + 4 + ((k : Int) + 1))
              rw [hy] at HYB
              have HY := hide hy
              have hky : ky s a (k + 1) = y := by rw [← hy]; rfl
              have HKY := hide hky
              clear hy hky
              by_cases y1 : y ≤ F
              · have HR : Hid (r = none) := hide (by
                  rw [E6.out]
                  refine chain_none (n := k + 1) ?_ (by omega)
                  rw [chain, HCH.out]
                  show docG s (sndW s f) a d lo hi k tk = none
                  unfold docG
                  rw [if_pos]
                  refine ⟨hkd, fun h => ?_⟩
                  have := h.1
                  rw [HLF2.out, HKY.out] at this
                  omega)
                clear HYB
                go_wp2_with (fail)
                refine (key_r _ a ((k : Int) + 1) _ hkz.out).mono ?_
                rintro e w' ⟨rfl, rfl⟩
                go_wp2_with (fail)
                refine (lk_d _ b s _ y HC.out.mem HY.out).mono ?_
                rintro e w' ⟨rfl, rfl⟩
                go_wp2
                go_ret
                exact ⟨by rw [HR.out]; rfl, HTW.out, tk, HC.out, fun u h => by rw [HR.out] at h; cases h⟩
              by_cases y2 : hi < y
              · have HR : Hid (r = none) := hide (by
                  rw [E6.out]
                  refine chain_none (n := k + 1) ?_ (by omega)
                  rw [chain, HCH.out]
                  show docG s (sndW s f) a d lo hi k tk = none
                  unfold docG
                  rw [if_pos]
                  refine ⟨hkd, fun h => ?_⟩
                  have := h.2
                  rw [HKY.out] at this
                  omega)
                clear HYB
                go_wp2_with (fail)
                refine (key_r _ a ((k : Int) + 1) _ hkz.out).mono ?_
                rintro e w' ⟨rfl, rfl⟩
                go_wp2_with (fail)
                refine (lk_d _ b s _ y HC.out.mem HY.out).mono ?_
                rintro e w' ⟨rfl, rfl⟩
                go_wp2
                go_ret
                exact ⟨by rw [HR.out]; rfl, HTW.out, tk, HC.out, fun u h => by rw [HR.out] at h; cases h⟩
              have fb := HFB.out
              obtain ⟨fb1, fb2⟩ := fb
              obtain ⟨yb1, yb2⟩ := HYB
              have BH : Hid (I64 (y - 1)) := hide ⟨by omega, by omega⟩
              obtain ⟨u, hu⟩ : ∃ u, sndSlot s (sndW s f) ((a : Int) + 4 + (d : Int) + k) F (y - 1) tk = u := ⟨_, rfl⟩
              have HU2 := hide hu
              have HNX : Hid (chain (docG s (sndW s f) a d lo hi) (k + 1) t1 = u) := hide (by
                rw [chain, HCH.out]
                show docG s (sndW s f) a d lo hi k tk = u
                unfold docG
                rw [if_neg, kidG, HLF2.out, highZ, if_pos hkd, HKY.out]
                · exact hu
                · rintro ⟨_, h⟩
                  apply h
                  rw [HLF2.out, HKY.out]
                  exact ⟨by omega, by omega⟩)
              have NF : Hid (k + 1 < d → lowZ s a lo (k + 1) = y) := hide (fun _ => by rw [lowZ, if_neg (by omega), HKY.out])
              clear hu HCH
              go_wp2_with (fail)
              refine (key_r _ a ((k : Int) + 1) _ hkz.out).mono ?_
              rintro e w' ⟨rfl, rfl⟩
              go_wp2_with (fail)
              refine (lk_d _ b s _ y HC.out.mem HY.out).mono ?_
              rintro e w' ⟨rfl, rfl⟩
              go_wp2_with (fail)
              refine (child_r _ a d k _ hcz.out).mono ?_
              rintro e w' ⟨rfl, rfl⟩
              go_wp2_with (fail)
              rw [← EW.out]
              refine (HSL.out w0 _ b s g tk HC.out _ F (y - 1) HFB.out BH.out HFK.out u HU2.out).mono ?_
              rintro e w' ⟨rfl, hT, t2, hC, ht2⟩
              have HC2 := hide hC
              have HT2 : Hid (Turned (fun i => i = g) W w') := hide (HTW.out.trans hT (fun _ e => e) (fun _ _ e => e))
              have HE2 := hide ht2
              clear hT hC ht2 HC HTW
              rw [EW.out]
              cases u with
              | none =>
                have HR : Hid (r = none) := hide (by rw [E6.out]; exact chain_none HNX.out (by omega))
                go_wp2
                go_ret
                exact ⟨by rw [HR.out]; rfl, HT2.out, t2, HC2.out, fun u h => by rw [HR.out] at h; cases h⟩
              | some u =>
                have := HE2.out u rfl
                subst this
                clear HE2
                go_wp2
                exact ⟨⟨k + 1, _, _, by omega, rfl, by simp, NF, HNX, HC2, HT2⟩, by simp [intOf]; omega⟩
            · have j2 : ¬ ((k : Int) < (d : Int) - 1) := by omega
              have BH := HHI
              obtain ⟨u, hu⟩ : ∃ u, sndSlot s (sndW s f) ((a : Int) + 4 + (d : Int) + k) F hi tk = u := ⟨_, rfl⟩
              have HU2 := hide hu
              have HNX : Hid (chain (docG s (sndW s f) a d lo hi) (k + 1) t1 = u) := hide (by
                rw [chain, HCH.out]
                show docG s (sndW s f) a d lo hi k tk = u
                unfold docG
                rw [if_neg (fun h => hkd h.1), kidG, HLF2.out, highZ, if_neg hkd]
                exact hu)
              clear hu HCH
              go_wp2_with (fail)
              refine (child_r _ a d k _ hcz.out).mono ?_
              rintro e w' ⟨rfl, rfl⟩
              go_wp2_with (fail)
              rw [← EW.out]
              refine (HSL.out w0 _ b s g tk HC.out _ F hi HFB.out BH.out HFK.out u HU2.out).mono ?_
              rintro e w' ⟨rfl, hT, t2, hC, ht2⟩
              have HC2 := hide hC
              have HT2 : Hid (Turned (fun i => i = g) W w') := hide (HTW.out.trans hT (fun _ e => e) (fun _ _ e => e))
              have HE2 := hide ht2
              clear hT hC ht2 HC HTW
              rw [EW.out]
              cases u with
              | none =>
                have HR : Hid (r = none) := hide (by rw [E6.out]; exact chain_none HNX.out (by omega))
                go_wp2
                go_ret
                exact ⟨by rw [HR.out]; rfl, HT2.out, t2, HC2.out, fun u h => by rw [HR.out] at h; cases h⟩
              | some u =>
                have := HE2.out u rfl
                subst this
                clear HE2
                go_wp2
                exact ⟨⟨k + 1, _, _, by omega, rfl, by simp, hide (fun h => absurd h (by omega)), HNX, HC2, HT2⟩, by simp [intOf]; omega⟩
          · have hkn' : k = d := by omega
            subst hkn'
            have j1 : ¬ ((k : Int) < (k : Int)) := by omega
            go_wp2
            go_ret
            have HR : r = some tk := by rw [E6.out, HCH.out]
            exact ⟨by rw [HR]; rfl, HTW.out, tk, HC.out, fun u h => by rw [HR] at h; cases h; rfl⟩
      · subst hz0
        go_enter Try.func86, Try.ntmps86
        go_wp2_with (fail)
        refine (lk_d _ b s a d H.out.mem HD.out).mono ?_
        rintro e w' ⟨rfl, rfl⟩
        go_wp2_with (fail)
        refine (lk_d _ b s a d H.out.mem HD.out).mono ?_
        rintro e w' ⟨rfl, rfl⟩
        go_wp2_with (fail)
        refine (lk_d _ b s a d H.out.mem HD.out).mono ?_
        rintro e w' ⟨rfl, rfl⟩
        go_wp2_with (fail)
        rw [← EW.out, ← I5.out]
        refine (take_d w0 _ b s g t H.out a (2 * d + 4) h1 (by omega) (by omega) (by omega) (some t1) HT.out).mono ?_
        rintro e W1 ⟨rfl, hT', t', C', ht'⟩
        have et := ht' _ rfl
        rw [et] at C'
        have H' := hide C'
        have TT := hide hT'
        clear C' hT' H ht' et
        rw [EW.out, I5.out]
        go_wp2_with (fail)
        refine (lk_d _ b s ((a : Int) + 2) 1 H'.out.mem HZ.out).mono ?_
        rintro e w' ⟨rfl, rfl⟩
        go_wp2_with (fail)
        refine (lk_d _ b s ((a : Int) + 2) 1 H'.out.mem HZ.out).mono ?_
        rintro e w' ⟨rfl, rfl⟩
        go_wp2
        go_loopw [12, 13] (fun v12 v wr => ∃ (k : Nat) (tk : Tk) (F : Int), k ≤ d ∧ v12 = .int .i64 F ∧ v = .int .i64 (k : Int) ∧ Hid (k < d → lowZ s a lo k = F) ∧ Hid (chain (docG s (sndW s f) a d lo hi) k t1 = some tk) ∧ Hid (DCk w0 wr b s g tk) ∧ Hid (Turned (fun i => i = g) W wr)) (fun _ v _ => d - (intOf v).toNat)
        case atStart => exact ⟨0, _, lo, by omega, rfl, by simp, hide (fun _ => LZ.out), START, H', TT⟩
        case round =>
          obtain ⟨k, tk, F, hk, rfl, rfl, HLF, HCH, HC, HTW⟩ := hrel
          by_cases hkn : k < d
          · have j1 : (k : Int) < (d : Int) := by omega
            have hF : lowZ s a lo k = F := HLF.out hkn
            have HFB : Hid (I64 F) := hide (by
              rw [← hF, lowZ]; split
              · exact HLO.out
              · exact HO.out.look _)
            have HFK : Hid (freeN (s.xs.length + 1) tk < f) := hide (by
              have h0 : ∀ n t', chain (docG s (sndW s f) a d lo hi) n t1 = some t' → freeN (s.xs.length + 1) t' ≤ freeN (s.xs.length + 1) t1 := by
                intro n
                induction n with
                | zero => intro t' h; simp [chain] at h; subst h; exact Nat.le_refl _
                | succ n ih =>
                  intro t' h
                  rw [chain, Option.bind_eq_some_iff] at h
                  obtain ⟨u, h1, h2⟩ := h
                  unfold docG at h2
                  split at h2
                  · cases h2
                  · exact Nat.le_trans (sndSlot_free (sndW_free s f) h2) (ih _ h1)
              exact Nat.lt_of_le_of_lt (h0 _ _ HCH.out) HFR.out)
            have hcz := hide (childZ_in (n := a) (d := (d : Int)) (i := k) (by omega) (by omega) (by omega) (by omega) (by omega) (by omega))
            have HLF2 := hide hF
            clear hF HLF
            by_cases hkd : k + 1 < d
            · have j2 : (k : Int) < (d : Int) - 1 := by omega
              have hkz := hide (keyZ_in (n := a) (i := (k : Int) + 1) (by omega) (by omega) (by omega) (by omega))
              obtain ⟨y, hy⟩ : ∃ y, s.look ((a : Int) + 4 + ((k : Int) + 1)) = y := ⟨_, rfl⟩
              have HYB := HO.out.look ((a : Int) + 4 + ((k : Int) + 1))
              rw [hy] at HYB
              have HY := hide hy
              have hky : ky s a (k + 1) = y := by rw [← hy]; rfl
              have HKY := hide hky
              clear hy hky
              by_cases y1 : y ≤ F
              · have HR : Hid (r = none) := hide (by
                  rw [E6.out]
                  refine chain_none (n := k + 1) ?_ (by omega)
                  rw [chain, HCH.out]
                  show docG s (sndW s f) a d lo hi k tk = none
                  unfold docG
                  rw [if_pos]
                  refine ⟨hkd, fun h => ?_⟩
                  have := h.1
                  rw [HLF2.out, HKY.out] at this
                  omega)
                clear HYB
                go_wp2_with (fail)
                refine (key_r _ a ((k : Int) + 1) _ hkz.out).mono ?_
                rintro e w' ⟨rfl, rfl⟩
                go_wp2_with (fail)
                refine (lk_d _ b s _ y HC.out.mem HY.out).mono ?_
                rintro e w' ⟨rfl, rfl⟩
                go_wp2
                go_ret
                exact ⟨by rw [HR.out]; rfl, HTW.out, tk, HC.out, fun u h => by rw [HR.out] at h; cases h⟩
              by_cases y2 : hi < y
              · have HR : Hid (r = none) := hide (by
                  rw [E6.out]
                  refine chain_none (n := k + 1) ?_ (by omega)
                  rw [chain, HCH.out]
                  show docG s (sndW s f) a d lo hi k tk = none
                  unfold docG
                  rw [if_pos]
                  refine ⟨hkd, fun h => ?_⟩
                  have := h.2
                  rw [HKY.out] at this
                  omega)
                clear HYB
                go_wp2_with (fail)
                refine (key_r _ a ((k : Int) + 1) _ hkz.out).mono ?_
                rintro e w' ⟨rfl, rfl⟩
                go_wp2_with (fail)
                refine (lk_d _ b s _ y HC.out.mem HY.out).mono ?_
                rintro e w' ⟨rfl, rfl⟩
                go_wp2
                go_ret
                exact ⟨by rw [HR.out]; rfl, HTW.out, tk, HC.out, fun u h => by rw [HR.out] at h; cases h⟩
              have fb := HFB.out
              obtain ⟨fb1, fb2⟩ := fb
              obtain ⟨yb1, yb2⟩ := HYB
              have BH : Hid (I64 (y - 1)) := hide ⟨by omega, by omega⟩
              obtain ⟨u, hu⟩ : ∃ u, sndSlot s (sndW s f) ((a : Int) + 4 + (d : Int) + k) F (y - 1) tk = u := ⟨_, rfl⟩
              have HU2 := hide hu
              have HNX : Hid (chain (docG s (sndW s f) a d lo hi) (k + 1) t1 = u) := hide (by
                rw [chain, HCH.out]
                show docG s (sndW s f) a d lo hi k tk = u
                unfold docG
                rw [if_neg, kidG, HLF2.out, highZ, if_pos hkd, HKY.out]
                · exact hu
                · rintro ⟨_, h⟩
                  apply h
                  rw [HLF2.out, HKY.out]
                  exact ⟨by omega, by omega⟩)
              have NF : Hid (k + 1 < d → lowZ s a lo (k + 1) = y) := hide (fun _ => by rw [lowZ, if_neg (by omega), HKY.out])
              clear hu HCH
              go_wp2_with (fail)
              refine (key_r _ a ((k : Int) + 1) _ hkz.out).mono ?_
              rintro e w' ⟨rfl, rfl⟩
              go_wp2_with (fail)
              refine (lk_d _ b s _ y HC.out.mem HY.out).mono ?_
              rintro e w' ⟨rfl, rfl⟩
              go_wp2_with (fail)
              refine (child_r _ a d k _ hcz.out).mono ?_
              rintro e w' ⟨rfl, rfl⟩
              go_wp2_with (fail)
              rw [← EW.out]
              refine (HSL.out w0 _ b s g tk HC.out _ F (y - 1) HFB.out BH.out HFK.out u HU2.out).mono ?_
              rintro e w' ⟨rfl, hT, t2, hC, ht2⟩
              have HC2 := hide hC
              have HT2 : Hid (Turned (fun i => i = g) W w') := hide (HTW.out.trans hT (fun _ e => e) (fun _ _ e => e))
              have HE2 := hide ht2
              clear hT hC ht2 HC HTW
              rw [EW.out]
              cases u with
              | none =>
                have HR : Hid (r = none) := hide (by rw [E6.out]; exact chain_none HNX.out (by omega))
                go_wp2
                go_ret
                exact ⟨by rw [HR.out]; rfl, HT2.out, t2, HC2.out, fun u h => by rw [HR.out] at h; cases h⟩
              | some u =>
                have := HE2.out u rfl
                subst this
                clear HE2
                go_wp2
                exact ⟨⟨k + 1, _, _, by omega, rfl, by simp, NF, HNX, HC2, HT2⟩, by simp [intOf]; omega⟩
            · have j2 : ¬ ((k : Int) < (d : Int) - 1) := by omega
              have BH := HHI
              obtain ⟨u, hu⟩ : ∃ u, sndSlot s (sndW s f) ((a : Int) + 4 + (d : Int) + k) F hi tk = u := ⟨_, rfl⟩
              have HU2 := hide hu
              have HNX : Hid (chain (docG s (sndW s f) a d lo hi) (k + 1) t1 = u) := hide (by
                rw [chain, HCH.out]
                show docG s (sndW s f) a d lo hi k tk = u
                unfold docG
                rw [if_neg (fun h => hkd h.1), kidG, HLF2.out, highZ, if_neg hkd]
                exact hu)
              clear hu HCH
              go_wp2_with (fail)
              refine (child_r _ a d k _ hcz.out).mono ?_
              rintro e w' ⟨rfl, rfl⟩
              go_wp2_with (fail)
              rw [← EW.out]
              refine (HSL.out w0 _ b s g tk HC.out _ F hi HFB.out BH.out HFK.out u HU2.out).mono ?_
              rintro e w' ⟨rfl, hT, t2, hC, ht2⟩
              have HC2 := hide hC
              have HT2 : Hid (Turned (fun i => i = g) W w') := hide (HTW.out.trans hT (fun _ e => e) (fun _ _ e => e))
              have HE2 := hide ht2
              clear hT hC ht2 HC HTW
              rw [EW.out]
              cases u with
              | none =>
                have HR : Hid (r = none) := hide (by rw [E6.out]; exact chain_none HNX.out (by omega))
                go_wp2
                go_ret
                exact ⟨by rw [HR.out]; rfl, HT2.out, t2, HC2.out, fun u h => by rw [HR.out] at h; cases h⟩
              | some u =>
                have := HE2.out u rfl
                subst this
                clear HE2
                go_wp2
                exact ⟨⟨k + 1, _, _, by omega, rfl, by simp, hide (fun h => absurd h (by omega)), HNX, HC2, HT2⟩, by simp [intOf]; omega⟩
          · have hkn' : k = d := by omega
            subst hkn'
            have j1 : ¬ ((k : Int) < (k : Int)) := by omega
            go_wp2
            go_ret
            have HR : r = some tk := by rw [E6.out, HCH.out]
            exact ⟨by rw [HR]; rfl, HTW.out, tk, HC.out, fun u h => by rw [HR] at h; cases h; rfl⟩
    · have SB : shutB s a = false := by unfold shutB; rw [hz]; simp; omega
      have HR : Hid (r = none) := hide (by rw [e5, SB]; rfl)
      have g1 : (z == 0) = false := by simp; omega
      have g2 : (z == 1) = false := by simp; omega
      have g3 : (z != 0) = true := by simp; omega
      have g4 : (z != 1) = true := by simp; omega
      clear C hS hlo hhi hf e1 e2 e3 e4 e5 hN ew hD hz E2 E3 E5 hT SB hz01 i5
      go_enter Try.func86, Try.ntmps86
      go_wp2_with (fail)
      refine (lk_d _ b s a d H.out.mem HD.out).mono ?_
      rintro e w' ⟨rfl, rfl⟩
      go_wp2_with (fail)
      refine (lk_d _ b s a d H.out.mem HD.out).mono ?_
      rintro e w' ⟨rfl, rfl⟩
      go_wp2_with (fail)
      refine (lk_d _ b s a d H.out.mem HD.out).mono ?_
      rintro e w' ⟨rfl, rfl⟩
      go_wp2_with (fail)
      rw [← EW.out, ← I5.out]
      refine (take_d w0 _ b s g t H.out a (2 * d + 4) h1 (by omega) (by omega) (by omega) (some t1) HT.out).mono ?_
      rintro e W1 ⟨rfl, hT', t', C', ht'⟩
      have := ht' _ rfl
      subst this
      have H' := hide C'
      have TT := hide hT'
      clear C' hT' H ht'
      rw [EW.out, I5.out]
      go_wp2_with (fail)
      refine (lk_d _ b s ((a : Int) + 2) z H'.out.mem HZ.out).mono ?_
      rintro e w' ⟨rfl, rfl⟩
      go_wp2_with (fail)
      refine (lk_d _ b s ((a : Int) + 2) z H'.out.mem HZ.out).mono ?_
      rintro e w' ⟨rfl, rfl⟩
      go_wp2
      go_ret
      exact ⟨by rw [HR.out]; rfl, TT.out, _, H'.out, fun u h => by rw [HR.out] at h; cases h⟩
end Go.Proofs.Ytbojjpmcopnjpaa
