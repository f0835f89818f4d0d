/-
  What InnerWords, KeyAt, ChildAt and Begin of node answer, and the document's own InnerWords, KeyAt, ChildAt. No conditions beyond each theorem's own.
-/
import Derived.Test.YtoaicedkepcalaaRec
namespace Go.Proofs.Ytoaicedkepcalaa
open Go.RowKit

/-- The cells of an Inner. -/
def innerL (size : Int) (q c : List Int) : List Int := [(c.length : Int), size, 0, 0, 0] ++ (q ++ c)
theorem innerL_length (size : Int) (q c : List Int) : (innerL size q c).length = 5 + q.length + c.length := by simp [innerL]; omega

theorem inner_lists {w : World} (size : Int) {aq ac : Option Addr} {q c : List Int} {cq cc : Nat} (hq : Reads w aq q) (hc : Reads w ac c) (hq0 : aq = none → cq = 0) (hc0 : ac = none → cc = 0) :
    Lists ((w.alloc (.cells #[.int .i64 (c.length : Int), .int .i64 size, .int .i64 0, .int .i64 0, .int .i64 0] 2)).alloc (.cells #[.slice (some ⟨w.heap.size, 0, none⟩) 5 5, .slice aq q.length cq, .slice ac c.length cc] 45)) (w.heap.size + 1) [[(c.length : Int), size, 0, 0, 0], q, c] := by
  have k1 : Kept w (w.alloc (.cells #[.int .i64 (c.length : Int), .int .i64 size, .int .i64 0, .int .i64 0, .int .i64 0] 2)) := Turned.alloc _ _ _
  have r1 : Reads (w.alloc (.cells #[.int .i64 (c.length : Int), .int .i64 size, .int .i64 0, .int .i64 0, .int .i64 0] 2)) (some ⟨w.heap.size, 0, none⟩) [(c.length : Int), size, 0, 0, 0] := Reads.new w 2 [(c.length : Int), size, 0, 0, 0]
  have hq1 := hq.kept k1
  have hc1 := hc.kept k1
  have hs : (w.alloc (.cells #[.int .i64 (c.length : Int), .int .i64 size, .int .i64 0, .int .i64 0, .int .i64 0] 2)).heap.size = w.heap.size + 1 := by simp
  generalize w.alloc (.cells #[.int .i64 (c.length : Int), .int .i64 size, .int .i64 0, .int .i64 0, .int .i64 0] 2) = W at *
  have k2 : Kept W (W.alloc (.cells #[.slice (some ⟨w.heap.size, 0, none⟩) 5 5, .slice aq q.length cq, .slice ac c.length cc] 45)) := Turned.alloc _ _ _
  have hb : (W.alloc (.cells #[.slice (some ⟨w.heap.size, 0, none⟩) 5 5, .slice aq q.length cq, .slice ac c.length cc] 45)).heap[w.heap.size + 1]? = some (.cells #[.slice (some ⟨w.heap.size, 0, none⟩) 5 5, .slice aq q.length cq, .slice ac c.length cc] 45) := by rw [← hs]; exact heap_new W _
  intro t zs ht
  rcases t with _ | _ | _ | t
  · simp at ht
    subst ht
    exact ⟨_, 5, by simp [World.cell?, hb], r1.kept k2, fun e => by cases e⟩
  · simp at ht
    subst ht
    exact ⟨aq, cq, by simp [World.cell?, hb], hq1.kept k2, hq0⟩
  · simp at ht
    subst ht
    exact ⟨ac, cc, by simp [World.cell?, hb], hc1.kept k2, hc0⟩
  · simp at ht

/-- InnerWords, of one more child than there are keys. -/
theorem inner_c (w : World) (size : Int) (aq : Option Addr) (q : List Int) (cq : Nat) (ac : Option Addr) (c : List Int) (cc : Nat) (hq : Reads w aq q) (hc : Reads w ac c) (hq0 : aq = none → cq = 0) (hc0 : ac = none → cc = 0) (hlen : c.length = q.length + 1) (hl : c.length ≤ 40000) :
    Calls Try.prog 31 #[.int .i64 size, .slice aq q.length cq, .slice ac c.length cc] w (Fresh (innerL size q c) w) := by
  have HC := hide (concat_c _ (w.heap.size + 1) 3 3 _ (inner_lists size hq hc hq0 hc0) rfl (by decide) (by decide) (by simp; omega))
  have K1 : Kept w ((w.alloc (.cells #[.int .i64 (c.length : Int), .int .i64 size, .int .i64 0, .int .i64 0, .int .i64 0] 2)).alloc (.cells #[.slice (some ⟨w.heap.size, 0, none⟩) 5 5, .slice aq q.length cq, .slice ac c.length cc] 45)) := ((Kept.refl w).alloc _).alloc _
  have KK := hide K1
  have HE : Hid ([[(c.length : Int), size, 0, 0, 0], q, c].flatten = innerL size q c) := hide (by simp [innerL])
  have n1 : ((c.length : Int) == (q.length : Int) + 1) = true := by simp only [beq_iff_eq]; omega
  have n2 : ((c.length : Int) != (q.length : Int) + 1) = false := by simp only [bne_eq_false_iff_eq]; omega
  have i1 : (q.length : Int) ≤ 40000 := by omega
  clear hq hc hq0 hc0 hlen hl K1
  go_enter Try.func31, Try.ntmps31
  go_wp2_with (fail)
  refine HC.out.mono ?_
  intro e W1 h
  rw [HE.out] at h
  obtain ⟨v1, rfl, hrow, hk⟩ := h.low KK.out
  have HR := hide hrow
  have HK := hide hk
  clear hrow hk h
  go_wp2
  go_ret
  exact ⟨_, rfl, HR.out, HK.out⟩
/-- .. of as many as else. -/
theorem inner0_c (w : World) (size : Int) (aq : Option Addr) (q : List Int) (cq : Nat) (ac : Option Addr) (c : List Int) (cc : Nat) (hlen : c.length ≠ q.length + 1) (hl : q.length ≤ 1000000) :
    Calls Try.prog 31 #[.int .i64 size, .slice aq q.length cq, .slice ac c.length cc] w fun e w' => e = .returned (.slice none 0 0) ∧ w = w' := by
  have n1 : ((c.length : Int) == (q.length : Int) + 1) = false := by simp only [beq_eq_false_iff_ne, ne_eq]; omega
  have n2 : ((c.length : Int) != (q.length : Int) + 1) = true := by simp only [bne_iff_ne, ne_eq]; omega
  have i1 : (q.length : Int) ≤ 1000000 := by omega
  clear hlen hl
  go_enter Try.func31, Try.ntmps31
  go_wp2
  go_ret
  exact ⟨rfl, rfl⟩

/-- Is it 0 to 2^40? -/
def nearB (x : Int) : Bool := decide (0 ≤ x) && decide (x ≤ 1099511627776)
theorem nearB_iff {x : Int} : nearB x = true ↔ 0 ≤ x ∧ x ≤ 1099511627776 := by simp [nearB]
def keyZ (n i : Int) : Int := if (nearB n && nearB i) = true then n + 4 + i else 0
def childZ (n d i : Int) : Int := if (nearB n && nearB d && nearB i) = true then n + 4 + d + i else 0
theorem keyZ_in {n i : Int} (h1 : 0 ≤ n) (h2 : n ≤ 100000) (h3 : 0 ≤ i) (h4 : i ≤ 100000) : keyZ n i = n + 4 + i := by
  rw [keyZ, nearB_iff.2 ⟨h1, by omega⟩, nearB_iff.2 ⟨h3, by omega⟩]
  rfl
theorem childZ_in {n d i : Int} (h1 : 0 ≤ n) (h2 : n ≤ 100000) (h3 : 0 ≤ d) (h4 : d ≤ 100000) (h5 : 0 ≤ i) (h6 : i ≤ 100000) : childZ n d i = n + 4 + d + i := by
  rw [childZ, nearB_iff.2 ⟨h1, by omega⟩, nearB_iff.2 ⟨h3, by omega⟩, nearB_iff.2 ⟨h5, by omega⟩]
  rfl

end Go.Proofs.Ytoaicedkepcalaa
