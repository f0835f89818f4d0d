/-
  What InnerWords, KeyAt, ChildAt and Begin of node answer, and the document's own InnerWords, KeyAt, ChildAt. No conditions beyond each theorem's own.
-/
import Derived.Test.YtkbamodjhilmeaaRec
namespace Go.Proofs.Ytkbamodjhilmeaa
open Go.RowKit

/-- The cells of an Inner. -/
def innerL (size : Int) (q c : List Int) : List Int := [(c.length : Int), size, 0, 0, 0] ++ (q ++ c)
theorem innerL_length (size : Int) (q c : List Int) : (innerL size q c).length = 5 + q.length + c.length := by simp [innerL]; omega

theorem inner_lists {w : World} (size : Int) {aq ac : Option Addr} {q c : List Int} {cq cc : Nat} (hq : Reads w aq q) (hc : Reads w ac c) (hq0 : aq = none → cq = 0) (hc0 : ac = none → cc = 0) :
    Lists ((w.alloc (.cells #[.int .i64 (c.length : Int), .int .i64 size, .int .i64 0, .int .i64 0, .int .i64 0] 2)).alloc (.cells #[.slice (some ⟨w.heap.size, 0, none⟩) 5 5, .slice aq q.length cq, .slice ac c.length cc] 23)) (w.heap.size + 1) [[(c.length : Int), size, 0, 0, 0], q, c] := by
  have k1 : Kept w (w.alloc (.cells #[.int .i64 (c.length : Int), .int .i64 size, .int .i64 0, .int .i64 0, .int .i64 0] 2)) := Turned.alloc _ _ _
  have r1 : Reads (w.alloc (.cells #[.int .i64 (c.length : Int), .int .i64 size, .int .i64 0, .int .i64 0, .int .i64 0] 2)) (some ⟨w.heap.size, 0, none⟩) [(c.length : Int), size, 0, 0, 0] := Reads.new w 2 [(c.length : Int), size, 0, 0, 0]
  have hq1 := hq.kept k1
  have hc1 := hc.kept k1
  have hs : (w.alloc (.cells #[.int .i64 (c.length : Int), .int .i64 size, .int .i64 0, .int .i64 0, .int .i64 0] 2)).heap.size = w.heap.size + 1 := by simp
  generalize w.alloc (.cells #[.int .i64 (c.length : Int), .int .i64 size, .int .i64 0, .int .i64 0, .int .i64 0] 2) = W at *
  have k2 : Kept W (W.alloc (.cells #[.slice (some ⟨w.heap.size, 0, none⟩) 5 5, .slice aq q.length cq, .slice ac c.length cc] 23)) := Turned.alloc _ _ _
  have hb : (W.alloc (.cells #[.slice (some ⟨w.heap.size, 0, none⟩) 5 5, .slice aq q.length cq, .slice ac c.length cc] 23)).heap[w.heap.size + 1]? = some (.cells #[.slice (some ⟨w.heap.size, 0, none⟩) 5 5, .slice aq q.length cq, .slice ac c.length cc] 23) := by rw [← hs]; exact heap_new W _
  intro t zs ht
  rcases t with _ | _ | _ | t
  · simp at ht
    subst ht
    exact ⟨_, 5, by simp [World.cell?, hb], r1.kept k2, fun e => by cases e⟩
  · simp at ht
    subst ht
    exact ⟨aq, cq, by simp [World.cell?, hb], hq1.kept k2, hq0⟩
  · simp at ht
    subst ht
    exact ⟨ac, cc, by simp [World.cell?, hb], hc1.kept k2, hc0⟩
  · simp at ht

/-- InnerWords, of one more child than there are keys. -/
theorem inner_c (w : World) (size : Int) (aq : Option Addr) (q : List Int) (cq : Nat) (ac : Option Addr) (c : List Int) (cc : Nat) (hq : Reads w aq q) (hc : Reads w ac c) (hq0 : aq = none → cq = 0) (hc0 : ac = none → cc = 0) (hlen : c.length = q.length + 1) (hl : c.length ≤ 40000) :
    Calls Try.prog 9 #[.int .i64 size, .slice aq q.length cq, .slice ac c.length cc] w (Fresh (innerL size q c) w) := by
  have HC := hide (concat_c _ (w.heap.size + 1) 3 3 _ (inner_lists size hq hc hq0 hc0) rfl (by decide) (by decide) (by simp; omega))
  have K1 : Kept w ((w.alloc (.cells #[.int .i64 (c.length : Int), .int .i64 size, .int .i64 0, .int .i64 0, .int .i64 0] 2)).alloc (.cells #[.slice (some ⟨w.heap.size, 0, none⟩) 5 5, .slice aq q.length cq, .slice ac c.length cc] 23)) := ((Kept.refl w).alloc _).alloc _
  have KK := hide K1
  have HE : Hid ([[(c.length : Int), size, 0, 0, 0], q, c].flatten = innerL size q c) := hide (by simp [innerL])
  have n1 : ((c.length : Int) == (q.length : Int) + 1) = true := by simp only [beq_iff_eq]; omega
  have n2 : ((c.length : Int) != (q.length : Int) + 1) = false := by simp only [bne_eq_false_iff_eq]; omega
  have i1 : (q.length : Int) ≤ 40000 := by omega
  clear hq hc hq0 hc0 hlen hl K1
  go_enter Try.func9, Try.ntmps9
  go_wp2_with (fail)
  refine HC.out.mono ?_
  intro e W1 h
  rw [HE.out] at h
  obtain ⟨v1, rfl, hrow, hk⟩ := h.low KK.out
  have HR := hide hrow
  have HK := hide hk
  clear hrow hk h
  go_wp2
  go_ret
  exact ⟨_, rfl, HR.out, HK.out⟩
/-- .. of as many as else. -/
theorem inner0_c (w : World) (size : Int) (aq : Option Addr) (q : List Int) (cq : Nat) (ac : Option Addr) (c : List Int) (cc : Nat) (hlen : c.length ≠ q.length + 1) (hl : q.length ≤ 1000000) :
    Calls Try.prog 9 #[.int .i64 size, .slice aq q.length cq, .slice ac c.length cc] w fun e w' => e = .returned (.slice none 0 0) ∧ w = w' := by
  have n1 : ((c.length : Int) == (q.length : Int) + 1) = false := by simp only [beq_eq_false_iff_ne, ne_eq]; omega
  have n2 : ((c.length : Int) != (q.length : Int) + 1) = true := by simp only [bne_iff_ne, ne_eq]; omega
  have i1 : (q.length : Int) ≤ 1000000 := by omega
  clear hlen hl
  go_enter Try.func9, Try.ntmps9
  go_wp2
  go_ret
  exact ⟨rfl, rfl⟩

/-- The document's InnerWords. -/
theorem inner_r (w : World) (size : Int) (aq : Option Addr) (q : List Int) (cq : Nat) (ac : Option Addr) (c : List Int) (cc : Nat) (hq : Reads w aq q) (hc : Reads w ac c) (hq0 : aq = none → cq = 0) (hc0 : ac = none → cc = 0) (hlen : c.length = q.length + 1) (hl : c.length ≤ 40000) :
    Calls Try.prog 17 #[.int .i64 size, .slice aq q.length cq, .slice ac c.length cc] w (Fresh (innerL size q c) w) := by
  have K1 : Kept w (w.alloc (.cells #[.int .i64 (c.length : Int), .int .i64 size, .int .i64 0, .int .i64 0, .int .i64 0] 2)) := Turned.alloc _ _ _
  have R0 : Hid (Row (w.alloc (.cells #[.int .i64 (c.length : Int), .int .i64 size, .int .i64 0, .int .i64 0, .int .i64 0] 2)) w.heap.size 2 (.slice (some ⟨w.heap.size, 0, none⟩) 5 5) [(c.length : Int), size, 0, 0, 0]) := hide (row_new w 2 [(c.length : Int), size, 0, 0, 0] _ (Nat.le_refl _) (by simp))
  have HQ := hide (hq.kept K1)
  have HC := hide hc
  have HQ0 := hide hq0
  have HC0 := hide hc0
  have KK := hide K1
  have n1 : ((c.length : Int) == (q.length : Int) + 1) = true := by simp only [beq_iff_eq]; omega
  have n2 : ((c.length : Int) != (q.length : Int) + 1) = false := by simp only [bne_eq_false_iff_eq]; omega
  have i1 : (q.length : Int) ≤ 40000 := by omega
  have HL := hide (And.intro hlen hl)
  clear hq hc hq0 hc0 hlen hl K1
  go_enter Try.func17, Try.ntmps17
  go_wp2_with (at_builtin; refine Stop.out ?_)
  refine ⟨?_⟩
  refine wpList_append_reads rfl _ _ rfl w.heap.size _ 5 (cellsOf [(c.length : Int), size, 0, 0, 0]) rfl R0.out aq q cq rfl HQ.out HQ0.out (by have := HL.out; omega) KK.out.size ?_
  intro v2 w2 hown hg _
  have R2 : Hid (Row w2 w.heap.size 2 v2 ([(c.length : Int), size, 0, 0, 0] ++ q)) := hide (by
    show World.ownsRow _ _ 2 1 _ ([(c.length : Int), size, 0, 0, 0] ++ q).length (cellsOf ([(c.length : Int), size, 0, 0, 0] ++ q))
    rw [List.length_append, cellsOf, List.map_append]
    exact hown)
  have K2 := hide (kept_append KK.out R0.out hg)
  clear hown hg R0 HQ HQ0 KK
  go_wp2_with (at_builtin; refine Stop.out ?_)
  refine ⟨?_⟩
  refine wpList_append_reads rfl _ _ rfl w.heap.size _ _ (cellsOf ([(c.length : Int), size, 0, 0, 0] ++ q)) rfl R2.out ac c cc rfl (HC.out.kept K2.out) HC0.out (by have := HL.out; simp; omega) K2.out.size ?_
  intro v3 w3 hown hg _
  have R3 : Hid (Row w3 w.heap.size 2 v3 (innerL size q c)) := hide (by
    show World.ownsRow _ _ 2 1 _ (innerL size q c).length (cellsOf (innerL size q c))
    rw [innerL, ← List.append_assoc, List.length_append, cellsOf, List.map_append]
    exact hown)
  have K3 := hide (kept_append K2.out R2.out hg)
  clear hown hg R2 HC HC0 K2
  go_wp2
  go_ret
  exact ⟨_, rfl, R3.out, K3.out⟩
theorem inner0_r (w : World) (size : Int) (aq : Option Addr) (q : List Int) (cq : Nat) (ac : Option Addr) (c : List Int) (cc : Nat) (hlen : c.length ≠ q.length + 1) (hl : q.length ≤ 1000000) :
    Calls Try.prog 17 #[.int .i64 size, .slice aq q.length cq, .slice ac c.length cc] w fun e w' => e = .returned (.slice none 0 0) ∧ w = w' := by
  have n1 : ((c.length : Int) == (q.length : Int) + 1) = false := by simp only [beq_eq_false_iff_ne, ne_eq]; omega
  have n2 : ((c.length : Int) != (q.length : Int) + 1) = true := by simp only [bne_iff_ne, ne_eq]; omega
  have i1 : (q.length : Int) ≤ 1000000 := by omega
  clear hlen hl
  go_enter Try.func17, Try.ntmps17
  go_wp2
  go_ret
  exact ⟨rfl, rfl⟩

/-- Is it 0 to 2^40? -/
def nearB (x : Int) : Bool := decide (0 ≤ x) && decide (x ≤ 1099511627776)
theorem nearB_iff {x : Int} : nearB x = true ↔ 0 ≤ x ∧ x ≤ 1099511627776 := by simp [nearB]
def keyZ (n i : Int) : Int := if (nearB n && nearB i) = true then n + 4 + i else 0
def childZ (n d i : Int) : Int := if (nearB n && nearB d && nearB i) = true then n + 4 + d + i else 0
theorem keyZ_in {n i : Int} (h1 : 0 ≤ n) (h2 : n ≤ 100000) (h3 : 0 ≤ i) (h4 : i ≤ 100000) : keyZ n i = n + 4 + i := by
  rw [keyZ, nearB_iff.2 ⟨h1, by omega⟩, nearB_iff.2 ⟨h3, by omega⟩]
  rfl
theorem childZ_in {n d i : Int} (h1 : 0 ≤ n) (h2 : n ≤ 100000) (h3 : 0 ≤ d) (h4 : d ≤ 100000) (h5 : 0 ≤ i) (h6 : i ≤ 100000) : childZ n d i = n + 4 + d + i := by
  rw [childZ, nearB_iff.2 ⟨h1, by omega⟩, nearB_iff.2 ⟨h3, by omega⟩, nearB_iff.2 ⟨h5, by omega⟩]
  rfl

theorem near_c (w : World) (x : Int) (u : Bool) (hu : nearB x = u) : Calls Try.prog 34 #[.int .i64 x] w fun e w' => e = .returned (.bool u) ∧ w = w' := by
  subst hu
  by_cases h1 : 0 ≤ x
  · go_enter Try.func34, Try.ntmps34
    go_wp2
    go_ret
    exact ⟨congrArg (fun b => Ending.returned (.bool b)) (by simp [nearB, h1]), rfl⟩
  · go_enter Try.func34, Try.ntmps34
    go_wp2
    go_ret
    exact ⟨congrArg (fun b => Ending.returned (.bool b)) (by simp [nearB]; omega), rfl⟩
theorem key_c (w : World) (n i r : Int) (h : keyZ n i = r) : Calls Try.prog 10 #[.int .i64 n, .int .i64 i] w fun e w' => e = .returned (.int .i64 r) ∧ w = w' := by
  subst h
  cases hn : nearB n with
  | false =>
    have HN := hide hn
    clear hn
    go_enter Try.func10, Try.ntmps10
    go_wp2_with (fail)
    refine (near_c _ n false HN.out).mono ?_
    rintro e w' ⟨rfl, rfl⟩
    go_wp2
    go_ret
    exact ⟨by rw [keyZ, HN.out]; rfl, rfl⟩
  | true =>
    cases hi : nearB i with
    | false =>
      have HN := hide hn
      have HI := hide hi
      clear hn hi
      go_enter Try.func10, Try.ntmps10
      go_wp2_with (fail)
      refine (near_c _ n true HN.out).mono ?_
      rintro e w' ⟨rfl, rfl⟩
      go_wp2_with (fail)
      refine (near_c _ i false HI.out).mono ?_
      rintro e w' ⟨rfl, rfl⟩
      go_wp2
      go_ret
      exact ⟨by rw [keyZ, HN.out, HI.out]; rfl, rfl⟩
    | true =>
      have HN := hide hn
      have HI := hide hi
      obtain ⟨i1, i2⟩ := nearB_iff.1 hn
      obtain ⟨i3, i4⟩ := nearB_iff.1 hi
      clear hn hi
      go_enter Try.func10, Try.ntmps10
      go_wp2_with (fail)
      refine (near_c _ n true HN.out).mono ?_
      rintro e w' ⟨rfl, rfl⟩
      go_wp2_with (fail)
      refine (near_c _ i true HI.out).mono ?_
      rintro e w' ⟨rfl, rfl⟩
      go_wp2
      go_ret
      exact ⟨by rw [keyZ, HN.out, HI.out]; rfl, rfl⟩
theorem child_c (w : World) (n d i r : Int) (h : childZ n d i = r) : Calls Try.prog 11 #[.int .i64 n, .int .i64 d, .int .i64 i] w fun e w' => e = .returned (.int .i64 r) ∧ w = w' := by
  subst h
  cases hn : nearB n with
  | false =>
    have HN := hide hn
    clear hn
    go_enter Try.func11, Try.ntmps11
    go_wp2_with (fail)
    refine (near_c _ n false HN.out).mono ?_
    rintro e w' ⟨rfl, rfl⟩
    go_wp2
    go_ret
    exact ⟨by rw [childZ, HN.out]; rfl, rfl⟩
  | true =>
    cases hd : nearB d with
    | false =>
      have HN := hide hn
      have HD := hide hd
      clear hn hd
      go_enter Try.func11, Try.ntmps11
      go_wp2_with (fail)
      refine (near_c _ n true HN.out).mono ?_
      rintro e w' ⟨rfl, rfl⟩
      go_wp2_with (fail)
      refine (near_c _ d false HD.out).mono ?_
      rintro e w' ⟨rfl, rfl⟩
      go_wp2
      go_ret
      exact ⟨by rw [childZ, HN.out, HD.out]; rfl, rfl⟩
    | true =>
      cases hi : nearB i with
      | false =>
        have HN := hide hn
        have HD := hide hd
        have HI := hide hi
        clear hn hi hd
        go_enter Try.func11, Try.ntmps11
        go_wp2_with (fail)
        refine (near_c _ n true HN.out).mono ?_
        rintro e w' ⟨rfl, rfl⟩
        go_wp2_with (fail)
        refine (near_c _ d true HD.out).mono ?_
        rintro e w' ⟨rfl, rfl⟩
        go_wp2_with (fail)
        refine (near_c _ i false HI.out).mono ?_
        rintro e w' ⟨rfl, rfl⟩
        go_wp2
        go_ret
        exact ⟨by rw [childZ, HN.out, HD.out, HI.out]; rfl, rfl⟩
      | true =>
        have HN := hide hn
        have HD := hide hd
        have HI := hide hi
        obtain ⟨i1, i2⟩ := nearB_iff.1 hn
        obtain ⟨i3, i4⟩ := nearB_iff.1 hi
        obtain ⟨i5, i6⟩ := nearB_iff.1 hd
        clear hn hi hd
        go_enter Try.func11, Try.ntmps11
        go_wp2_with (fail)
        refine (near_c _ n true HN.out).mono ?_
        rintro e w' ⟨rfl, rfl⟩
        go_wp2_with (fail)
        refine (near_c _ d true HD.out).mono ?_
        rintro e w' ⟨rfl, rfl⟩
        go_wp2_with (fail)
        refine (near_c _ i true HI.out).mono ?_
        rintro e w' ⟨rfl, rfl⟩
        go_wp2
        go_ret
        exact ⟨by rw [childZ, HN.out, HD.out, HI.out]; rfl, rfl⟩

theorem near_r (w : World) (x : Int) (u : Bool) (hu : nearB x = u) : Calls Try.prog 35 #[.int .i64 x] w fun e w' => e = .returned (.bool u) ∧ w = w' := by
  subst hu
  by_cases h1 : 0 ≤ x
  · go_enter Try.func35, Try.ntmps35
    go_wp2
    go_ret
    exact ⟨congrArg (fun b => Ending.returned (.bool b)) (by simp [nearB, h1]), rfl⟩
  · go_enter Try.func35, Try.ntmps35
    go_wp2
    go_ret
    exact ⟨congrArg (fun b => Ending.returned (.bool b)) (by simp [nearB]; omega), rfl⟩
theorem key_r (w : World) (n i r : Int) (h : keyZ n i = r) : Calls Try.prog 22 #[.int .i64 n, .int .i64 i] w fun e w' => e = .returned (.int .i64 r) ∧ w = w' := by
  subst h
  cases hn : nearB n with
  | false =>
    have HN := hide hn
    clear hn
    go_enter Try.func22, Try.ntmps22
    go_wp2_with (fail)
    refine (near_r _ n false HN.out).mono ?_
    rintro e w' ⟨rfl, rfl⟩
    go_wp2
    go_ret
    exact ⟨by rw [keyZ, HN.out]; rfl, rfl⟩
  | true =>
    cases hi : nearB i with
    | false =>
      have HN := hide hn
      have HI := hide hi
      clear hn hi
      go_enter Try.func22, Try.ntmps22
      go_wp2_with (fail)
      refine (near_r _ n true HN.out).mono ?_
      rintro e w' ⟨rfl, rfl⟩
      go_wp2_with (fail)
      refine (near_r _ i false HI.out).mono ?_
      rintro e w' ⟨rfl, rfl⟩
      go_wp2
      go_ret
      exact ⟨by rw [keyZ, HN.out, HI.out]; rfl, rfl⟩
    | true =>
      have HN := hide hn
      have HI := hide hi
      obtain ⟨i1, i2⟩ := nearB_iff.1 hn
      obtain ⟨i3, i4⟩ := nearB_iff.1 hi
      clear hn hi
      go_enter Try.func22, Try.ntmps22
      go_wp2_with (fail)
      refine (near_r _ n true HN.out).mono ?_
      rintro e w' ⟨rfl, rfl⟩
      go_wp2_with (fail)
      refine (near_r _ i true HI.out).mono ?_
      rintro e w' ⟨rfl, rfl⟩
      go_wp2
      go_ret
      exact ⟨by rw [keyZ, HN.out, HI.out]; rfl, rfl⟩
theorem child_r (w : World) (n d i r : Int) (h : childZ n d i = r) : Calls Try.prog 23 #[.int .i64 n, .int .i64 d, .int .i64 i] w fun e w' => e = .returned (.int .i64 r) ∧ w = w' := by
  subst h
  cases hn : nearB n with
  | false =>
    have HN := hide hn
    clear hn
    go_enter Try.func23, Try.ntmps23
    go_wp2_with (fail)
    refine (near_r _ n false HN.out).mono ?_
    rintro e w' ⟨rfl, rfl⟩
    go_wp2
    go_ret
    exact ⟨by rw [childZ, HN.out]; rfl, rfl⟩
  | true =>
    cases hd : nearB d with
    | false =>
      have HN := hide hn
      have HD := hide hd
      clear hn hd
      go_enter Try.func23, Try.ntmps23
      go_wp2_with (fail)
      refine (near_r _ n true HN.out).mono ?_
      rintro e w' ⟨rfl, rfl⟩
      go_wp2_with (fail)
      refine (near_r _ d false HD.out).mono ?_
      rintro e w' ⟨rfl, rfl⟩
      go_wp2
      go_ret
      exact ⟨by rw [childZ, HN.out, HD.out]; rfl, rfl⟩
    | true =>
      cases hi : nearB i with
      | false =>
        have HN := hide hn
        have HD := hide hd
        have HI := hide hi
        clear hn hi hd
        go_enter Try.func23, Try.ntmps23
        go_wp2_with (fail)
        refine (near_r _ n true HN.out).mono ?_
        rintro e w' ⟨rfl, rfl⟩
        go_wp2_with (fail)
        refine (near_r _ d true HD.out).mono ?_
        rintro e w' ⟨rfl, rfl⟩
        go_wp2_with (fail)
        refine (near_r _ i false HI.out).mono ?_
        rintro e w' ⟨rfl, rfl⟩
        go_wp2
        go_ret
        exact ⟨by rw [childZ, HN.out, HD.out, HI.out]; rfl, rfl⟩
      | true =>
        have HN := hide hn
        have HD := hide hd
        have HI := hide hi
        obtain ⟨i1, i2⟩ := nearB_iff.1 hn
        obtain ⟨i3, i4⟩ := nearB_iff.1 hi
        obtain ⟨i5, i6⟩ := nearB_iff.1 hd
        clear hn hi hd
        go_enter Try.func23, Try.ntmps23
        go_wp2_with (fail)
        refine (near_r _ n true HN.out).mono ?_
        rintro e w' ⟨rfl, rfl⟩
        go_wp2_with (fail)
        refine (near_r _ d true HD.out).mono ?_
        rintro e w' ⟨rfl, rfl⟩
        go_wp2_with (fail)
        refine (near_r _ i true HI.out).mono ?_
        rintro e w' ⟨rfl, rfl⟩
        go_wp2
        go_ret
        exact ⟨by rw [childZ, HN.out, HD.out, HI.out]; rfl, rfl⟩
end Go.Proofs.Ytkbamodjhilmeaa
