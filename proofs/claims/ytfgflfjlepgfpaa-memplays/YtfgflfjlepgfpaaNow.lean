/-
  A memory that was made since w, whatever its slice is ('Now w W b s': it lies in W, at b, and nothing that lay at w has turned): the accesses and questions of the program's memory at such a one, what they answer told by equations.
-/
import Derived.Test.YtfgflfjlepgfpaaTell
namespace Go.Proofs.Ytfgflfjlepgfpaa
open Go.RowKit

/-- A memory made since w lies at b in W; nothing that lay at w has turned. -/
def Now (w W : World) (b : Nat) (s : Mst) : Prop := (∃ v, PMem W w.heap.size b v s) ∧ Kept w W

namespace Now
variable {w W W' : World} {b : Nat} {s s' : Mst}
theorem lt (h : Now w W b s) : w.heap.size ≤ b ∧ b < W.heap.size := by
  obtain ⟨⟨v, h⟩, _⟩ := h
  exact h.lt b (.inl rfl)
theorem on (h : Now w W b s) (k : Kept W W') : Now w W' b s := by
  obtain ⟨⟨v, h⟩, hk⟩ := h
  exact ⟨⟨v, h.kept k⟩, hk.trans k⟩
theorem did {v : Value} (h : PMem W w.heap.size b v s) (hk : Kept w W) (d : Does 56 layP w.heap.size b v s' W W') : Now w W' b s' := by
  obtain ⟨v', h', t, _⟩ := d
  exact ⟨⟨v', h'⟩, hk.own (fun i hi => (h.lt i hi).1) t⟩
theorem put {v : Value} (h : PMem W w.heap.size b v s) (hk : Kept w W) (h' : PMem W' w.heap.size b v s') (t : Turned (Foot b v) W W') : Now w W' b s' := did h hk (Does.same h' t)
theorem box {v : Value} (h : PMem W w.heap.size b v s) (hk : Kept w W) (h' : PMem W' w.heap.size b v s') (t : Turned (fun k => k = b) W W') : Now w W' b s' := put h hk h' (t.mono (fun _ _ e => .inl e))
/-- A slice that lay at w. -/
theorem far (h : Now w W b s) {a : Option Addr} {zs : List Int} (hr : Reads w a zs) : Reads W a zs := hr.kept h.2
theorem room (h : Now w W b s) : (s.xs.length : Int) ≤ s.size ∧ s.size ≤ 65536 := by
  obtain ⟨⟨v, h⟩, _⟩ := h
  exact ⟨h.room, h.top⟩
end Now

theorem now_new (w W : World) (n : Int) (hk : Kept w W) (h0 : 1 ≤ n) (h1 : n ≤ 65536) :
    Calls Try.prog 9 #[.int .i64 n] W fun e W' => e = .returned (.tuple #[.pointer (some ⟨W.heap.size, 0, none⟩), .int .i64 0]) ∧ Now w W' W.heap.size (Mst.new n) ∧ Kept W W' :=
  (new_p W n h0 h1).mono fun _ _ ⟨h1, h2, h3, _⟩ => ⟨h1, ⟨⟨_, h2.low hk.size⟩, hk.trans h3⟩, h3⟩
theorem now_make (w W : World) (b : Nat) (s : Mst) (a : Option Addr) (ws : List Int) (cw : Nat) (r : Int) (f : Bool) (s' : Mst) (h : Now w W b s) (hr : Reads W a ws) (hlw : ws.length ≤ maxLen) (hs : ws ≠ [] → ∀ ad, a = some ad → ad.block ≠ b) (e1 : s.next ws = r) (e2 : s.fits ws.length = f) (e3 : s.make ws = s') :
    Calls Try.prog 10 #[.pointer (some ⟨b, 0, none⟩), .slice a ws.length cw] W fun e W' => e = .returned (.tuple #[.int .i64 r, .bool f]) ∧ Now w W' b s' := by
  obtain ⟨⟨v, h⟩, hk⟩ := h
  subst e1 e2 e3
  exact (make_p W w.heap.size b v s a ws cw h hk.size hr hlw hs).mono fun _ _ ⟨h1, h2⟩ => ⟨h1, Now.did h hk h2⟩
/-- Make of a slice that lay at w. -/
theorem now_put (w W : World) (b : Nat) (s : Mst) (a : Option Addr) (ws : List Int) (cw : Nat) (r : Int) (f : Bool) (s' : Mst) (h : Now w W b s) (hr : Reads w a ws) (hlw : ws.length ≤ maxLen) (e1 : s.next ws = r) (e2 : s.fits ws.length = f) (e3 : s.make ws = s') :
    Calls Try.prog 10 #[.pointer (some ⟨b, 0, none⟩), .slice a ws.length cw] W fun e W' => e = .returned (.tuple #[.int .i64 r, .bool f]) ∧ Now w W' b s' :=
  now_make w W b s a ws cw r f s' h (h.far hr) hlw (fun h0 ad e => Nat.ne_of_lt (Nat.lt_of_lt_of_le (hr.lt h0 ad e) h.lt.1)) e1 e2 e3
/-- Make of a literal. -/
theorem now_lit (w W : World) (b : Nat) (s : Mst) (ws : List Int) (cw : Nat) (r : Int) (f : Bool) (s' : Mst) (h : Now w W b s) (hlw : ws.length ≤ 100) (e1 : s.next ws = r) (e2 : s.fits ws.length = f) (e3 : s.make ws = s') :
    Calls Try.prog 10 #[.pointer (some ⟨b, 0, none⟩), .slice (some ⟨W.heap.size, 0, none⟩) ws.length cw] (W.alloc (.cells (ws.map (Value.int .i64)).toArray 2)) fun e W' => e = .returned (.tuple #[.int .i64 r, .bool f]) ∧ Now w W' b s' :=
  now_make w _ b s _ ws cw r f s' (h.on (Turned.alloc _ _ _)) (Reads.new W 2 ws) (by unfold maxLen; omega) (fun _ ad e => by cases e; exact Nat.ne_of_gt h.lt.2) e1 e2 e3
theorem now_read (w W : World) (b : Nat) (s : Mst) (a r : Int) (s' : Mst) (h : Now w W b s) (e1 : s.look a = r) (e2 : s.touch a = s') :
    Calls Try.prog 26 #[.pointer (some ⟨b, 0, none⟩), .int .i64 a] W fun e W' => e = .returned (.int .i64 r) ∧ Now w W' b s' := by
  obtain ⟨⟨v, h⟩, hk⟩ := h
  subst e1 e2
  exact (read_p W _ b v s a h).mono fun _ _ ⟨h1, h2, h3⟩ => ⟨h1, Now.box h hk h2 h3⟩
theorem now_write (w W : World) (b : Nat) (s : Mst) (a x : Int) (s' : Mst) (h : Now w W b s) (e1 : s.write a x = s') :
    Calls Try.prog 20 #[.pointer (some ⟨b, 0, none⟩), .int .i64 a, .int .i64 x] W fun e W' => e = .returned (.tuple #[]) ∧ Now w W' b s' := by
  obtain ⟨⟨v, h⟩, hk⟩ := h
  subst e1
  exact (write_p W _ b v s a x h).mono fun _ _ ⟨h1, h2, h3⟩ => ⟨h1, Now.put h hk h2 h3⟩
theorem now_add (w W : World) (b : Nat) (s : Mst) (a x r : Int) (s' : Mst) (h : Now w W b s) (e1 : s.look a = r) (e2 : s.add a x = s') :
    Calls Try.prog 11 #[.pointer (some ⟨b, 0, none⟩), .int .i64 a, .int .i64 x] W fun e W' => e = .returned (.int .i64 r) ∧ Now w W' b s' := by
  obtain ⟨⟨v, h⟩, hk⟩ := h
  subst e1 e2
  exact (add_p W _ b v s a x h).mono fun _ _ ⟨h1, h2, h3⟩ => ⟨h1, Now.put h hk h2 h3⟩
theorem now_cas (w W : World) (b : Nat) (s : Mst) (a old x : Int) (r : Bool) (s' : Mst) (h : Now w W b s) (e1 : s.did a old = r) (e2 : s.cas a old x = s') :
    Calls Try.prog 28 #[.pointer (some ⟨b, 0, none⟩), .int .i64 a, .int .i64 old, .int .i64 x] W fun e W' => e = .returned (.bool r) ∧ Now w W' b s' := by
  obtain ⟨⟨v, h⟩, hk⟩ := h
  subst e1 e2
  exact (cas_p W _ b v s a old x h).mono fun _ _ ⟨h1, h2, h3⟩ => ⟨h1, Now.put h hk h2 h3⟩
theorem now_look (w W : World) (b : Nat) (s : Mst) (a r : Int) (h : Now w W b s) (e1 : s.look a = r) :
    Calls Try.prog 13 #[.pointer (some ⟨b, 0, none⟩), .int .i64 a] W fun e W' => e = .returned (.int .i64 r) ∧ W = W' := by
  obtain ⟨⟨v, h⟩, hk⟩ := h
  subst e1
  exact (look_p W _ b v s a h).mono fun _ _ h => h
theorem now_count (w W : World) (b : Nat) (s : Mst) (r : Int) (h : Now w W b s) (e1 : s.count = r) : Calls Try.prog 22 #[.pointer (some ⟨b, 0, none⟩)] W fun e W' => e = .returned (.int .i64 r) ∧ W = W' := by
  obtain ⟨⟨v, h⟩, hk⟩ := h
  subst e1
  exact (count_c W _ b v s h).mono fun _ _ h => h
theorem now_odd (w W : World) (b : Nat) (s : Mst) (r : Int) (h : Now w W b s) (e1 : s.odd = r) : Calls Try.prog 23 #[.pointer (some ⟨b, 0, none⟩)] W fun e W' => e = .returned (.int .i64 r) ∧ W = W' := by
  obtain ⟨⟨v, h⟩, hk⟩ := h
  subst e1
  exact (odd_c W _ b v s h).mono fun _ _ h => h
theorem now_refused (w W : World) (b : Nat) (s : Mst) (r : Int) (h : Now w W b s) (e1 : s.ref = r) : Calls Try.prog 14 #[.pointer (some ⟨b, 0, none⟩)] W fun e W' => e = .returned (.int .i64 r) ∧ W = W' := by
  obtain ⟨⟨v, h⟩, hk⟩ := h
  subst e1
  exact (refused_c W _ b v s h).mono fun _ _ h => h
theorem now_size (w W : World) (b : Nat) (s : Mst) (r : Int) (h : Now w W b s) (e1 : s.size = r) : Calls Try.prog 15 #[.pointer (some ⟨b, 0, none⟩)] W fun e W' => e = .returned (.int .i64 r) ∧ W = W' := by
  obtain ⟨⟨v, h⟩, hk⟩ := h
  subst e1
  exact (size_c W _ b v s h).mono fun _ _ h => h
theorem now_used (w W : World) (b : Nat) (s : Mst) (r : Int) (h : Now w W b s) (e1 : (s.xs.length : Int) = r) : Calls Try.prog 16 #[.pointer (some ⟨b, 0, none⟩)] W fun e W' => e = .returned (.int .i64 r) ∧ W = W' := by
  obtain ⟨⟨v, h⟩, hk⟩ := h
  subst e1
  exact (used_c W _ b v s h).mono fun _ _ h => h
theorem now_cells (w W : World) (b : Nat) (s : Mst) (h : Now w W b s) : Calls Try.prog 27 #[.pointer (some ⟨b, 0, none⟩)] W fun e W' => ∃ a cap, e = .returned (.slice a s.xs.length cap) ∧ Reads W' a s.xs ∧ s.xs.length ≤ cap ∧ cap ≤ maxLen ∧ (∀ bl off, a = some ⟨bl, off, none⟩ → W.heap.size ≤ bl) ∧ Row W' W.heap.size 2 (.slice a s.xs.length cap) s.xs ∧ Kept W W' := by
  obtain ⟨⟨v, h⟩, hk⟩ := h
  refine (cells_c W _ b v s h).mono fun e W' hh => ?_
  obtain ⟨u, rfl, hrow, hk'⟩ := hh
  have hr := hrow.reads
  obtain ⟨a, cap, rfl, h1, h2, h3, h4⟩ := hr
  exact ⟨a, cap, rfl, h1, h2, h3, h4, hrow, hk'⟩
theorem now_clone (w W : World) (b : Nat) (s : Mst) (h : Now w W b s) : Calls Try.prog 19 #[.pointer (some ⟨b, 0, none⟩)] W fun e W' => ∃ b', e = .returned (.pointer (some ⟨b', 0, none⟩)) ∧ Now W W' b' s := by
  obtain ⟨⟨v, h⟩, hk⟩ := h
  refine (clone_c W _ b v s h).mono fun e W' hh => ?_
  obtain ⟨b', v', rfl, h1, h2⟩ := hh
  exact ⟨b', rfl, ⟨v', h1⟩, h2⟩
theorem words_k (W : World) (a b : Option Addr) (q : List Int) (cap cap' : Nat) (hr : Reads W a q) (hr' : Reads W b q) (hc : q.length ≤ cap) (hc' : q.length ≤ cap') (hm : cap ≤ maxLen) :
    Calls Try.prog 29 #[.slice a q.length cap, .slice b q.length cap'] W fun e w' => e = .returned (.bool true) ∧ Kept W w' :=
  (words_c W a b q cap cap' hr hr' hc hc' hm).mono fun _ _ ⟨h1, m, h2⟩ => ⟨h1, by rw [h2]; exact Kept.drewN _ _⟩

set_option maxRecDepth 100000 in
set_option maxHeartbeats 2000000 in
theorem known_c (w : World) : Calls Try.prog 12 #[] w fun e w' => e = .returned (.bool true) ∧ Kept w w' := by
  go_enter Try.func12, Try.ntmps12
  go_wp2_with (fail)
  refine (now_new w w 3 (Kept.refl w) (by decide) (by decide)).mono ?_
  rintro e W1 ⟨rfl, h1, k1⟩
  have z1 := k1.size
  have H1 := hide h1
  clear h1 k1
  go_wp2_with (fail)
  refine (now_lit w W1 w.heap.size _ [7, 8] 2 1 true ⟨[7, 8], 3, 1, 0, 0⟩ H1.out (by decide) (by decide) (by decide) (by kernel_rfl)).mono ?_
  rintro e W2 ⟨rfl, h2⟩
  have H2 := hide h2
  clear h2 H1 z1
  go_wp2_with (fail)
  refine (now_lit w W2 w.heap.size _ [1, 2] 2 0 false ⟨[7, 8], 3, 2, 0, 1⟩ H2.out (by decide) (by decide) (by decide) (by kernel_rfl)).mono ?_
  rintro e W3 ⟨rfl, h3⟩
  have H3 := hide h3
  clear h3 H2
  go_wp2_with (fail)
  refine (now_read w W3 w.heap.size _ 2 8 ⟨[7, 8], 3, 3, 0, 1⟩ H3.out (by decide) (by kernel_rfl)).mono ?_
  rintro e W4 ⟨rfl, h4⟩
  have H4 := hide h4
  clear h4 H3
  go_wp2_with (fail)
  refine (now_add w W4 w.heap.size _ 1 5 7 ⟨[12, 8], 3, 4, 0, 1⟩ H4.out (by decide) (by kernel_rfl)).mono ?_
  rintro e W5 ⟨rfl, h5⟩
  have H5 := hide h5
  clear h5 H4
  go_wp2_with (fail)
  refine (now_look w W5 w.heap.size _ 1 12 H5.out (by decide)).mono ?_
  rintro e w' ⟨rfl, rfl⟩
  go_wp2_with (fail)
  refine (now_read w W5 w.heap.size _ 3 0 ⟨[12, 8], 3, 5, 1, 1⟩ H5.out (by decide) (by kernel_rfl)).mono ?_
  rintro e W6 ⟨rfl, h6⟩
  have H6 := hide h6
  clear h6 H5
  go_wp2_with (fail)
  refine (now_odd w W6 w.heap.size _ 1 H6.out rfl).mono ?_
  rintro e w' ⟨rfl, rfl⟩
  go_wp2_with (fail)
  refine (now_refused w W6 w.heap.size _ 1 H6.out rfl).mono ?_
  rintro e w' ⟨rfl, rfl⟩
  go_wp2_with (fail)
  refine (now_count w W6 w.heap.size _ 5 H6.out rfl).mono ?_
  rintro e w' ⟨rfl, rfl⟩
  go_wp2_with (fail)
  refine (now_cas w W6 w.heap.size _ 1 12 13 true ⟨[13, 8], 3, 6, 1, 1⟩ H6.out (by decide) (by kernel_rfl)).mono ?_
  rintro e W7 ⟨rfl, h7⟩
  have H7 := hide h7
  clear h7 H6
  go_wp2_with (fail)
  refine (now_cas w W7 w.heap.size _ 1 12 14 false ⟨[13, 8], 3, 7, 1, 1⟩ H7.out (by decide) (by kernel_rfl)).mono ?_
  rintro e W8 ⟨rfl, h8⟩
  have H8 := hide h8
  clear h8 H7
  go_wp2_with (fail)
  refine (now_cells w W8 w.heap.size _ H8.out).mono ?_
  rintro e W9 ⟨a, cap, rfl, hr, hc, hm, -, -, hk⟩
  have HR := hide (hr.kept (Turned.alloc (fun _ => False) W9 (.cells #[.int .i64 13, .int .i64 8] 2)))
  have HC := hide hc
  have HM := hide hm
  have KK := hide ((H8.out.2.trans hk).alloc (.cells #[.int .i64 13, .int .i64 8] 2))
  clear hr hc hm hk H8
  go_wp2_with (fail)
  refine (words_k _ a _ [13, 8] cap 2 HR.out (Reads.new W9 2 [13, 8]) HC.out (by decide) HM.out).mono ?_
  rintro e W10 ⟨rfl, hk⟩
  have KF := hide (KK.out.trans hk)
  clear hk KK
  go_wp2
  go_ret
  exact ⟨rfl, KF.out⟩
end Go.Proofs.Ytfgflfjlepgfpaa
