/-
  A memory that was made since w, whatever its slice is ('Now w W b s': it lies in W, at b, and nothing that lay at w has turned): the accesses and questions of the program's memory at such a one, what they answer told by equations.
-/
import Derived.Test.YtoaicedkepcalaaTell
namespace Go.Proofs.Ytoaicedkepcalaa
open Go.RowKit

/-- A memory made since w lies at b in W; nothing that lay at w has turned. -/
def Now (w W : World) (b : Nat) (s : Mst) : Prop := (∃ v, PMem W w.heap.size b v s) ∧ Kept w W

namespace Now
variable {w W W' : World} {b : Nat} {s s' : Mst}
theorem lt (h : Now w W b s) : w.heap.size ≤ b ∧ b < W.heap.size := by
  obtain ⟨⟨v, h⟩, _⟩ := h
  exact h.lt b (.inl rfl)
theorem on (h : Now w W b s) (k : Kept W W') : Now w W' b s := by
  obtain ⟨⟨v, h⟩, hk⟩ := h
  exact ⟨⟨v, h.kept k⟩, hk.trans k⟩
theorem did {v : Value} (h : PMem W w.heap.size b v s) (hk : Kept w W) (d : Does 50 layP w.heap.size b v s' W W') : Now w W' b s' := by
  obtain ⟨v', h', t, _⟩ := d
  exact ⟨⟨v', h'⟩, hk.own (fun i hi => (h.lt i hi).1) t⟩
theorem put {v : Value} (h : PMem W w.heap.size b v s) (hk : Kept w W) (h' : PMem W' w.heap.size b v s') (t : Turned (Foot b v) W W') : Now w W' b s' := did h hk (Does.same h' t)
theorem box {v : Value} (h : PMem W w.heap.size b v s) (hk : Kept w W) (h' : PMem W' w.heap.size b v s') (t : Turned (fun k => k = b) W W') : Now w W' b s' := put h hk h' (t.mono (fun _ _ e => .inl e))
/-- A slice that lay at w. -/
theorem far (h : Now w W b s) {a : Option Addr} {zs : List Int} (hr : Reads w a zs) : Reads W a zs := hr.kept h.2
theorem room (h : Now w W b s) : (s.xs.length : Int) ≤ s.size ∧ s.size ≤ 65536 := by
  obtain ⟨⟨v, h⟩, _⟩ := h
  exact ⟨h.room, h.top⟩
end Now

theorem now_new (w W : World) (n : Int) (hk : Kept w W) (h0 : 1 ≤ n) (h1 : n ≤ 65536) :
    Calls Try.prog 7 #[.int .i64 n] W fun e W' => e = .returned (.tuple #[.pointer (some ⟨W.heap.size, 0, none⟩), .int .i64 0]) ∧ Now w W' W.heap.size (Mst.new n) ∧ Kept W W' :=
  (new_p W n h0 h1).mono fun _ _ ⟨h1, h2, h3, _⟩ => ⟨h1, ⟨⟨_, h2.low hk.size⟩, hk.trans h3⟩, h3⟩
theorem now_make (w W : World) (b : Nat) (s : Mst) (a : Option Addr) (ws : List Int) (cw : Nat) (r : Int) (f : Bool) (s' : Mst) (h : Now w W b s) (hr : Reads W a ws) (hlw : ws.length ≤ maxLen) (hs : ws ≠ [] → ∀ ad, a = some ad → ad.block ≠ b) (e1 : s.next ws = r) (e2 : s.fits ws.length = f) (e3 : s.make ws = s') :
    Calls Try.prog 30 #[.pointer (some ⟨b, 0, none⟩), .slice a ws.length cw] W fun e W' => e = .returned (.tuple #[.int .i64 r, .bool f]) ∧ Now w W' b s' := by
  obtain ⟨⟨v, h⟩, hk⟩ := h
  subst e1 e2 e3
  exact (make_p W w.heap.size b v s a ws cw h hk.size hr hlw hs).mono fun _ _ ⟨h1, h2⟩ => ⟨h1, Now.did h hk h2⟩
/-- Make of a slice that lay at w. -/
theorem now_put (w W : World) (b : Nat) (s : Mst) (a : Option Addr) (ws : List Int) (cw : Nat) (r : Int) (f : Bool) (s' : Mst) (h : Now w W b s) (hr : Reads w a ws) (hlw : ws.length ≤ maxLen) (e1 : s.next ws = r) (e2 : s.fits ws.length = f) (e3 : s.make ws = s') :
    Calls Try.prog 30 #[.pointer (some ⟨b, 0, none⟩), .slice a ws.length cw] W fun e W' => e = .returned (.tuple #[.int .i64 r, .bool f]) ∧ Now w W' b s' :=
  now_make w W b s a ws cw r f s' h (h.far hr) hlw (fun h0 ad e => Nat.ne_of_lt (Nat.lt_of_lt_of_le (hr.lt h0 ad e) h.lt.1)) e1 e2 e3
/-- Make of a literal. -/
theorem now_lit (w W : World) (b : Nat) (s : Mst) (ws : List Int) (cw : Nat) (r : Int) (f : Bool) (s' : Mst) (h : Now w W b s) (hlw : ws.length ≤ 100) (e1 : s.next ws = r) (e2 : s.fits ws.length = f) (e3 : s.make ws = s') :
    Calls Try.prog 30 #[.pointer (some ⟨b, 0, none⟩), .slice (some ⟨W.heap.size, 0, none⟩) ws.length cw] (W.alloc (.cells (ws.map (Value.int .i64)).toArray 2)) fun e W' => e = .returned (.tuple #[.int .i64 r, .bool f]) ∧ Now w W' b s' :=
  now_make w _ b s _ ws cw r f s' (h.on (Turned.alloc _ _ _)) (Reads.new W 2 ws) (by unfold maxLen; omega) (fun _ ad e => by cases e; exact Nat.ne_of_gt h.lt.2) e1 e2 e3
theorem now_read (w W : World) (b : Nat) (s : Mst) (a r : Int) (s' : Mst) (h : Now w W b s) (e1 : s.look a = r) (e2 : s.touch a = s') :
    Calls Try.prog 39 #[.pointer (some ⟨b, 0, none⟩), .int .i64 a] W fun e W' => e = .returned (.int .i64 r) ∧ Now w W' b s' := by
  obtain ⟨⟨v, h⟩, hk⟩ := h
  subst e1 e2
  exact (read_p W _ b v s a h).mono fun _ _ ⟨h1, h2, h3⟩ => ⟨h1, Now.box h hk h2 h3⟩
theorem now_write (w W : World) (b : Nat) (s : Mst) (a x : Int) (s' : Mst) (h : Now w W b s) (e1 : s.write a x = s') :
    Calls Try.prog 18 #[.pointer (some ⟨b, 0, none⟩), .int .i64 a, .int .i64 x] W fun e W' => e = .returned (.tuple #[]) ∧ Now w W' b s' := by
  obtain ⟨⟨v, h⟩, hk⟩ := h
  subst e1
  exact (write_p W _ b v s a x h).mono fun _ _ ⟨h1, h2, h3⟩ => ⟨h1, Now.put h hk h2 h3⟩
theorem now_cas (w W : World) (b : Nat) (s : Mst) (a old x : Int) (r : Bool) (s' : Mst) (h : Now w W b s) (e1 : s.did a old = r) (e2 : s.cas a old x = s') :
    Calls Try.prog 36 #[.pointer (some ⟨b, 0, none⟩), .int .i64 a, .int .i64 old, .int .i64 x] W fun e W' => e = .returned (.bool r) ∧ Now w W' b s' := by
  obtain ⟨⟨v, h⟩, hk⟩ := h
  subst e1 e2
  exact (cas_p W _ b v s a old x h).mono fun _ _ ⟨h1, h2, h3⟩ => ⟨h1, Now.put h hk h2 h3⟩
theorem now_look (w W : World) (b : Nat) (s : Mst) (a r : Int) (h : Now w W b s) (e1 : s.look a = r) :
    Calls Try.prog 20 #[.pointer (some ⟨b, 0, none⟩), .int .i64 a] W fun e W' => e = .returned (.int .i64 r) ∧ W = W' := by
  obtain ⟨⟨v, h⟩, hk⟩ := h
  subst e1
  exact (look_p W _ b v s a h).mono fun _ _ h => h
theorem now_size (w W : World) (b : Nat) (s : Mst) (r : Int) (h : Now w W b s) (e1 : s.size = r) : Calls Try.prog 29 #[.pointer (some ⟨b, 0, none⟩)] W fun e W' => e = .returned (.int .i64 r) ∧ W = W' := by
  obtain ⟨⟨v, h⟩, hk⟩ := h
  subst e1
  exact (size_c W _ b v s h).mono fun _ _ h => h
theorem now_used (w W : World) (b : Nat) (s : Mst) (r : Int) (h : Now w W b s) (e1 : (s.xs.length : Int) = r) : Calls Try.prog 28 #[.pointer (some ⟨b, 0, none⟩)] W fun e W' => e = .returned (.int .i64 r) ∧ W = W' := by
  obtain ⟨⟨v, h⟩, hk⟩ := h
  subst e1
  exact (used_c W _ b v s h).mono fun _ _ h => h
end Go.Proofs.Ytoaicedkepcalaa
