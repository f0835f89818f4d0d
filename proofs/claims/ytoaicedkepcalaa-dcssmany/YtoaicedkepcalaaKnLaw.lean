/-
  What known and HelpKnown answer: true. No conditions.
-/
import Derived.Test.YtoaicedkepcalaaHelpP
import Derived.Test.YtoaicedkepcalaaBegin
namespace Go.Proofs.Ytoaicedkepcalaa
open Go.RowKit
set_option maxRecDepth 20000

/-- A memory and a frame, both made since w. -/
structure MF (w W : World) (b : Nat) (s : Mst) (f : Nat) (p : Hp) : Prop where
  mem : ∃ v, PMem W w.heap.size b v s ∧ ¬ Foot b v f
  frame : HpAt W f p
  new : w.heap.size ≤ f
  kept : Kept w W
theorem Now.frame {w W W' : World} {b : Nat} {s : Mst} {p : Hp} (h : Now w W b s) (k : Kept W W') (hf : HpAt W' W.heap.size p) : MF w W' b s W.heap.size p := by
  obtain ⟨⟨v, h⟩, hk⟩ := h
  exact ⟨⟨v, h.kept k, fun e => Nat.lt_irrefl _ (h.lt _ e).2⟩, hf, hk.size, hk.trans k⟩
theorem MF.now {w W : World} {b f : Nat} {s : Mst} {p : Hp} (h : MF w W b s f p) : Now w W b s := by
  obtain ⟨⟨v, h1, _⟩, _, _, hk⟩ := h
  exact ⟨⟨v, h1⟩, hk⟩
theorem mf_step (w W : World) (b : Nat) (s : Mst) (f : Nat) (p : Hp) (h : MF w W b s f p) (hok : p.Ok) (ho : ∀ a, I64 (s.look a)) (p' : Hp) (s' : Mst) (r : Bool) (e1 : p.step s = (p', s')) (e2 : (p'.n == 7) = r) :
    Calls Try.prog 23 #[.pointer (some ⟨f, 0, none⟩), .pointer (some ⟨b, 0, none⟩)] W fun e W' => e = .returned (.bool r) ∧ MF w W' b s' f p' := by
  obtain ⟨⟨v, hm, hf⟩, hp, hn, hk⟩ := h
  refine (hp_step W _ b v f p s hp hm hok ho hf p' s' r e1 e2).mono ?_
  rintro e W' ⟨rfl, R⟩
  exact ⟨rfl, ⟨v, R.mem, hf⟩, R.frame, hn, hk.own (fun i hi => hi.elim (fun e => e ▸ hn) (fun e => (hm.lt i e).1)) R.turned⟩
theorem Mst.look_i64 {s : Mst} (h : ∀ z ∈ s.xs, I64 z) (a : Int) : I64 (s.look a) := by
  unfold Mst.look
  split
  · rename_i hu
    cases hx : s.xs[(a - 1).toNat]? with
    | none => rw [List.getD_eq_getElem?_getD, hx]; exact ⟨by decide, by decide⟩
    | some z =>
      rw [List.getD_eq_getElem?_getD, hx]
      exact h z (List.mem_of_getElem? hx)
  · exact ⟨by decide, by decide⟩
theorem dcss_c (w : World) (g p k v : Int) : Calls Try.prog 34 #[.int .i64 g, .int .i64 p, .int .i64 k, .int .i64 v] w (Fresh [g, p, k, v, 0] w) := by
  go_enter Try.func34, Try.ntmps34
  go_wp2
  go_ret
  exact ⟨_, rfl, row_new w 2 [g, p, k, v, 0] _ (Nat.le_refl _) (by simp), Turned.alloc _ _ _⟩
/-- All of these are numbers of 64 bits. -/
def allI (l : List Int) : Bool := l.all fun z => decide (-9223372036854775808 ≤ z) && decide (z ≤ 9223372036854775807)
theorem allI_ok {s : Mst} (h : allI s.xs = true) : ∀ a, I64 (s.look a) := Mst.look_i64 (fun z hz => by
  have := List.all_eq_true.1 h z hz
  simp only [Bool.and_eq_true, decide_eq_true_eq] at this
  exact this)
/-- A frame and a memory behind so many steps. -/
def it (m : Mst) : Nat → Hp × Mst
  | 0 => (Hp.new 8, m)
  | k + 1 => (it m k).1.step (it m k).2
def okB (p : Hp) (s : Mst) : Bool := decide (0 ≤ p.n) && decide (p.n ≤ 7) && decide (0 ≤ p.a) && decide (p.a ≤ 1000000) && decide (0 ≤ p.p) && decide (p.p ≤ 10) && allI s.xs
theorem okB_ok {p : Hp} {s : Mst} (h : okB p s = true) : p.Ok ∧ ∀ a, I64 (s.look a) := by
  simp only [okB, Bool.and_eq_true, decide_eq_true_eq] at h
  obtain ⟨⟨⟨⟨⟨⟨h1, h2⟩, h3⟩, h4⟩, h5⟩, h6⟩, h7⟩ := h
  exact ⟨⟨⟨h1, h2⟩, ⟨h3, h4⟩, h5, h6⟩, allI_ok h7⟩
def itB (m : Mst) : Bool := (List.range 7).all fun k => okB (it m k).1 (it m k).2 && ((it m k).1.n == (k : Int)) && ((it m (k + 1)).1.n == (k : Int) + 1)
structure ItOk (m : Mst) (k : Nat) : Prop where
  ok : (it m k).1.Ok
  i64 : ∀ a, I64 ((it m k).2.look a)
  n : ((it m k).1.n == 7) = false
  n' : ((it m (k + 1)).1.n == 7) = decide (k = 6)
theorem it_ok {m : Mst} (h : itB m = true) (k : Nat) (hk : k < 7) : ItOk m k := by
  have := List.all_eq_true.1 h k (List.mem_range.2 hk)
  simp only [Bool.and_eq_true, beq_iff_eq] at this
  obtain ⟨⟨h1, h2⟩, h3⟩ := this
  obtain ⟨a, b⟩ := okB_ok h1
  refine ⟨a, b, ?_, ?_⟩
  · rw [h2]; simp; omega
  · rw [h3, Bool.eq_iff_iff]; simp; omega
theorem it_step (m : Mst) (k : Nat) : (it m k).1.step (it m k).2 = ((it m (k + 1)).1, (it m (k + 1)).2) := rfl

def kn1 : Mst := ⟨[1, 0, 0, 0, 0, 57, 0], 20, 2, 0, 0⟩
theorem kn1_is : begun (Mst.new 20) = kn1 := by kernel_rfl
def kn2 : Mst := ⟨[1, 0, 0, 0, 0, 57, 0, 3, 6, 57, 66, 0], 20, 3, 0, 0⟩
def knK : Mst := ⟨[1, 0, 0, 0, 0, 69, 0, 3, 6, 57, 66, 0], 20, 4, 0, 0⟩
theorem knK_ok : itB knK = true := by kernel_rfl
end Go.Proofs.Ytoaicedkepcalaa
