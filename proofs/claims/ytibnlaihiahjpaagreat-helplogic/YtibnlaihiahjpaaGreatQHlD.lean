/-
  Two frames of help in a yard, behind so many rounds. Conditions: each theorem's own.
-/
import Derived.Test.YtibnlaihiahjpaaGreatQHlC
import Derived.Test.YtibnlaihiahjpaaGreatQHlK
namespace Go.Proofs.YtibnlaihiahjpaaGreat
open Go.RowKit Go.Shelf

/-- How far they are. -/
def Bd (i : Nat) (p0 p1 : Hp) : Prop := (7 ≤ p0.n ∨ (((i + 1) / 2 : Nat) : Int) ≤ p0.n) ∧ (7 ≤ p1.n ∨ ((i / 2 : Nat) : Int) ≤ p1.n)
/-- Behind i rounds; t: the slot stands for what the Dcss leads to. -/
def Th (w W : World) (y b x mb fa f0 f1 : Nat) (ix : Ixp) (k : Hc) (i : Nat) (t : Bool) : Prop :=
  ∃ M p0 p1 u, Yh w W y b x mb fa f0 f1 M ix p0 p1 ∧ Tw k M p0 p1 u ∧ Bd i p0 p1 ∧ (t = true ↔ u = true ∧ k.out = 1)
section
variable {w W W' : World} {y b x mb fa f0 f1 : Nat} {ix : Ixp} {k : Hc} {i : Nat} {t : Bool}
theorem Th.kept (h : Th w W y b x mb fa f0 f1 ix k i t) (q : Kept W W') : Th w W' y b x mb fa f0 f1 ix k i t := by
  obtain ⟨M, p0, p1, u, h1, h2⟩ := h
  exact ⟨M, p0, p1, u, h1.kept q, h2⟩
theorem Th.cells (h : Th w W y b x mb fa f0 f1 ix k i t) : W.cell? ⟨y, 0, none⟩ = some (.pointer (some ⟨b, 0, none⟩)) ∧ W.cell? ⟨fa, 0, none⟩ = some (.pointer (some ⟨f0, 0, none⟩)) ∧ W.cell? ⟨fa, 1, none⟩ = some (.pointer (some ⟨f1, 0, none⟩)) := by
  obtain ⟨M, p0, p1, u, h1, h2⟩ := h
  exact h1.cells
theorem Th.since (h : Th w W y b x mb fa f0 f1 ix k i t) : Kept w W := by
  obtain ⟨M, p0, p1, u, h1, h2⟩ := h
  exact h1.yx.since
/-- What is settled stays so. -/
def Up (t t' : Bool) : Prop := t = true → t' = true
theorem th_one (K : k.Ok) (h : Th w W y b x mb fa f0 f1 ix k i t) (f : Nat) (hf : f = f0 ∨ f = f1) : Calls Tryz.prog 40 #[.pointer (some ⟨f, 0, none⟩), .pointer (some ⟨b, 0, none⟩)] W fun e W' => ∃ r t', e = .returned (.bool r) ∧ Th w W' y b x mb fa f0 f1 ix k i t' ∧ Up t t' ∧ (f = f0 ∧ i % 2 = 0 ∨ f = f1 ∧ i % 2 = 1 → Th w W' y b x mb fa f0 f1 ix k (i + 1) t') := by
  obtain ⟨M, p0, p1, u, h1, h2, h3, h4⟩ := h
  obtain ⟨o1, o2, o3⟩ := h2.ok K
  have n7 := h2.n7
  by_cases e : f = f0
  · obtain ⟨u', q1, q2, q3⟩ := h2.s0 K
    rw [e]
    refine (yh_s0 w W y b x mb fa f0 f1 M ix p0 p1 h1 o2 o1).mono ?_
    rintro e W' ⟨rfl, hy⟩
    have ht : decide (u' = true ∧ k.out = 1) = true ↔ u' = true ∧ k.out = 1 := by simp
    refine ⟨_, decide (u' = true ∧ k.out = 1), rfl, ⟨_, _, _, u', hy, q1, ?_, ht⟩, fun e => ht.2 ⟨q2 (h4.1 e).1, (h4.1 e).2⟩, fun hp => ⟨_, _, _, u', hy, q1, ?_, ht⟩⟩
    · unfold Bd at h3 ⊢
      split at q3 <;> omega
    · have h2' : i % 2 = 0 := by
        rcases hp with ⟨_, e⟩ | ⟨e, _⟩
        · exact e
        · exact absurd e h1.new.2.2
      unfold Bd at h3 ⊢
      split at q3 <;> omega
  · obtain rfl : f = f1 := hf.resolve_left e
    obtain ⟨u', q1, q2, q3⟩ := h2.s1 K
    refine (yh_s1 w W y b x mb fa f0 f M ix p0 p1 h1 o3 o1).mono ?_
    rintro e' W' ⟨rfl, hy⟩
    have ht : decide (u' = true ∧ k.out = 1) = true ↔ u' = true ∧ k.out = 1 := by simp
    refine ⟨_, decide (u' = true ∧ k.out = 1), rfl, ⟨_, _, _, u', hy, q1, ?_, ht⟩, fun e => ht.2 ⟨q2 (h4.1 e).1, (h4.1 e).2⟩, fun hp => ⟨_, _, _, u', hy, q1, ?_, ht⟩⟩
    · unfold Bd at h3 ⊢
      split at q3 <;> omega
    · have h2' : i % 2 = 1 := by
        rcases hp with ⟨e2, _⟩ | ⟨_, e⟩
        · exact absurd e2 e
        · exact e
      unfold Bd at h3 ⊢
      split at q3 <;> omega
theorem th_logic (K : k.Ok) (h : Th w W y b x mb fa f0 f1 ix k i t) (r : Int) (e1 : (if t then k.x else k.o) = r) : Calls Tryz.prog 17 #[.pointer (some ⟨b, 0, none⟩), .int .i64 k.s] W fun e W' => e = .returned (.int .i64 r) ∧ W = W' := by
  obtain ⟨M, p0, p1, u, h1, h2, h3, h4⟩ := h
  refine logic_p W b M k.s r h1.yx.pm (h2.ok K).1 ?_
  rw [h2.logic K, ← e1]
  by_cases e : u = true ∧ k.out = 1
  · rw [if_pos e, if_pos (h4.2 e)]
  · rw [if_neg e]
    cases t with
    | true => exact absurd (h4.1 rfl) e
    | false => rfl
/-- Whatever it stands for. -/
def Ty (w : World) (y b x mb fa f0 f1 : Nat) (ix : Ixp) (k : Hc) (i : Nat) (U : World) : Prop := ∃ q, Th w U y b x mb fa f0 f1 ix k i q
theorem Ty.cells (h : Ty w y b x mb fa f0 f1 ix k i W) : W.cell? ⟨y, 0, none⟩ = some (.pointer (some ⟨b, 0, none⟩)) ∧ W.cell? ⟨fa, 0, none⟩ = some (.pointer (some ⟨f0, 0, none⟩)) ∧ W.cell? ⟨fa, 1, none⟩ = some (.pointer (some ⟨f1, 0, none⟩)) := by
  obtain ⟨q, h⟩ := h
  exact h.cells
/-- Within a round, or behind it. -/
def Ty2 (w : World) (y b x mb fa f0 f1 : Nat) (ix : Ixp) (k : Hc) (i : Nat) (U : World) : Prop := Ty w y b x mb fa f0 f1 ix k i U ∨ Ty w y b x mb fa f0 f1 ix k (i + 1) U
theorem Ty2.cells (h : Ty2 w y b x mb fa f0 f1 ix k i W) : W.cell? ⟨y, 0, none⟩ = some (.pointer (some ⟨b, 0, none⟩)) ∧ W.cell? ⟨fa, 0, none⟩ = some (.pointer (some ⟨f0, 0, none⟩)) ∧ W.cell? ⟨fa, 1, none⟩ = some (.pointer (some ⟨f1, 0, none⟩)) := by
  rcases h with h | h
  · exact h.cells
  · exact h.cells
/-- It has gone on from t. -/
def To (w : World) (y b x mb fa f0 f1 : Nat) (ix : Ixp) (k : Hc) (i : Nat) (t : Bool) (U : World) : Prop := ∃ q, Th w U y b x mb fa f0 f1 ix k i q ∧ Up t q
/-- Behind thirty rounds both are at their end. -/
theorem th_end (h : Th w W y b x mb fa f0 f1 ix k 30 t) (f : Nat) (hf : f = f0 ∨ f = f1) : Calls Tryz.prog 41 #[.pointer (some ⟨f, 0, none⟩)] W fun e W' => e = .returned (.bool true) ∧ W = W' := by
  obtain ⟨M, p0, p1, u, h1, h2, h3, h4⟩ := h
  have n7 := h2.n7
  unfold Bd at h3
  rcases hf with rfl | rfl
  · exact hp_done W f p0 h1.a0 true (by have : p0.n = 7 := by omega
                                        simp [this])
  · exact hp_done W f p1 h1.a1 true (by have : p1.n = 7 := by omega
                                        simp [this])
theorem th_t (h : Th w W y b x mb fa f0 f1 ix k 30 t) : t = decide (k.out = 1) := by
  obtain ⟨M, p0, p1, u, h1, h2, h3, h4⟩ := h
  have n7 := h2.n7
  unfold Bd at h3
  have hu : u = true := h2.fin (by omega)
  by_cases e : k.out = 1
  · rw [h4.2 ⟨hu, e⟩]; simp [e]
  · cases t with
    | true => exact absurd (h4.1 rfl).2 e
    | false => simp [e]
theorem th_new {M : Mst} (K : k.Ok) (hM : M = k.m) (h : Yh w W y b x mb fa f0 f1 M ix (Hp.new k.D) (Hp.new k.D)) : Th w W y b x mb fa f0 f1 ix k 0 false := by
  subst hM
  exact ⟨k.m, _, _, false, h, tw_new K, ⟨.inr (by show (((0 + 1) / 2 : Nat) : Int) ≤ 0; decide), .inr (by show ((0 / 2 : Nat) : Int) ≤ 0; decide)⟩, by simp⟩
end
end Go.Proofs.YtibnlaihiahjpaaGreat
