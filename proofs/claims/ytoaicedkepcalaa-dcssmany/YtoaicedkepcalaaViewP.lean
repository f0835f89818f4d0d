/-
  Chapter 9 in plain: what a slot stands for, what is sound (by fuel), what lies below a word; no number of the program but the kinds'.
-/
import Derived.Test.YtoaicedkepcalaaRef
import Derived.Test.YtoaicedkepcalaaCell
namespace Go.Proofs.Ytoaicedkepcalaa
open Go.RowKit

/-- A number that fits an int64. -/
def I64 (z : Int) : Prop := -9223372036854775808 ≤ z ∧ z ≤ 9223372036854775807
theorem I64.wf {z : Int} (h : I64 z) : (Lit.int .i64 z).wf = true := by
  obtain ⟨h1, h2⟩ := h
  have e1 : IntKind.i64.min = -9223372036854775808 := by decide
  have e2 : IntKind.i64.max = 9223372036854775807 := by decide
  simp [Lit.wf, e1, e2] <;> omega
namespace Mst
/-- All cells hold an int64. -/
def ok (s : Mst) : Prop := (∀ z ∈ s.xs, I64 z) ∧ s.xs.length ≤ 65536
theorem ok.look {s : Mst} (h : s.ok) (a : Int) : I64 (s.look a) := by
  unfold Mst.look
  split
  · rw [List.getD_eq_getElem?_getD]
    cases e : s.xs[(a - 1).toNat]? with
    | none => exact ⟨by decide, by decide⟩
    | some z => exact h.1 z (List.mem_of_getElem? e)
  · exact ⟨by decide, by decide⟩
def logicZ (s : Mst) (a : Int) : Int :=
  if Rf.kindZ (s.look a) = 5 then (if s.look (Rf.atZ (s.look a) + 4) = 1 then s.look (Rf.atZ (s.look a) + 3) else s.look (Rf.atZ (s.look a) + 2)) else s.look a
theorem ok.logic {s : Mst} (h : s.ok) (a : Int) : I64 (s.logicZ a) := by
  unfold logicZ; split
  · split <;> exact h.look _
  · exact h.look _
end Mst
abbrev kd := Rf.kindZ
abbrev ad := Rf.atZ
theorem kd_range (w : Int) : 0 ≤ kd w ∧ kd w ≤ 5 := by
  unfold kd Rf.kindZ Rf.rt; split
  · rename_i h; simp at h; omega
  · omega
theorem ad_range (w : Int) : 0 ≤ ad w ∧ ad w ≤ 65536 := by
  unfold ad Rf.atZ Rf.rt; split
  · rename_i h; simp at h; omega
  · omega
theorem ad_pos {w : Int} (h : kd w ≠ 0) : 1 ≤ ad w := by
  unfold kd Rf.kindZ at h; unfold ad Rf.atZ
  split
  · rename_i h'; unfold Rf.rt at h'; simp at h'; omega
  · rename_i h'; rw [if_neg h'] at h; exact absurd rfl h

/-- Which cells are taken. -/
abbrev Tk := Nat → Bool
def takeT (t : Tk) (a n : Nat) : Tk := fun j => t j || decide (a ≤ j ∧ j < a + n)
def freeB (t : Tk) (a n : Nat) : Bool := (List.range n).all (fun i => !t (a + i))
def takeO (N : Nat) (t : Tk) (a n : Nat) : Option Tk := if (decide (1 ≤ n) && decide (a + n ≤ N) && freeB t a n) = true then some (takeT t a n) else none
def freeN (N : Nat) (t : Tk) : Nat := (List.range N).countP (fun j => !t j)

theorem freeB_zero (t : Tk) (a : Nat) : freeB t a 0 = true := rfl
theorem freeB_succ (t : Tk) (a n : Nat) : freeB t a (n + 1) = (freeB t a n && !t (a + n)) := by
  simp [freeB, List.range_succ, List.all_append]
theorem freeB_false {t : Tk} {a n m : Nat} (h : freeB t a n = false) (hm : n ≤ m) : freeB t a m = false := by
  induction m with
  | zero => have := Nat.le_zero.1 hm; subst this; exact h
  | succ m ih =>
    by_cases e : n = m + 1
    · subst e; exact h
    · rw [freeB_succ, ih (by omega)]; rfl
theorem takeT_zero (t : Tk) (a : Nat) : takeT t a 0 = t := by
  funext j; simp [takeT]; intro h h'; omega
theorem takeT_succ (t : Tk) (a n : Nat) : (fun j => if j = a + n then true else takeT t a n j) = takeT t a (n + 1) := by
  funext j; unfold takeT
  by_cases e : j = a + n
  · subst e; simp
  · simp only [e, if_false]
    have : (a ≤ j ∧ j < a + n) ↔ (a ≤ j ∧ j < a + (n + 1)) := by omega
    rw [decide_eq_decide.2 this]
theorem takeT_at (t : Tk) (a n : Nat) : takeT t a n (a + n) = t (a + n) := by
  simp [takeT]

theorem countP_le' (p q : Nat → Bool) (h : ∀ j, p j = true → q j = true) (N : Nat) : (List.range N).countP p ≤ (List.range N).countP q := by
  induction N with
  | zero => simp
  | succ N ih =>
    rw [List.range_succ, List.countP_append, List.countP_append]
    have : [N].countP p ≤ [N].countP q := by
      simp only [List.countP_cons, List.countP_nil]
      by_cases e : p N = true
      · simp [e, h N e]
      · simp [e]
    omega
theorem countP_lt' (p q : Nat → Bool) (h : ∀ j, p j = true → q j = true) (N a : Nat) (ha : a < N) (hp : p a = false) (hq : q a = true) : (List.range N).countP p < (List.range N).countP q := by
  induction N with
  | zero => omega
  | succ N ih =>
    rw [List.range_succ, List.countP_append, List.countP_append]
    by_cases e : a = N
    · subst e
      have := countP_le' p q h a
      simp [hp, hq]; omega
    · have h1 := ih (by omega)
      have : [N].countP p ≤ [N].countP q := by
        simp only [List.countP_cons, List.countP_nil]
        by_cases e : p N = true
        · simp [e, h N e]
        · simp [e]
      omega
theorem takeO_free {N : Nat} {t t' : Tk} {a n : Nat} (h : takeO N t a n = some t') : freeN N t' < freeN N t := by
  unfold takeO at h
  split at h
  · rename_i c
    simp only [Bool.and_eq_true, decide_eq_true_eq] at c
    obtain ⟨⟨c1, c2⟩, c3⟩ := c
    simp only [Option.some.injEq] at h
    subst h
    have c4 : t a = false := by
      unfold freeB at c3
      rw [List.all_eq_true] at c3
      have := c3 0 (by simp; omega)
      simpa using this
    refine countP_lt' _ _ ?_ N a (by omega) ?_ ?_
    · intro j hj; simp only [takeT, Bool.not_or, Bool.and_eq_true] at hj; exact hj.1
    · simp [takeT]; omega
    · simp [c4]
  · cases h

/-- Steps one behind the other, each of which may fail. -/
def chain {α : Type} (g : Nat → α → Option α) : Nat → α → Option α
  | 0, x => some x
  | n + 1, x => (chain g n x).bind (g n)
theorem chain_none {α : Type} {g : Nat → α → Option α} {x : α} {n m : Nat} (h : chain g n x = none) (hm : n ≤ m) : chain g m x = none := by
  induction m with
  | zero => have := Nat.le_zero.1 hm; subst this; exact h
  | succ m ih =>
    by_cases e : n = m + 1
    · subst e; exact h
    · rw [chain, ih (by omega)]; rfl
theorem chain_some {α : Type} {g : Nat → α → Option α} {x y : α} {n m : Nat} (h : chain g n x = some y) (hm : m ≤ n) : ∃ z, chain g m x = some z := by
  cases e : chain g m x with
  | none => rw [chain_none e hm] at h; cases h
  | some z => exact ⟨z, rfl⟩

section
variable (s : Mst)
/-- The i-th key of the Inner at a (from 1 on), and its bounds. -/
def ky (a : Nat) (i : Nat) : Int := s.look ((a : Int) + 4 + i)
def lowZ (a : Nat) (lo : Int) (i : Nat) : Int := if i = 0 then lo else ky s a i
def highZ (a d : Nat) (hi : Int) (i : Nat) : Int := if i + 1 < d then ky s a (i + 1) - 1 else hi
def keysB (a d : Nat) (lo hi : Int) : Bool := (List.range (d - 1)).all (fun i => decide (lowZ s a lo i < ky s a (i + 1)) && decide (ky s a (i + 1) ≤ hi))
def shutB (a : Nat) : Bool := (s.look ((a : Int) + 2) == 0) || (s.look ((a : Int) + 2) == 1)
/-- What stands in a slot may: its Dcss. -/
def dcssB (slot : Int) : Bool := !(kd (s.look slot) == 5) || (decide (ad (s.look slot) + 4 ≤ (s.xs.length : Int)) && (s.look (ad (s.look slot) + 1) == slot))
def sndSlot (W : Int → Int → Int → Tk → Option Tk) (slot lo hi : Int) (t : Tk) : Option Tk := if dcssB s slot = true then W (s.logicZ slot) lo hi t else none
def childS (a d i : Nat) : Int := (a : Int) + 4 + d + i
def kidG (W : Int → Int → Int → Tk → Option Tk) (a d : Nat) (lo hi : Int) : Nat → Tk → Option Tk := fun i t => sndSlot s W (childS a d i) (lowZ s a lo i) (highZ s a d hi i) t
def sndInner (W : Int → Int → Int → Tk → Option Tk) (a : Nat) (lo hi : Int) (t : Tk) : Option Tk :=
  if s.look a < 2 then none else
  (takeO (s.xs.length + 1) t a (2 * (s.look a).toNat + 4)).bind fun t1 =>
  if (keysB s a (s.look a).toNat lo hi && shutB s a) = true then chain (kidG s W a (s.look a).toNat lo hi) (s.look a).toNat t1 else none
def sndW : Nat → Int → Int → Int → Tk → Option Tk
  | 0 => fun _ _ _ _ => none
  | f + 1 => fun w lo hi t =>
    if kd w = 1 then takeO (s.xs.length + 1) t (ad w).toNat 1
    else if kd w = 2 then (if lo ≤ s.look (ad w) ∧ s.look (ad w) ≤ hi then takeO (s.xs.length + 1) t (ad w).toNat 2 else none)
    else if kd w = 3 then sndInner s (sndW f) (ad w).toNat lo hi t
    else if kd w = 4 then (if kd (s.look (ad w)) = 3 then (takeO (s.xs.length + 1) t (ad w).toNat 5).bind fun t1 => sndW f (s.look (ad w)) lo hi t1 else none)
    else none
def base0 : Tk := takeT (fun _ => false) 1 6
def fuel : Nat := s.xs.length + 3
def soundB : Bool := decide (6 ≤ s.xs.length) && (s.look 1 == 1) && (s.look 3 == 0) && (sndSlot s (sndW s (fuel s)) 6 (-9223372036854775808) 9223372036854775807 base0).isSome
end

/-- Going on never frees a cell. -/
def Mono (N : Nat) (W : Int → Int → Int → Tk → Option Tk) : Prop := ∀ w lo hi t t', W w lo hi t = some t' → freeN N t' ≤ freeN N t
theorem sndSlot_free {s : Mst} {N : Nat} {W : Int → Int → Int → Tk → Option Tk} (hW : Mono N W) {slot lo hi : Int} {t t' : Tk} (h : sndSlot s W slot lo hi t = some t') : freeN N t' ≤ freeN N t := by
  unfold sndSlot at h; split at h
  · exact hW _ _ _ _ _ h
  · cases h
theorem chain_free {s : Mst} {N : Nat} {W : Int → Int → Int → Tk → Option Tk} (hW : Mono N W) {a d : Nat} {lo hi : Int} {n : Nat} {t t' : Tk} (h : chain (kidG s W a d lo hi) n t = some t') : freeN N t' ≤ freeN N t := by
  induction n generalizing t' with
  | zero => simp [chain] at h; subst h; exact Nat.le_refl _
  | succ n ih =>
    rw [chain, Option.bind_eq_some_iff] at h
    obtain ⟨u, h1, h2⟩ := h
    exact Nat.le_trans (sndSlot_free hW h2) (ih h1)
theorem sndW_free (s : Mst) : ∀ f, Mono (s.xs.length + 1) (sndW s f)
  | 0 => fun _ _ _ _ _ h => by cases h
  | f + 1 => fun w lo hi t t' h => by
    have ih := sndW_free s f
    unfold sndW at h
    split at h
    · exact Nat.le_of_lt (takeO_free h)
    · split at h
      · split at h
        · exact Nat.le_of_lt (takeO_free h)
        · cases h
      · split at h
        · unfold sndInner at h
          split at h
          · cases h
          · rw [Option.bind_eq_some_iff] at h
            obtain ⟨t1, h1, h2⟩ := h
            split at h2
            · exact Nat.le_trans (chain_free ih h2) (Nat.le_of_lt (takeO_free h1))
            · cases h2
        · split at h
          · split at h
            · rw [Option.bind_eq_some_iff] at h
              obtain ⟨t1, h1, h2⟩ := h
              exact Nat.le_trans (ih _ _ _ _ _ h2) (Nat.le_of_lt (takeO_free h1))
            · cases h
          · cases h
theorem freeN_le (N : Nat) (t : Tk) : freeN N t ≤ N := by
  have := List.countP_le_length (p := fun j => !t j) (l := List.range N)
  simpa [freeN] using this

/-- The keys asked one by one, with the children between: the same. -/
def docG (s : Mst) (W : Int → Int → Int → Tk → Option Tk) (a d : Nat) (lo hi : Int) : Nat → Tk → Option Tk := fun i t =>
  if i + 1 < d ∧ ¬ (lowZ s a lo i < ky s a (i + 1) ∧ ky s a (i + 1) ≤ hi) then none else kidG s W a d lo hi i t
theorem doc_chain (s : Mst) (W : Int → Int → Int → Tk → Option Tk) (a d : Nat) (lo hi : Int) (t : Tk) : chain (docG s W a d lo hi) d t = if keysB s a d lo hi = true then chain (kidG s W a d lo hi) d t else none := by
  by_cases hk : keysB s a d lo hi = true
  · rw [if_pos hk]
    have hk' := List.all_eq_true.1 hk
    have : ∀ n, n ≤ d → chain (docG s W a d lo hi) n t = chain (kidG s W a d lo hi) n t := by
      intro n
      induction n with
      | zero => intro _; rfl
      | succ n ih =>
        intro hn
        rw [chain, chain, ih (by omega)]
        congr 1
        funext u
        unfold docG
        rw [if_neg]
        rintro ⟨h1, h2⟩
        have := hk' n (by simp; omega)
        simp only [Bool.and_eq_true, decide_eq_true_eq] at this
        exact h2 this
    exact this d (Nat.le_refl _)
  · rw [if_neg hk]
    have : ∃ i, i < d - 1 ∧ ¬ (lowZ s a lo i < ky s a (i + 1) ∧ ky s a (i + 1) ≤ hi) := by
      apply Classical.byContradiction
      intro hn
      apply hk
      apply List.all_eq_true.2
      intro i hi'
      simp only [List.mem_range] at hi'
      simp only [Bool.and_eq_true, decide_eq_true_eq]
      apply Classical.byContradiction
      intro h'
      exact hn ⟨i, hi', h'⟩
    obtain ⟨i, h1, h2⟩ := this
    have h3 : chain (docG s W a d lo hi) (i + 1) t = none := by
      rw [chain]
      cases chain (docG s W a d lo hi) i t with
      | none => rfl
      | some u => show docG s W a d lo hi i u = none; unfold docG; rw [if_pos ⟨by omega, h2⟩]
    exact chain_none h3 (by omega)
end Go.Proofs.Ytoaicedkepcalaa
