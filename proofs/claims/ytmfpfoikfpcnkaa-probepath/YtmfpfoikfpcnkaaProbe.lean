/-
  Chapter 6 as functions of lists of whole numbers: rising lists, how many are not above a key, the guess, the path; what holds of them. No Go in sight. No conditions beyond each theorem's own.
-/
import Derived.Test.YtmfpfoikfpcnkaaPlain
namespace Go.Proofs.Ytmfpfoikfpcnkaa

/-- A list of strictly ascending keys, not too long. -/
def Up (q : List Int) : Prop := q.length ≤ 65536 ∧ q.Pairwise (· < ·)
instance (q : List Int) : Decidable (Up q) := inferInstanceAs (Decidable (_ ∧ _))
def upB (q : List Int) : Bool := decide (Up q)
/-- How many are not above k. -/
def cnt (q : List Int) (k : Int) : Nat := q.countP (fun z => decide (z ≤ k))
def findN (q : List Int) (k : Int) : Nat := if Up q then cnt q k else 0
def guessZ (a b k n : Int) : Int := if 2 ≤ n ∧ n ≤ 65536 ∧ a ≤ k ∧ k < b then 1 + shareZ (gapZ a k) (gapZ a b) (n - 1) else 0
/-- From i on up to the first one above k; m: how many there are ahead of the last. -/
def goUp (q : List Int) (k : Int) : Nat → Nat → List Int
  | 0, _ => []
  | m + 1, i => (i : Int) :: if k < q.getD (i - 1) 0 then [] else goUp q k m (i + 1)
/-- From m + 1 on down to the first one that is not above k, but not to 1. -/
def goDown (q : List Int) (k : Int) : Nat → List Int
  | 0 => []
  | m + 1 => ((m + 2 : Nat) : Int) :: if q.getD (m + 1) 0 ≤ k then [] else goDown q k m
/-- The path where k lies between the first and the last key. -/
def midP (q : List Int) (k : Int) (j : Nat) : List Int :=
  (1 : Int) :: (q.length : Int) :: ((if 1 < j then [(j : Int)] else []) ++ if q.getD (j - 1) 0 ≤ k then goUp q k (q.length - (j + 1)) (j + 1) else goDown q k (j - 2))
def pathP (q : List Int) (k : Int) : List Int :=
  if Up q then
    match q with
    | [] => []
    | x :: r =>
      if k < x ∨ r = [] then [1]
      else if q.getD (q.length - 1) 0 ≤ k then [1, (q.length : Int)]
      else midP q k (guessZ x (q.getD (q.length - 1) 0) k q.length).toNat
  else []

/-! ### Rising lists -/
theorem take_snoc' {q : List Int} {k : Nat} {z : Int} (h : q[k]? = some z) : q.take (k + 1) = q.take k ++ [z] := by
  obtain ⟨h1, rfl⟩ := List.getElem?_eq_some_iff.1 h
  exact List.take_succ_eq_append_getElem h1
theorem pw_snoc {q : List Int} {k : Nat} {y z : Int} (h : (q.take (k + 1)).Pairwise (· < ·)) (hy : q[k]? = some y) (hz : q[k + 1]? = some z) (hyz : y < z) : (q.take (k + 2)).Pairwise (· < ·) := by
  rw [take_snoc' hz, List.pairwise_append]
  refine ⟨h, by simp, fun a ha b hb => ?_⟩
  obtain rfl : b = z := by simpa using hb
  rw [take_snoc' hy] at h ha
  rw [List.pairwise_append] at h
  rcases List.mem_append.1 ha with ha | ha
  · have := h.2.2 a ha y (by simp)
    omega
  · obtain rfl : a = y := by simpa using ha
    exact hyz
theorem pw_not {q : List Int} {k : Nat} {y z : Int} (hy : q[k]? = some y) (hz : q[k + 1]? = some z) (hyz : z ≤ y) : ¬ q.Pairwise (· < ·) := by
  intro h
  obtain ⟨h1, e1⟩ := List.getElem?_eq_some_iff.1 hy
  obtain ⟨h2, e2⟩ := List.getElem?_eq_some_iff.1 hz
  have := List.pairwise_iff_getElem.1 h k (k + 1) h1 h2 (by omega)
  omega
theorem up_lt {q : List Int} (h : q.Pairwise (· < ·)) {i j : Nat} {y z : Int} (hy : q[i]? = some y) (hz : q[j]? = some z) (hij : i < j) : y < z := by
  obtain ⟨h1, e1⟩ := List.getElem?_eq_some_iff.1 hy
  obtain ⟨h2, e2⟩ := List.getElem?_eq_some_iff.1 hz
  have := List.pairwise_iff_getElem.1 h i j h1 h2 hij
  omega
theorem up_le {q : List Int} (h : q.Pairwise (· < ·)) {i j : Nat} {y z : Int} (hy : q[i]? = some y) (hz : q[j]? = some z) (hij : i ≤ j) : y ≤ z := by
  rcases Nat.lt_or_ge i j with g | g
  · exact Int.le_of_lt (up_lt h hy hz g)
  · obtain rfl : i = j := by omega
    rw [hy] at hz
    cases hz
    exact Int.le_refl _

/-! ### How many are not above -/
theorem cnt_snoc {q : List Int} {k z : Int} {n : Nat} (h : q[n]? = some z) : cnt (q.take (n + 1)) k = cnt (q.take n) k + if z ≤ k then 1 else 0 := by
  rw [take_snoc' h]
  unfold cnt
  rw [List.countP_append]
  simp [List.countP_cons]
theorem cnt_le (q : List Int) (k : Int) : cnt q k ≤ q.length := List.countP_le_length
theorem cnt_take_le (q : List Int) (k : Int) (n : Nat) : cnt (q.take n) k ≤ n := by
  have := cnt_le (q.take n) k
  rw [List.length_take] at this
  omega
/-- Where the keys up to p are not above k and those behind it are. -/
theorem cnt_at {q : List Int} {k : Int} {p : Nat} (hp : p ≤ q.length) (h1 : ∀ j z, q[j]? = some z → j < p → z ≤ k) (h2 : ∀ j z, q[j]? = some z → p ≤ j → k < z) : cnt q k = p := by
  have e : q = q.take p ++ q.drop p := (List.take_append_drop p q).symm
  unfold cnt
  rw [e, List.countP_append]
  have e1 : (q.take p).countP (fun z => decide (z ≤ k)) = p := by
    have : (q.take p).length = p := by rw [List.length_take]; omega
    rw [List.countP_eq_length.2, this]
    intro z hz
    obtain ⟨i, hi, rfl⟩ := List.getElem_of_mem hz
    rw [List.length_take] at hi
    simp only [decide_eq_true_eq, List.getElem_take]
    exact h1 i _ (List.getElem?_eq_getElem (by omega)) (by omega)
  have e2 : (q.drop p).countP (fun z => decide (z ≤ k)) = 0 := by
    rw [List.countP_eq_zero]
    intro z hz
    obtain ⟨i, hi, rfl⟩ := List.getElem_of_mem hz
    rw [List.length_drop] at hi
    simp only [decide_eq_true_eq, List.getElem_drop]
    have := h2 (p + i) _ (List.getElem?_eq_getElem (by omega)) (by omega)
    omega
  rw [e1, e2, Nat.add_zero]
theorem cnt_below {q : List Int} {k : Int} (h : q.Pairwise (· < ·)) {j : Nat} {z : Int} (hz : q[j]? = some z) : (j < cnt q k ↔ z ≤ k) := by
  induction q generalizing j with
  | nil => simp at hz
  | cons x q ih =>
    obtain ⟨h1, h2⟩ := List.pairwise_cons.1 h
    have hc : cnt (x :: q) k = cnt q k + if x ≤ k then 1 else 0 := by
      unfold cnt
      rw [List.countP_cons]
      simp
    rw [hc]
    cases j with
    | zero =>
      obtain rfl : x = z := by simpa using hz
      by_cases g : x ≤ k
      · simp [g]
      · have : cnt q k = 0 := by
          unfold cnt
          rw [List.countP_eq_zero]
          intro y hy
          have := h1 y hy
          simp only [decide_eq_true_eq]
          omega
        simp [g, this]
    | succ j =>
      have hz' : q[j]? = some z := by simpa using hz
      have := ih h2 hz'
      obtain ⟨hj, ez⟩ := List.getElem?_eq_some_iff.1 hz'
      have hx : x < z := h1 z (by rw [← ez]; exact List.getElem_mem hj)
      by_cases g : x ≤ k
      · rw [if_pos g, ← this]
        omega
      · rw [if_neg g]
        constructor
        · intro hlt
          have := this.1 (by omega)
          omega
        · intro hlt
          omega

/-! ### The guess -/
theorem guess_none {a b k n : Int} (h : ¬ (2 ≤ n ∧ n ≤ 65536 ∧ a ≤ k ∧ k < b)) : guessZ a b k n = 0 := if_neg h
theorem guess_some {a b k n : Int} (h : 2 ≤ n ∧ n ≤ 65536 ∧ a ≤ k ∧ k < b) : guessZ a b k n = 1 + (k - a) * (n - 1) / (b - a) := by
  unfold guessZ
  rw [if_pos h]
  have e1 : gapZ a k = k - a := by simp only [gapZ]; rw [if_neg (by omega)]
  have e2 : gapZ a b = b - a := by simp only [gapZ]; rw [if_neg (by omega)]
  rw [e1, e2]
  unfold shareZ
  rw [if_pos (by omega), show min (k - a) (b - a) = k - a by omega]
theorem guess_bound {a b k n : Int} (h : 2 ≤ n ∧ n ≤ 65536 ∧ a ≤ k ∧ k < b) : 1 ≤ guessZ a b k n ∧ guessZ a b k n ≤ n - 1 := by
  rw [guess_some h]
  have h1 : 0 ≤ (k - a) * (n - 1) := Int.mul_nonneg (by omega) (by omega)
  have h2 : (k - a) * (n - 1) < (n - 1) * (b - a) := by
    rw [Int.mul_comm (n - 1)]
    exact Int.mul_lt_mul_of_pos_right (by omega) (by omega)
  have h3 := Int.ediv_nonneg h1 (show 0 ≤ b - a by omega)
  have h4 := (Int.ediv_lt_iff_lt_mul (show 0 < b - a by omega)).2 h2
  omega
theorem guess_mono {a b k l n : Int} (h : 2 ≤ n ∧ n ≤ 65536 ∧ a ≤ k ∧ k ≤ l ∧ l < b) : guessZ a b k n ≤ guessZ a b l n := by
  rw [guess_some (by omega), guess_some (by omega)]
  have h1 : (k - a) * (n - 1) ≤ (l - a) * (n - 1) := Int.mul_le_mul_of_nonneg_right (by omega) (by omega)
  have := Int.ediv_le_ediv (show 0 < b - a by omega) h1
  omega
theorem guess_first {a b n : Int} (h : 2 ≤ n ∧ n ≤ 65536 ∧ a < b) : guessZ a b a n = 1 := by
  rw [guess_some (by omega), Int.sub_self, Int.zero_mul, Int.zero_ediv]
  rfl
end Go.Proofs.Ytmfpfoikfpcnkaa
