/-
  What holds of the path of chapter 6: it looks at keys that there are, at none twice, and at both between which the key lies; of keys that lie evenly at four at most. Plain lists. No conditions beyond each theorem's own.
-/
import Derived.Test.YtmfpfoikfpcnkaaPaths
namespace Go.Proofs.Ytmfpfoikfpcnkaa

theorem find_own {q : List Int} (h : upB q = true) {i : Nat} {z : Int} (hz : q[i]? = some z) : findN q z = i + 1 ∧ findN q (z - 1) = i := by
  obtain ⟨_, hp⟩ := up_parts h
  have hi := (List.getElem?_eq_some_iff.1 hz).1
  rw [find_up h, find_up h]
  constructor
  · refine cnt_at (by omega) (fun j y hy hj => up_le hp hy hz (by omega)) (fun j y hy hj => up_lt hp hz hy (by omega))
  · refine cnt_at (by omega) (fun j y hy hj => ?_) (fun j y hy hj => ?_)
    · have := up_lt hp hy hz hj
      omega
    · have := up_le hp hz hy hj
      omega
theorem find_all {q : List Int} (h : upB q = true) {k : Int} (hk : ∀ z ∈ q, z ≤ k) : findN q k = q.length := by
  rw [find_up h]
  refine cnt_at (Nat.le_refl _) (fun j y hy _ => hk y (List.mem_of_getElem? hy)) (fun j y hy hj => ?_)
  have := (List.getElem?_eq_some_iff.1 hy).1
  omega

/-! ### Walking up -/
theorem goUp_mem {q : List Int} {k : Int} : ∀ {m i : Nat} {x : Int}, x ∈ goUp q k m i → (i : Int) ≤ x ∧ x < (i : Int) + m
  | 0, _, _, h => by simp [goUp] at h
  | m + 1, i, x, h => by
    rw [goUp] at h
    rcases List.mem_cons.1 h with rfl | h
    · omega
    · split at h
      · simp at h
      · have := goUp_mem h
        omega
theorem goUp_nodup {q : List Int} {k : Int} : ∀ (m i : Nat), (goUp q k m i).Nodup
  | 0, _ => by simp [goUp]
  | m + 1, i => by
    rw [goUp]
    refine List.nodup_cons.2 ⟨fun h => ?_, ?_⟩
    · split at h
      · simp at h
      · have := goUp_mem h
        omega
    · split
      · simp
      · exact goUp_nodup m (i + 1)
/-- It looks at each one up to the first that is above k. -/
theorem goUp_has {q : List Int} {k : Int} : ∀ {m i f : Nat}, i ≤ f → f < i + m → (∀ j, i ≤ j → j < f → q.getD (j - 1) 0 ≤ k) → (f : Int) ∈ goUp q k m i
  | 0, _, _, h1, h2, _ => by omega
  | m + 1, i, f, h1, h2, h3 => by
    rw [goUp]
    rcases Nat.lt_or_ge i f with g | g
    · refine List.mem_cons_of_mem _ ?_
      have := h3 i (Nat.le_refl _) g
      rw [if_neg (by omega)]
      exact goUp_has (by omega) (by omega) (fun j hj hj' => h3 j (by omega) hj')
    · obtain rfl : i = f := by omega
      exact List.mem_cons_self ..

/-! ### Walking down -/
theorem goDown_mem {q : List Int} {k : Int} : ∀ {m : Nat} {x : Int}, x ∈ goDown q k m → 2 ≤ x ∧ x ≤ (m : Int) + 1
  | 0, _, h => by simp [goDown] at h
  | m + 1, x, h => by
    rw [goDown] at h
    rcases List.mem_cons.1 h with rfl | h
    · omega
    · split at h
      · simp at h
      · have := goDown_mem h
        omega
theorem goDown_nodup {q : List Int} {k : Int} : ∀ (m : Nat), (goDown q k m).Nodup
  | 0 => by simp [goDown]
  | m + 1 => by
    rw [goDown]
    refine List.nodup_cons.2 ⟨fun h => ?_, ?_⟩
    · split at h
      · simp at h
      · have := goDown_mem h
        omega
    · split
      · simp
      · exact goDown_nodup m
theorem goDown_has {q : List Int} {k : Int} : ∀ {m f : Nat}, 2 ≤ f → f ≤ m + 1 → (∀ j, f < j → j ≤ m + 1 → k < q.getD (j - 1) 0) → (f : Int) ∈ goDown q k m
  | 0, _, h1, h2, _ => by omega
  | m + 1, f, h1, h2, h3 => by
    rw [goDown]
    rcases Nat.lt_or_ge f (m + 2) with g | g
    · refine List.mem_cons_of_mem _ ?_
      have := h3 (m + 2) g (by omega)
      simp only [Nat.add_succ_sub_one] at this
      rw [if_neg (by omega)]
      exact goDown_has h1 (by omega) (fun j hj hj' => h3 j hj (by omega))
    · obtain rfl : m + 2 = f := by omega
      exact List.mem_cons_self ..

/-! ### The path -/
theorem mid_facts {q : List Int} {k : Int} {n i : Nat} (hp : q.Pairwise (· < ·)) (hn : q.length = n + 1) (hi : i < n) (h0 : ∀ z, q[0]? = some z → z ≤ k) (hl : ∀ z, q[n]? = some z → k < z) :
    (midP q k (i + 1)).Nodup ∧ (∀ x ∈ midP q k (i + 1), 1 ≤ x ∧ x ≤ q.length) ∧ ((cnt q k : Int) ∈ midP q k (i + 1)) ∧ ((cnt q k : Int) + 1 ∈ midP q k (i + 1)) := by
  obtain ⟨z, hz⟩ : ∃ z, q[i]? = some z := ⟨_, List.getElem?_eq_getElem (by omega)⟩
  obtain ⟨x0, hx0⟩ : ∃ z, q[0]? = some z := ⟨_, List.getElem?_eq_getElem (by omega)⟩
  obtain ⟨y0, hy0⟩ : ∃ z, q[n]? = some z := ⟨_, List.getElem?_eq_getElem (by omega)⟩
  have c1 : 0 < cnt q k := (cnt_below hp hx0).2 (h0 _ hx0)
  have c2 : ¬ n < cnt q k := fun h => by have := (cnt_below hp hy0).1 h; have := hl _ hy0; omega
  have hget : ∀ j, j < q.length → (j < cnt q k ↔ q.getD j 0 ≤ k) := fun j hj => by
    have e := List.getElem?_eq_getElem hj
    rw [getD_some e]
    exact cnt_below hp e
  obtain ⟨f, hf⟩ : ∃ f, cnt q k = f := ⟨_, rfl⟩
  rw [hf] at c1 c2 hget ⊢
  by_cases hzk : z ≤ k
  · have hif : i < f := by
      have := (cnt_below (k := k) hp hz).2 hzk
      rwa [hf] at this
    have hasf : i + 1 < f → (f : Int) ∈ goUp q k (q.length - (i + 1 + 1)) (i + 1 + 1) := fun h =>
      goUp_has (by omega) (by omega) (fun j hj hj' => (hget (j - 1) (by omega)).1 (by omega))
    have hasg : f + 1 < q.length → ((f : Int) + 1) ∈ goUp q k (q.length - (i + 1 + 1)) (i + 1 + 1) := fun h => by
      have := goUp_has (q := q) (k := k) (m := q.length - (i + 1 + 1)) (i := i + 1 + 1) (f := f + 1) (by omega) (by omega) (fun j hj hj' => (hget (j - 1) (by omega)).1 (by omega))
      simpa using this
    by_cases hi0 : i = 0
    · subst hi0
      rw [midP_one hz hzk]
      refine ⟨?_, ?_, ?_, ?_⟩
      · simp only [List.cons_append, List.nil_append, List.nodup_cons, List.mem_cons, not_or]
        refine ⟨⟨by omega, fun h => ?_⟩, fun h => ?_, goUp_nodup _ _⟩
        · have := goUp_mem h; omega
        · have := goUp_mem h; omega
      · intro x hx
        simp only [List.cons_append, List.nil_append, List.mem_cons] at hx
        rcases hx with rfl | rfl | hx
        · omega
        · omega
        · have := goUp_mem hx; omega
      · simp only [List.cons_append, List.nil_append, List.mem_cons]
        rcases Nat.lt_or_ge 1 f with g | g
        · exact .inr (.inr (hasf g))
        · exact .inl (by omega)
      · simp only [List.cons_append, List.nil_append, List.mem_cons]
        rcases Nat.lt_or_ge (f + 1) q.length with g | g
        · exact .inr (.inr (hasg g))
        · exact .inr (.inl (by omega))
    · rw [midP_up (by omega) hz hzk]
      refine ⟨?_, ?_, ?_, ?_⟩
      · simp only [List.cons_append, List.nil_append, List.nodup_cons, List.mem_cons, not_or]
        refine ⟨⟨by omega, by omega, fun h => ?_⟩, ⟨by omega, fun h => ?_⟩, fun h => ?_, goUp_nodup _ _⟩
        · have := goUp_mem h; omega
        · have := goUp_mem h; omega
        · have := goUp_mem h; omega
      · intro x hx
        simp only [List.cons_append, List.nil_append, List.mem_cons] at hx
        rcases hx with rfl | rfl | rfl | hx
        · omega
        · omega
        · omega
        · have := goUp_mem hx; omega
      · simp only [List.cons_append, List.nil_append, List.mem_cons]
        rcases Nat.lt_or_ge (i + 1) f with g | g
        · exact .inr (.inr (.inr (hasf g)))
        · exact .inr (.inr (.inl (by omega)))
      · simp only [List.cons_append, List.nil_append, List.mem_cons]
        rcases Nat.lt_or_ge (f + 1) q.length with g | g
        · exact .inr (.inr (.inr (hasg g)))
        · exact .inr (.inl (by omega))
  · have hif : ¬ i < f := by
      have := (cnt_below (k := k) hp hz)
      rw [hf] at this
      omega
    have hi0 : 0 < i := by omega
    have e2 : i + 1 - 2 = i - 1 := by omega
    have hasf : 2 ≤ f → f ≤ i → (f : Int) ∈ goDown q k (i + 1 - 2) := fun h h' =>
      goDown_has h (by omega) (fun j hj hj' => by have := hget (j - 1) (by omega); omega)
    have hasg : f + 1 ≤ i → ((f : Int) + 1) ∈ goDown q k (i + 1 - 2) := fun h => by
      have := goDown_has (q := q) (k := k) (m := i + 1 - 2) (f := f + 1) (by omega) (by omega) (fun j hj hj' => by have := hget (j - 1) (by omega); omega)
      simpa using this
    rw [midP_down hi0 hz hzk]
    refine ⟨?_, ?_, ?_, ?_⟩
    · simp only [List.cons_append, List.nil_append, List.nodup_cons, List.mem_cons, not_or]
      refine ⟨⟨by omega, by omega, fun h => ?_⟩, ⟨by omega, fun h => ?_⟩, fun h => ?_, goDown_nodup _⟩
      · have := goDown_mem h; omega
      · have := goDown_mem h; omega
      · have := goDown_mem h; omega
    · intro x hx
      simp only [List.cons_append, List.nil_append, List.mem_cons] at hx
      rcases hx with rfl | rfl | rfl | hx
      · omega
      · omega
      · omega
      · have := goDown_mem hx; omega
    · simp only [List.cons_append, List.nil_append, List.mem_cons]
      rcases Nat.lt_or_ge 1 f with g | g
      · exact .inr (.inr (.inr (hasf (by omega) (by omega))))
      · exact .inl (by omega)
    · simp only [List.cons_append, List.nil_append, List.mem_cons]
      rcases Nat.lt_or_ge f i with g | g
      · exact .inr (.inr (.inr (hasg (by omega))))
      · exact .inr (.inr (.inl (by omega)))

/-- What the path of a list is like. -/
theorem path_facts {q : List Int} (k : Int) (h : upB q = true) :
    (pathP q k).Nodup ∧ (∀ x ∈ pathP q k, 1 ≤ x ∧ x ≤ q.length) ∧ (cnt q k = 0 ∨ (cnt q k : Int) ∈ pathP q k) ∧ (cnt q k = q.length ∨ (cnt q k : Int) + 1 ∈ pathP q k) := by
  obtain ⟨hl, hp⟩ := up_parts h
  cases hq : q with
  | nil =>
    rw [pathP_nil]
    simp [cnt]
  | cons x0 r =>
    rw [← hq]
    obtain ⟨n, hn⟩ : ∃ n, q.length = n + 1 := ⟨r.length, by rw [hq]; rfl⟩
    have hx : q[0]? = some x0 := by rw [hq]; rfl
    obtain ⟨y, hy⟩ : ∃ z, q[n]? = some z := ⟨_, List.getElem?_eq_getElem (by omega)⟩
    have bx := cnt_below (k := k) hp hx
    have bY := cnt_below (k := k) hp hy
    have bl := cnt_le q k
    by_cases h2 : k < x0
    · rw [pathP_one h hx (.inl h2)]
      have e : cnt q k = 0 := by omega
      rw [e]
      refine ⟨by simp, fun x hx => ?_, .inl rfl, .inr (by simp)⟩
      obtain rfl : x = 1 := by simpa using hx
      omega
    · by_cases h1 : n = 0
      · subst h1
        rw [pathP_one h hx (.inr hn)]
        have e : cnt q k = 1 := by omega
        rw [e]
        refine ⟨by simp, fun x hx => ?_, .inr (by simp), .inl (by omega)⟩
        obtain rfl : x = 1 := by simpa using hx
        omega
      · by_cases h3 : y ≤ k
        · rw [pathP_ends h hn (by omega) hx hy (by omega) h3]
          have e : cnt q k = n + 1 := by omega
          rw [e]
          refine ⟨?_, fun x hx => ?_, .inr (by simp), .inl (by omega)⟩
          · simp only [List.nodup_cons, List.mem_cons, List.not_mem_nil, or_false, not_false_eq_true, List.nodup_nil, and_true]
            omega
          · simp only [List.mem_cons, List.not_mem_nil, or_false] at hx
            rcases hx with rfl | rfl <;> omega
        · obtain ⟨i, hgi, hin⟩ := guess_nat (x := x0) (y := y) (k := k) (n := n) (by omega) (by omega) (by omega) (by omega)
          rw [pathP_mid h hn (by omega) hx hy (by omega) h3, hgi]
          have et : ((i : Int) + 1).toNat = i + 1 := by omega
          rw [et]
          have := mid_facts (k := k) hp hn hin (fun z hz => by rw [hx] at hz; cases hz; omega) (fun z hz => by rw [hy] at hz; cases hz; omega)
          exact ⟨this.1, this.2.1, .inr this.2.2.1, .inr this.2.2.2⟩
end Go.Proofs.Ytmfpfoikfpcnkaa
