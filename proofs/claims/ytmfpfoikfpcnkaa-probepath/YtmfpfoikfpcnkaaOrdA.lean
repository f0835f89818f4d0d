/-
  Maps in order as lists of pairs that rise strictly: put, del, get, floor, ceil, what lies between two keys; how each goes over a list cut at a key. Plain lists, over any order that is told by a Bool ('Lin'). No conditions beyond each theorem's own.
-/
namespace Go.Proofs.Ytmfpfoikfpcnkaa
variable {α β : Type}

/-- A strict order of all. -/
structure Lin (lt : α → α → Bool) : Prop where
  irr : ∀ a, lt a a = false
  tr : ∀ {a b c}, lt a b = true → lt b c = true → lt a c = true
  tri : ∀ {a b}, lt a b = false → lt b a = false → a = b

def ltI : Int → Int → Bool := fun a b => decide (a < b)
theorem linI : Lin ltI := ⟨fun a => by simp [ltI], fun h k => by simp [ltI] at *; omega, fun h k => by simp [ltI] at *; omega⟩

variable (lt : α → α → Bool)
def put : List (α × β) → α → β → List (α × β)
  | [], k, v => [(k, v)]
  | x :: l, k, v => if lt k x.1 then (k, v) :: x :: l else if lt x.1 k then x :: put l k v else (k, v) :: l
def del : List (α × β) → α → List (α × β)
  | [], _ => []
  | x :: l, k => if lt k x.1 then x :: l else if lt x.1 k then x :: del l k else l
def get : List (α × β) → α → Option β
  | [], _ => none
  | x :: l, k => if lt k x.1 then none else if lt x.1 k then get l k else some x.2
/-- The last one whose key is not above k. -/
def floor : List (α × β) → α → Option (α × β)
  | [], _ => none
  | x :: l, k => if lt k x.1 then none else match floor l k with | some y => some y | none => some x
/-- The first one whose key is not below k. -/
def ceil : List (α × β) → α → Option (α × β)
  | [], _ => none
  | x :: l, k => if lt x.1 k then ceil l k else some x
/-- Those from lo to hi. -/
def between (l : List (α × β)) (lo hi : α) : List (α × β) := l.filter fun x => !lt x.1 lo && !lt hi x.1

/-- It rises strictly. -/
def Asc (l : List (α × β)) : Prop := l.Pairwise fun x y => lt x.1 y.1 = true

variable {lt}
theorem Lin.asym (L : Lin lt) {a b : α} (h : lt a b = true) : lt b a = false := by
  cases h' : lt b a with
  | false => rfl
  | true =>
    have := L.tr h h'
    rw [L.irr] at this
    cases this

theorem asc_cut {xs ys : List (α × β)} {x : α × β} (h : Asc lt (xs ++ x :: ys)) : Asc lt xs ∧ Asc lt ys ∧ (∀ y ∈ xs, lt y.1 x.1 = true) ∧ ∀ y ∈ ys, lt x.1 y.1 = true := by
  unfold Asc at *
  rw [List.pairwise_append, List.pairwise_cons] at h
  exact ⟨h.1, h.2.1.2, fun y hy => h.2.2 y hy x (List.mem_cons_self ..), h.2.1.1⟩

theorem asc_join (L : Lin lt) {xs ys : List (α × β)} {x : α × β} (h1 : Asc lt xs) (h2 : Asc lt ys) (h3 : ∀ y ∈ xs, lt y.1 x.1 = true) (h4 : ∀ y ∈ ys, lt x.1 y.1 = true) : Asc lt (xs ++ x :: ys) := by
  unfold Asc at *
  rw [List.pairwise_append, List.pairwise_cons]
  refine ⟨h1, ⟨h4, h2⟩, fun a ha b hb => ?_⟩
  rcases List.mem_cons.1 hb with rfl | hb
  · exact h3 a ha
  · exact L.tr (h3 a ha) (h4 b hb)

/-! ### put -/
theorem put_low {xs ys : List (α × β)} {n : α × β} {k : α} {v : β} (h : lt k n.1 = true) : put lt (xs ++ n :: ys) k v = put lt xs k v ++ n :: ys := by
  induction xs with
  | nil => simp [put, h]
  | cons x xs ih =>
    simp only [List.cons_append, put]
    split
    · rfl
    · split
      · rw [ih]; rfl
      · rfl
theorem put_high (L : Lin lt) {xs ys : List (α × β)} {n : α × β} {k : α} {v : β} (h : lt n.1 k = true) (hx : ∀ y ∈ xs, lt y.1 n.1 = true) : put lt (xs ++ n :: ys) k v = xs ++ n :: put lt ys k v := by
  induction xs with
  | nil => simp [put, h, L.asym h]
  | cons x xs ih =>
    have h1 := L.tr (hx x (List.mem_cons_self ..)) h
    simp only [List.cons_append, put, L.asym h1, h1, Bool.false_eq_true, if_false, if_true]
    rw [ih fun y hy => hx y (List.mem_cons_of_mem _ hy)]
theorem put_eq (L : Lin lt) {xs ys : List (α × β)} {n : α × β} {k : α} {v : β} (h : k = n.1) (hx : ∀ y ∈ xs, lt y.1 n.1 = true) : put lt (xs ++ n :: ys) k v = xs ++ (k, v) :: ys := by
  subst h
  induction xs with
  | nil => simp [put, L.irr]
  | cons x xs ih =>
    have h1 := hx x (List.mem_cons_self ..)
    simp only [List.cons_append, put, L.asym h1, h1, Bool.false_eq_true, if_false, if_true]
    rw [ih fun y hy => hx y (List.mem_cons_of_mem _ hy)]
theorem mem_put {xs : List (α × β)} {k : α} {v : β} {y : α × β} (h : y ∈ put lt xs k v) : y = (k, v) ∨ y ∈ xs := by
  induction xs with
  | nil => simpa [put] using h
  | cons x xs ih =>
    unfold put at h
    split at h
    · simpa using h
    · split at h
      · rcases List.mem_cons.1 h with rfl | h
        · exact .inr (List.mem_cons_self ..)
        · exact (ih h).imp id (List.mem_cons_of_mem _)
      · rcases List.mem_cons.1 h with rfl | h
        · exact .inl rfl
        · exact .inr (List.mem_cons_of_mem _ h)
theorem asc_put (L : Lin lt) {xs : List (α × β)} {k : α} {v : β} (h : Asc lt xs) : Asc lt (put lt xs k v) := by
  induction xs with
  | nil => simp [put, Asc]
  | cons x xs ih =>
    unfold Asc at *
    obtain ⟨h1, h2⟩ := List.pairwise_cons.1 h
    unfold put
    split
    · rename_i hk
      refine List.pairwise_cons.2 ⟨fun y hy => ?_, h⟩
      rcases List.mem_cons.1 hy with rfl | hy
      · exact hk
      · exact L.tr hk (h1 y hy)
    · rename_i hk
      split
      · rename_i hk'
        refine List.pairwise_cons.2 ⟨fun y hy => ?_, ih h2⟩
        rcases mem_put hy with rfl | hy
        · exact hk'
        · exact h1 y hy
      · rename_i hk'
        have e : k = x.1 := L.tri (by simpa using hk) (by simpa using hk')
        subst e
        exact List.pairwise_cons.2 ⟨fun y hy => h1 y hy, h2⟩
theorem length_put {xs : List (α × β)} {k : α} {v : β} : (put lt xs k v).length = match get lt xs k with | some _ => xs.length | none => xs.length + 1 := by
  induction xs with
  | nil => simp [put, get]
  | cons x xs ih =>
    unfold put get
    split
    · simp
    · split
      · simp only [List.length_cons, ih]
        split <;> rfl
      · simp
theorem length_put_le {xs : List (α × β)} {k : α} {v : β} : (put lt xs k v).length ≤ xs.length + 1 := by
  induction xs with
  | nil => simp [put]
  | cons x xs ih =>
    unfold put
    split
    · simp
    · split
      · simp only [List.length_cons]; omega
      · simp

/-! ### del -/
theorem del_low {xs ys : List (α × β)} {n : α × β} {k : α} (h : lt k n.1 = true) : del lt (xs ++ n :: ys) k = del lt xs k ++ n :: ys := by
  induction xs with
  | nil => simp [del, h]
  | cons x xs ih =>
    simp only [List.cons_append, del]
    split
    · rfl
    · split
      · rw [ih]; rfl
      · rfl
theorem del_high (L : Lin lt) {xs ys : List (α × β)} {n : α × β} {k : α} (h : lt n.1 k = true) (hx : ∀ y ∈ xs, lt y.1 n.1 = true) : del lt (xs ++ n :: ys) k = xs ++ n :: del lt ys k := by
  induction xs with
  | nil => simp [del, h, L.asym h]
  | cons x xs ih =>
    have h1 := L.tr (hx x (List.mem_cons_self ..)) h
    simp only [List.cons_append, del, L.asym h1, h1, Bool.false_eq_true, if_false, if_true]
    rw [ih fun y hy => hx y (List.mem_cons_of_mem _ hy)]
theorem del_eq (L : Lin lt) {xs ys : List (α × β)} {n : α × β} {k : α} (h : k = n.1) (hx : ∀ y ∈ xs, lt y.1 n.1 = true) : del lt (xs ++ n :: ys) k = xs ++ ys := by
  subst h
  induction xs with
  | nil => simp [del, L.irr]
  | cons x xs ih =>
    have h1 := hx x (List.mem_cons_self ..)
    simp only [List.cons_append, del, L.asym h1, h1, Bool.false_eq_true, if_false, if_true]
    rw [ih fun y hy => hx y (List.mem_cons_of_mem _ hy)]
theorem del_sub {xs : List (α × β)} {k : α} : (del lt xs k).Sublist xs := by
  induction xs with
  | nil => exact List.Sublist.refl _
  | cons x xs ih =>
    unfold del
    split
    · exact List.Sublist.refl _
    · split
      · exact ih.cons_cons _
      · exact List.sublist_cons_self ..
theorem asc_del {xs : List (α × β)} {k : α} (h : Asc lt xs) : Asc lt (del lt xs k) := List.Pairwise.sublist del_sub h
theorem length_del {xs : List (α × β)} {k : α} : (del lt xs k).length = match get lt xs k with | some _ => xs.length - 1 | none => xs.length := by
  induction xs with
  | nil => simp [del, get]
  | cons x xs ih =>
    unfold del get
    split
    · simp
    · split
      · simp only [List.length_cons, ih]
        cases hg : get lt xs k with
        | none => rfl
        | some v =>
          simp only []
          cases xs with
          | nil => simp [get] at hg
          | cons y ys => simp
      · simp
theorem del_none {xs : List (α × β)} {k : α} (h : get lt xs k = none) : del lt xs k = xs := by
  induction xs with
  | nil => rfl
  | cons x xs ih =>
    unfold get at h
    unfold del
    split
    · rfl
    · rename_i h1
      rw [if_neg h1] at h
      split
      · rename_i h2
        rw [if_pos h2] at h
        rw [ih h]
      · rename_i h2
        rw [if_neg h2] at h
        cases h

/-! ### get -/
theorem get_low {xs ys : List (α × β)} {n : α × β} {k : α} (h : lt k n.1 = true) : get lt (xs ++ n :: ys) k = get lt xs k := by
  induction xs with
  | nil => simp [get, h]
  | cons x xs ih =>
    simp only [List.cons_append, get]
    split
    · rfl
    · split
      · exact ih
      · rfl
theorem get_high (L : Lin lt) {xs ys : List (α × β)} {n : α × β} {k : α} (h : lt n.1 k = true) (hx : ∀ y ∈ xs, lt y.1 n.1 = true) : get lt (xs ++ n :: ys) k = get lt ys k := by
  induction xs with
  | nil => simp [get, h, L.asym h]
  | cons x xs ih =>
    have h1 := L.tr (hx x (List.mem_cons_self ..)) h
    simp only [List.cons_append, get, L.asym h1, h1, Bool.false_eq_true, if_false, if_true]
    exact ih fun y hy => hx y (List.mem_cons_of_mem _ hy)
theorem get_eq (L : Lin lt) {xs ys : List (α × β)} {n : α × β} {k : α} (h : k = n.1) (hx : ∀ y ∈ xs, lt y.1 n.1 = true) : get lt (xs ++ n :: ys) k = some n.2 := by
  subst h
  induction xs with
  | nil => simp [get, L.irr]
  | cons x xs ih =>
    have h1 := hx x (List.mem_cons_self ..)
    simp only [List.cons_append, get, L.asym h1, h1, Bool.false_eq_true, if_false, if_true]
    exact ih fun y hy => hx y (List.mem_cons_of_mem _ hy)

/-! ### floor, ceil -/
theorem floor_low {xs ys : List (α × β)} {n : α × β} {k : α} (h : lt k n.1 = true) : floor lt (xs ++ n :: ys) k = floor lt xs k := by
  induction xs with
  | nil => simp [floor, h]
  | cons x xs ih => simp only [List.cons_append, floor, ih]
theorem floor_high (L : Lin lt) {xs ys : List (α × β)} {n : α × β} {k : α} (h : lt k n.1 = false) (hx : ∀ y ∈ xs, lt y.1 n.1 = true) : floor lt (xs ++ n :: ys) k = match floor lt ys k with | some y => some y | none => some n := by
  induction xs with
  | nil => simp [floor, h]
  | cons x xs ih =>
    have h0 := hx x (List.mem_cons_self ..)
    have h1 : lt k x.1 = false := by
      cases h' : lt k x.1 with
      | false => rfl
      | true =>
        have := L.tr h' h0
        rw [h] at this
        cases this
    simp only [List.cons_append, floor, h1, Bool.false_eq_true, if_false]
    rw [ih fun y hy => hx y (List.mem_cons_of_mem _ hy)]
    cases floor lt ys k <;> rfl
theorem ceil_low {xs ys : List (α × β)} {n : α × β} {k : α} (h : lt n.1 k = false) : ceil lt (xs ++ n :: ys) k = match ceil lt xs k with | some y => some y | none => some n := by
  induction xs with
  | nil => simp [ceil, h]
  | cons x xs ih =>
    simp only [List.cons_append, ceil]
    split
    · exact ih
    · rfl
theorem ceil_high (L : Lin lt) {xs ys : List (α × β)} {n : α × β} {k : α} (h : lt n.1 k = true) (hx : ∀ y ∈ xs, lt y.1 n.1 = true) : ceil lt (xs ++ n :: ys) k = ceil lt ys k := by
  induction xs with
  | nil => simp [ceil, h]
  | cons x xs ih =>
    have h1 := L.tr (hx x (List.mem_cons_self ..)) h
    simp only [List.cons_append, ceil, h1, if_true]
    exact ih fun y hy => hx y (List.mem_cons_of_mem _ hy)
end Go.Proofs.Ytmfpfoikfpcnkaa
