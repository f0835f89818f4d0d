/-
  What the proof of YtgialpjdfeldeaaPlantIdealProof goes by, part 3 of 6: contracts and plain facts; each part begins with its own sentence. No conditions beyond each theorem's own.
-/
import Derived.Test.YtgialpjdfeldeaaIa2
import Derived.Test.YtgialpjdfeldeaaRows
import Derived.Laws.OwnMore
import Derived.Maps.OwnIn
import Derived.WalkKit
import Derived.WalkSmall
import Derived.BigQuiet
import Derived.Deep.QuietTactic
import Derived.Deep.OwnRows
/-! What plant.Build answers at a memory that was made since w ('now_build'); the counts; what known answers, and PlantKnown. No conditions beyond each theorem's own. -/
namespace Go.Proofs.Ytgialpjdfeldeaa
open Go.RowKit
set_option maxRecDepth 20000

theorem count_n (w W : World) (b : Nat) (s : Mst) (r : Int) (h : Now w W b s) (e1 : s.count = r) : Calls Try.prog 13 #[.pointer (some ⟨b, 0, none⟩)] W fun e W' => e = .returned (.int .i64 r) ∧ W = W' := by
  obtain ⟨⟨v, h⟩, hk⟩ := h
  subst e1
  obtain ⟨⟨c0, c1, c2, c3, c4⟩, _⟩ := PMem.opened h
  clear h
  go_enter Try.func13, Try.ntmps13
  go_wp2
  go_ret
  exact ⟨rfl, rfl⟩
theorem refused_n (w W : World) (b : Nat) (s : Mst) (r : Int) (h : Now w W b s) (e1 : s.ref = r) : Calls Try.prog 12 #[.pointer (some ⟨b, 0, none⟩)] W fun e W' => e = .returned (.int .i64 r) ∧ W = W' := by
  obtain ⟨⟨v, h⟩, hk⟩ := h
  subst e1
  obtain ⟨⟨c0, c1, c2, c3, c4⟩, _⟩ := PMem.opened h
  clear h
  go_enter Try.func12, Try.ntmps12
  go_wp2
  go_ret
  exact ⟨rfl, rfl⟩
theorem odd_n (w W : World) (b : Nat) (s : Mst) (r : Int) (h : Now w W b s) (e1 : s.odd = r) : Calls Try.prog 37 #[.pointer (some ⟨b, 0, none⟩)] W fun e W' => e = .returned (.int .i64 r) ∧ W = W' := by
  obtain ⟨⟨v, h⟩, hk⟩ := h
  subst e1
  obtain ⟨⟨c0, c1, c2, c3, c4⟩, _⟩ := PMem.opened h
  clear h
  go_enter Try.func37, Try.ntmps37
  go_wp2
  go_ret
  exact ⟨rfl, rfl⟩
/-- A new block of these pairs. -/
theorem preads_lit (W : World) (ps : List (Int × Int)) (T : TypeId) : PReads (W.alloc (.cells (flat ps).toArray T)) (some ⟨W.heap.size, 0, none⟩) ps := by
  refine .inr ⟨_, 0, rfl, fun j p hp => ?_⟩
  have hb : (W.alloc (.cells (flat ps).toArray T)).heap[W.heap.size]? = some (.cells (flat ps).toArray T) := heap_new W _
  obtain ⟨h1, h2⟩ := flat_at hp
  unfold World.cell?
  rw [hb]
  simp [h1, h2]
/-- Build, at a memory made since w. -/
theorem now_build (w W : World) (b : Nat) (s : Mst) (a : Option Addr) (ps : List (Int × Int)) (M cap : Nat) (h : Now w W b s) (hr : PReads W a ps) (hM : ps.length = M) (hc : M ≤ cap) (hcm : cap ≤ maxLen) (ha : ∀ v, PMem W w.heap.size b v s → ∀ ad, a = some ad → ¬ Foot b v ad.block) (z : Int) (r : Bool) (s' : Mst) (e1 : buildS s ps = ((z, r), s')) :
    Calls Try.prog 11 #[.pointer (some ⟨b, 0, none⟩), .slice a M cap] W fun e W' => e = .returned (.tuple #[.int .i64 z, .bool r]) ∧ Now w W' b s' := by
  obtain ⟨⟨v, h⟩, hk⟩ := h
  exact (build_p W w.heap.size b v s a ps M cap h hk.size hr hM hc hcm (fun _ => ha v h) z r s' e1).mono fun _ _ ⟨h1, h2⟩ => ⟨h1, Now.did h hk h2⟩
/-- .. of a literal. -/
theorem now_blit (w W : World) (b : Nat) (s : Mst) (ps : List (Int × Int)) (M : Nat) (h : Now w W b s) (hM : ps.length = M) (hl : M ≤ 100) (z : Int) (r : Bool) (s' : Mst) (e1 : buildS s ps = ((z, r), s')) :
    Calls Try.prog 11 #[.pointer (some ⟨b, 0, none⟩), .slice (some ⟨W.heap.size, 0, none⟩) M M] (W.alloc (.cells (flat ps).toArray 30)) fun e W' => e = .returned (.tuple #[.int .i64 z, .bool r]) ∧ Now w W' b s' := by
  obtain ⟨⟨v, h0⟩, hk⟩ := id h
  refine now_build w _ b s _ ps M M (h.on (Turned.alloc _ _ _)) (preads_lit W ps 30) hM (Nat.le_refl _) (by unfold maxLen; omega) (fun v' h' ad e hf => ?_) z r s' e1
  cases e
  have e1 := PMem.opened h0
  have e2 := PMem.opened (h0.kept (Turned.alloc (fun _ => False) W (.cells (flat ps).toArray 30)))
  have e3 := PMem.opened h'
  have : v = v' := by
    have := e2.1.1.symm.trans e3.1.1
    exact Option.some.inj this
  subst this
  have := (h0.lt _ hf).2
  simp only at this
  omega

theorem kn_1 : buildS (Mst.new 64) [(1, 10), (2, 20), (3, 30)] = ((123, true), ⟨[1, 10, 2, 20, 2, 2, 0, 0, 0, 2, 10, 26, 3, 30, 2, 3, 0, 0, 0, 3, 43, 106], 64, 5, 0, 0⟩) := by kernel_rfl
theorem known_c (w : World) : Calls Try.prog 10 #[] w fun e w' => e = .returned (.bool true) ∧ Kept w w' := by
  go_enter Try.func10, Try.ntmps10
  go_wp2_with (fail)
  refine (now_new w w 64 (Kept.refl w) (by decide) (by decide)).mono ?_
  rintro e W1 ⟨rfl, h1, -⟩
  have H1 := hide h1
  clear h1
  go_wp2_with (fail)
  refine (now_blit w W1 _ _ [(1, 10), (2, 20), (3, 30)] 3 H1.out rfl (by decide) _ _ _ kn_1).mono ?_
  rintro e W2 ⟨rfl, h2⟩
  have H2 := hide h2
  clear h2 H1
  go_wp2_with (fail)
  refine (now_used w W2 _ _ 22 H2.out rfl).mono ?_
  rintro e W3 ⟨rfl, rfl⟩
  go_wp2_with (fail)
  refine (now_cells w W2 _ _ H2.out).mono ?_
  rintro e W3 ⟨a, cap, rfl, hr, hc, hm, -, -, hk⟩
  have HW := hide (words_lit W3 a _ cap hr hc hm)
  have HK := hide (H2.out.2.trans hk)
  clear hr hc hm hk H2
  go_wp2_with (fail)
  refine HW.out.mono ?_
  rintro e W4 ⟨rfl, k4⟩
  have K4 := hide (HK.out.trans k4)
  clear k4
  go_wp2
  go_ret
  exact ⟨rfl, K4.out⟩

theorem kn_2 : buildS (Mst.new 3) [(1, 0), (1, 0)] = ((0, false), ⟨[], 3, 0, 0, 0⟩) := by kernel_rfl
theorem kn_3 : buildS ⟨[], 3, 0, 0, 0⟩ [(1, 0), (2, 0)] = ((0, false), ⟨[], 3, 0, 0, 0⟩) := by kernel_rfl
theorem kn_4 : buildS ⟨[], 3, 0, 0, 0⟩ [(-9223372036854775808, 4)] = ((10, true), ⟨[-9223372036854775808, 4], 3, 1, 0, 0⟩) := by kernel_rfl
theorem kn_5 : buildS ⟨[-9223372036854775808, 4], 3, 1, 0, 0⟩ [] = ((25, true), ⟨[-9223372036854775808, 4, 0], 3, 2, 0, 0⟩) := by kernel_rfl
theorem kn_6 : buildS ⟨[-9223372036854775808, 4, 0], 3, 2, 0, 0⟩ [] = ((0, false), ⟨[-9223372036854775808, 4, 0], 3, 2, 0, 0⟩) := by kernel_rfl
theorem now_bnil (w W : World) (b : Nat) (s : Mst) (h : Now w W b s) (z : Int) (r : Bool) (s' : Mst) (e1 : buildS s [] = ((z, r), s')) :
    Calls Try.prog 11 #[.pointer (some ⟨b, 0, none⟩), .slice none 0 0] W fun e W' => e = .returned (.tuple #[.int .i64 z, .bool r]) ∧ Now w W' b s' :=
  now_build w W b s none [] 0 0 h (.inl rfl) rfl (Nat.le_refl _) (Nat.zero_le _) (fun _ _ _ e => by cases e) z r s' e1
theorem plantKnown_c (w : World) : Calls Try.prog 3 #[] w fun e w' => e = .returned (.bool true) ∧ Kept w w' := by
  go_enter Try.func3, Try.ntmps3
  go_wp2_with (fail)
  refine (now_new w w 3 (Kept.refl w) (by decide) (by decide)).mono ?_
  rintro e W1 ⟨rfl, h1, -⟩
  have H1 := hide h1
  clear h1
  go_wp2_with (fail)
  refine (known_c _).mono ?_
  rintro e W2 ⟨rfl, k2⟩
  have H2 := hide (H1.out.on k2)
  clear k2 H1
  go_wp2_with (fail)
  refine (now_blit w W2 _ _ [(1, 0), (1, 0)] 2 H2.out rfl (by decide) _ _ _ kn_2).mono ?_
  rintro e W3 ⟨rfl, h3⟩
  have H3 := hide h3
  clear h3 H2
  go_wp2_with (fail)
  refine (now_blit w W3 _ _ [(1, 0), (2, 0)] 2 H3.out rfl (by decide) _ _ _ kn_3).mono ?_
  rintro e W4 ⟨rfl, h4⟩
  have H4 := hide h4
  clear h4 H3
  go_wp2_with (fail)
  refine (now_blit w W4 _ _ [(-9223372036854775808, 4)] 1 H4.out rfl (by decide) _ _ _ kn_4).mono ?_
  rintro e W5 ⟨rfl, h5⟩
  have H5 := hide h5
  clear h5 H4
  go_wp2_with (fail)
  refine (now_bnil w W5 _ _ H5.out _ _ _ kn_5).mono ?_
  rintro e W6 ⟨rfl, h6⟩
  have H6 := hide h6
  clear h6 H5
  go_wp2_with (fail)
  refine (now_bnil w W6 _ _ H6.out _ _ _ kn_6).mono ?_
  rintro e W7 ⟨rfl, h7⟩
  have H7 := hide h7
  clear h7 H6
  go_wp2_with (fail)
  refine (refused_n w W7 _ _ 0 H7.out rfl).mono ?_
  rintro e W ⟨rfl, rfl⟩
  go_wp2_with (fail)
  refine (count_n w W7 _ _ 2 H7.out rfl).mono ?_
  rintro e W ⟨rfl, rfl⟩
  go_wp2_with (fail)
  refine (right_p W7 none [] 0 0 (.inl rfl) rfl (Nat.le_refl _) (Nat.zero_le _) true (by kernel_rfl)).mono ?_
  rintro e W8 ⟨rfl, k8⟩
  have H8 := hide (H7.out.on k8)
  clear k8 H7
  go_wp2_with (fail)
  refine (right_p _ _ [(2, 0), (1, 0)] 2 2 (preads_lit W8 [(2, 0), (1, 0)] 30) rfl (Nat.le_refl _) (by decide) false (by kernel_rfl)).mono ?_
  rintro e W9 ⟨rfl, k9⟩
  have H9 := hide (H8.out.on (((Kept.refl W8).alloc _).trans k9))
  clear k9 H8
  go_wp2_with (fail)
  refine (now_cells w W9 _ _ H9.out).mono ?_
  rintro e WA ⟨a, cap, rfl, hr, hc, hm, -, -, hk⟩
  have HW := hide (words_lit WA a _ cap hr hc hm)
  have HK := hide (H9.out.2.trans hk)
  clear hr hc hm hk H9
  go_wp2_with (fail)
  refine HW.out.mono ?_
  rintro e WB ⟨rfl, k4⟩
  have K4 := hide (HK.out.trans k4)
  clear k4
  go_wp2
  go_ret
  exact ⟨rfl, K4.out⟩
end Go.Proofs.Ytgialpjdfeldeaa

/-! Maps in order as lists of pairs that rise strictly: put, del, get, floor, ceil, what lies between two keys; how each goes over a list cut at a key. Plain lists, over any order that is told by a Bool ('Lin'). No conditions beyond each theorem's own. -/
namespace Go.Proofs.Ytgialpjdfeldeaa.Mp
variable {α β : Type}

/-- A strict order of all. -/
structure Lin (lt : α → α → Bool) : Prop where
  irr : ∀ a, lt a a = false
  tr : ∀ {a b c}, lt a b = true → lt b c = true → lt a c = true
  tri : ∀ {a b}, lt a b = false → lt b a = false → a = b

def ltI : Int → Int → Bool := fun a b => decide (a < b)
theorem linI : Lin ltI := ⟨fun a => by simp [ltI], fun h k => by simp [ltI] at *; omega, fun h k => by simp [ltI] at *; omega⟩

variable (lt : α → α → Bool)
def put : List (α × β) → α → β → List (α × β)
  | [], k, v => [(k, v)]
  | x :: l, k, v => if lt k x.1 then (k, v) :: x :: l else if lt x.1 k then x :: put l k v else (k, v) :: l
def del : List (α × β) → α → List (α × β)
  | [], _ => []
  | x :: l, k => if lt k x.1 then x :: l else if lt x.1 k then x :: del l k else l
def get : List (α × β) → α → Option β
  | [], _ => none
  | x :: l, k => if lt k x.1 then none else if lt x.1 k then get l k else some x.2
/-- The last one whose key is not above k. -/
def floor : List (α × β) → α → Option (α × β)
  | [], _ => none
  | x :: l, k => if lt k x.1 then none else match floor l k with | some y => some y | none => some x
/-- The first one whose key is not below k. -/
def ceil : List (α × β) → α → Option (α × β)
  | [], _ => none
  | x :: l, k => if lt x.1 k then ceil l k else some x
/-- Those from lo to hi. -/
def between (l : List (α × β)) (lo hi : α) : List (α × β) := l.filter fun x => !lt x.1 lo && !lt hi x.1

/-- It rises strictly. -/
def Asc (l : List (α × β)) : Prop := l.Pairwise fun x y => lt x.1 y.1 = true

variable {lt}
theorem Lin.asym (L : Lin lt) {a b : α} (h : lt a b = true) : lt b a = false := by
  cases h' : lt b a with
  | false => rfl
  | true =>
    have := L.tr h h'
    rw [L.irr] at this
    cases this

theorem asc_cut {xs ys : List (α × β)} {x : α × β} (h : Asc lt (xs ++ x :: ys)) : Asc lt xs ∧ Asc lt ys ∧ (∀ y ∈ xs, lt y.1 x.1 = true) ∧ ∀ y ∈ ys, lt x.1 y.1 = true := by
  unfold Asc at *
  rw [List.pairwise_append, List.pairwise_cons] at h
  exact ⟨h.1, h.2.1.2, fun y hy => h.2.2 y hy x (List.mem_cons_self ..), h.2.1.1⟩

theorem asc_join (L : Lin lt) {xs ys : List (α × β)} {x : α × β} (h1 : Asc lt xs) (h2 : Asc lt ys) (h3 : ∀ y ∈ xs, lt y.1 x.1 = true) (h4 : ∀ y ∈ ys, lt x.1 y.1 = true) : Asc lt (xs ++ x :: ys) := by
  unfold Asc at *
  rw [List.pairwise_append, List.pairwise_cons]
  refine ⟨h1, ⟨h4, h2⟩, fun a ha b hb => ?_⟩
  rcases List.mem_cons.1 hb with rfl | hb
  · exact h3 a ha
  · exact L.tr (h3 a ha) (h4 b hb)

/-! ### put -/
theorem put_low {xs ys : List (α × β)} {n : α × β} {k : α} {v : β} (h : lt k n.1 = true) : put lt (xs ++ n :: ys) k v = put lt xs k v ++ n :: ys := by
  induction xs with
  | nil => simp [put, h]
  | cons x xs ih =>
    simp only [List.cons_append, put]
    split
    · rfl
    · split
      · rw [ih]; rfl
      · rfl
theorem put_high (L : Lin lt) {xs ys : List (α × β)} {n : α × β} {k : α} {v : β} (h : lt n.1 k = true) (hx : ∀ y ∈ xs, lt y.1 n.1 = true) : put lt (xs ++ n :: ys) k v = xs ++ n :: put lt ys k v := by
  induction xs with
  | nil => simp [put, h, L.asym h]
  | cons x xs ih =>
    have h1 := L.tr (hx x (List.mem_cons_self ..)) h
    simp only [List.cons_append, put, L.asym h1, h1, Bool.false_eq_true, if_false, if_true]
    rw [ih fun y hy => hx y (List.mem_cons_of_mem _ hy)]
theorem put_eq (L : Lin lt) {xs ys : List (α × β)} {n : α × β} {k : α} {v : β} (h : k = n.1) (hx : ∀ y ∈ xs, lt y.1 n.1 = true) : put lt (xs ++ n :: ys) k v = xs ++ (k, v) :: ys := by
  subst h
  induction xs with
  | nil => simp [put, L.irr]
  | cons x xs ih =>
    have h1 := hx x (List.mem_cons_self ..)
    simp only [List.cons_append, put, L.asym h1, h1, Bool.false_eq_true, if_false, if_true]
    rw [ih fun y hy => hx y (List.mem_cons_of_mem _ hy)]
theorem mem_put {xs : List (α × β)} {k : α} {v : β} {y : α × β} (h : y ∈ put lt xs k v) : y = (k, v) ∨ y ∈ xs := by
  induction xs with
  | nil => simpa [put] using h
  | cons x xs ih =>
    unfold put at h
    split at h
    · simpa using h
    · split at h
      · rcases List.mem_cons.1 h with rfl | h
        · exact .inr (List.mem_cons_self ..)
        · exact (ih h).imp id (List.mem_cons_of_mem _)
      · rcases List.mem_cons.1 h with rfl | h
        · exact .inl rfl
        · exact .inr (List.mem_cons_of_mem _ h)
theorem asc_put (L : Lin lt) {xs : List (α × β)} {k : α} {v : β} (h : Asc lt xs) : Asc lt (put lt xs k v) := by
  induction xs with
  | nil => simp [put, Asc]
  | cons x xs ih =>
    unfold Asc at *
    obtain ⟨h1, h2⟩ := List.pairwise_cons.1 h
    unfold put
    split
    · rename_i hk
      refine List.pairwise_cons.2 ⟨fun y hy => ?_, h⟩
      rcases List.mem_cons.1 hy with rfl | hy
      · exact hk
      · exact L.tr hk (h1 y hy)
    · rename_i hk
      split
      · rename_i hk'
        refine List.pairwise_cons.2 ⟨fun y hy => ?_, ih h2⟩
        rcases mem_put hy with rfl | hy
        · exact hk'
        · exact h1 y hy
      · rename_i hk'
        have e : k = x.1 := L.tri (by simpa using hk) (by simpa using hk')
        subst e
        exact List.pairwise_cons.2 ⟨fun y hy => h1 y hy, h2⟩
theorem length_put {xs : List (α × β)} {k : α} {v : β} : (put lt xs k v).length = match get lt xs k with | some _ => xs.length | none => xs.length + 1 := by
  induction xs with
  | nil => simp [put, get]
  | cons x xs ih =>
    unfold put get
    split
    · simp
    · split
      · simp only [List.length_cons, ih]
        split <;> rfl
      · simp
theorem length_put_le {xs : List (α × β)} {k : α} {v : β} : (put lt xs k v).length ≤ xs.length + 1 := by
  induction xs with
  | nil => simp [put]
  | cons x xs ih =>
    unfold put
    split
    · simp
    · split
      · simp only [List.length_cons]; omega
      · simp

/-! ### del -/
theorem del_low {xs ys : List (α × β)} {n : α × β} {k : α} (h : lt k n.1 = true) : del lt (xs ++ n :: ys) k = del lt xs k ++ n :: ys := by
  induction xs with
  | nil => simp [del, h]
  | cons x xs ih =>
    simp only [List.cons_append, del]
    split
    · rfl
    · split
      · rw [ih]; rfl
      · rfl
theorem del_high (L : Lin lt) {xs ys : List (α × β)} {n : α × β} {k : α} (h : lt n.1 k = true) (hx : ∀ y ∈ xs, lt y.1 n.1 = true) : del lt (xs ++ n :: ys) k = xs ++ n :: del lt ys k := by
  induction xs with
  | nil => simp [del, h, L.asym h]
  | cons x xs ih =>
    have h1 := L.tr (hx x (List.mem_cons_self ..)) h
    simp only [List.cons_append, del, L.asym h1, h1, Bool.false_eq_true, if_false, if_true]
    rw [ih fun y hy => hx y (List.mem_cons_of_mem _ hy)]
theorem del_eq (L : Lin lt) {xs ys : List (α × β)} {n : α × β} {k : α} (h : k = n.1) (hx : ∀ y ∈ xs, lt y.1 n.1 = true) : del lt (xs ++ n :: ys) k = xs ++ ys := by
  subst h
  induction xs with
  | nil => simp [del, L.irr]
  | cons x xs ih =>
    have h1 := hx x (List.mem_cons_self ..)
    simp only [List.cons_append, del, L.asym h1, h1, Bool.false_eq_true, if_false, if_true]
    rw [ih fun y hy => hx y (List.mem_cons_of_mem _ hy)]
theorem del_sub {xs : List (α × β)} {k : α} : (del lt xs k).Sublist xs := by
  induction xs with
  | nil => exact List.Sublist.refl _
  | cons x xs ih =>
    unfold del
    split
    · exact List.Sublist.refl _
    · split
      · exact ih.cons_cons _
      · exact List.sublist_cons_self ..
theorem asc_del {xs : List (α × β)} {k : α} (h : Asc lt xs) : Asc lt (del lt xs k) := List.Pairwise.sublist del_sub h
theorem length_del {xs : List (α × β)} {k : α} : (del lt xs k).length = match get lt xs k with | some _ => xs.length - 1 | none => xs.length := by
  induction xs with
  | nil => simp [del, get]
  | cons x xs ih =>
    unfold del get
    split
    · simp
    · split
      · simp only [List.length_cons, ih]
        cases hg : get lt xs k with
        | none => rfl
        | some v =>
          simp only []
          cases xs with
          | nil => simp [get] at hg
          | cons y ys => simp
      · simp
theorem del_none {xs : List (α × β)} {k : α} (h : get lt xs k = none) : del lt xs k = xs := by
  induction xs with
  | nil => rfl
  | cons x xs ih =>
    unfold get at h
    unfold del
    split
    · rfl
    · rename_i h1
      rw [if_neg h1] at h
      split
      · rename_i h2
        rw [if_pos h2] at h
        rw [ih h]
      · rename_i h2
        rw [if_neg h2] at h
        cases h

/-! ### get -/
theorem get_low {xs ys : List (α × β)} {n : α × β} {k : α} (h : lt k n.1 = true) : get lt (xs ++ n :: ys) k = get lt xs k := by
  induction xs with
  | nil => simp [get, h]
  | cons x xs ih =>
    simp only [List.cons_append, get]
    split
    · rfl
    · split
      · exact ih
      · rfl
theorem get_high (L : Lin lt) {xs ys : List (α × β)} {n : α × β} {k : α} (h : lt n.1 k = true) (hx : ∀ y ∈ xs, lt y.1 n.1 = true) : get lt (xs ++ n :: ys) k = get lt ys k := by
  induction xs with
  | nil => simp [get, h, L.asym h]
  | cons x xs ih =>
    have h1 := L.tr (hx x (List.mem_cons_self ..)) h
    simp only [List.cons_append, get, L.asym h1, h1, Bool.false_eq_true, if_false, if_true]
    exact ih fun y hy => hx y (List.mem_cons_of_mem _ hy)
theorem get_eq (L : Lin lt) {xs ys : List (α × β)} {n : α × β} {k : α} (h : k = n.1) (hx : ∀ y ∈ xs, lt y.1 n.1 = true) : get lt (xs ++ n :: ys) k = some n.2 := by
  subst h
  induction xs with
  | nil => simp [get, L.irr]
  | cons x xs ih =>
    have h1 := hx x (List.mem_cons_self ..)
    simp only [List.cons_append, get, L.asym h1, h1, Bool.false_eq_true, if_false, if_true]
    exact ih fun y hy => hx y (List.mem_cons_of_mem _ hy)

/-! ### floor, ceil -/
theorem floor_low {xs ys : List (α × β)} {n : α × β} {k : α} (h : lt k n.1 = true) : floor lt (xs ++ n :: ys) k = floor lt xs k := by
  induction xs with
  | nil => simp [floor, h]
  | cons x xs ih => simp only [List.cons_append, floor, ih]
theorem floor_high (L : Lin lt) {xs ys : List (α × β)} {n : α × β} {k : α} (h : lt k n.1 = false) (hx : ∀ y ∈ xs, lt y.1 n.1 = true) : floor lt (xs ++ n :: ys) k = match floor lt ys k with | some y => some y | none => some n := by
  induction xs with
  | nil => simp [floor, h]
  | cons x xs ih =>
    have h0 := hx x (List.mem_cons_self ..)
    have h1 : lt k x.1 = false := by
      cases h' : lt k x.1 with
      | false => rfl
      | true =>
        have := L.tr h' h0
        rw [h] at this
        cases this
    simp only [List.cons_append, floor, h1, Bool.false_eq_true, if_false]
    rw [ih fun y hy => hx y (List.mem_cons_of_mem _ hy)]
    cases floor lt ys k <;> rfl
theorem ceil_low {xs ys : List (α × β)} {n : α × β} {k : α} (h : lt n.1 k = false) : ceil lt (xs ++ n :: ys) k = match ceil lt xs k with | some y => some y | none => some n := by
  induction xs with
  | nil => simp [ceil, h]
  | cons x xs ih =>
    simp only [List.cons_append, ceil]
    split
    · exact ih
    · rfl
theorem ceil_high (L : Lin lt) {xs ys : List (α × β)} {n : α × β} {k : α} (h : lt n.1 k = true) (hx : ∀ y ∈ xs, lt y.1 n.1 = true) : ceil lt (xs ++ n :: ys) k = ceil lt ys k := by
  induction xs with
  | nil => simp [ceil, h]
  | cons x xs ih =>
    have h1 := L.tr (hx x (List.mem_cons_self ..)) h
    simp only [List.cons_append, ceil, h1, if_true]
    exact ih fun y hy => hx y (List.mem_cons_of_mem _ hy)
end Go.Proofs.Ytgialpjdfeldeaa.Mp

/-! Maps in order as lists, at whole numbers: what floor, ceil and get tell, by what is in the list. No conditions beyond each theorem's own. -/
namespace Go.Proofs.Ytgialpjdfeldeaa.Mp
variable {β : Type}

theorem ltI_true {a b : Int} : ltI a b = true ↔ a < b := by simp [ltI]
theorem ltI_false {a b : Int} : ltI a b = false ↔ b ≤ a := by simp [ltI]

theorem floor_spec {xs : List (Int × β)} {k : Int} (h : Asc ltI xs) : match floor ltI xs k with
    | none => ∀ y ∈ xs, k < y.1
    | some p => p ∈ xs ∧ p.1 ≤ k ∧ ∀ y ∈ xs, y.1 ≤ k → y.1 ≤ p.1 := by
  induction xs with
  | nil => simp [floor]
  | cons x xs ih =>
    obtain ⟨h1, h2⟩ := List.pairwise_cons.1 h
    have ih := ih h2
    unfold floor
    by_cases hx : k < x.1
    · rw [if_pos (ltI_true.2 hx)]
      intro y hy
      rcases List.mem_cons.1 hy with rfl | hy
      · exact hx
      · have := ltI_true.1 (h1 y hy)
        omega
    · rw [if_neg (by rw [ltI_true]; exact hx)]
      cases hf : floor ltI xs k with
      | none =>
        rw [hf] at ih
        refine ⟨List.mem_cons_self .., by omega, fun y hy hk => ?_⟩
        rcases List.mem_cons.1 hy with rfl | hy
        · omega
        · have := ih y hy
          omega
      | some p =>
        rw [hf] at ih
        refine ⟨List.mem_cons_of_mem _ ih.1, ih.2.1, fun y hy hk => ?_⟩
        rcases List.mem_cons.1 hy with rfl | hy
        · have := ltI_true.1 (h1 p ih.1)
          omega
        · exact ih.2.2 y hy hk

theorem ceil_spec {xs : List (Int × β)} {k : Int} (h : Asc ltI xs) : match ceil ltI xs k with
    | none => ∀ y ∈ xs, y.1 < k
    | some p => p ∈ xs ∧ k ≤ p.1 ∧ ∀ y ∈ xs, k ≤ y.1 → p.1 ≤ y.1 := by
  induction xs with
  | nil => simp [ceil]
  | cons x xs ih =>
    obtain ⟨h1, h2⟩ := List.pairwise_cons.1 h
    have ih := ih h2
    unfold ceil
    by_cases hx : x.1 < k
    · rw [if_pos (ltI_true.2 hx)]
      cases hf : ceil ltI xs k with
      | none =>
        rw [hf] at ih
        intro y hy
        rcases List.mem_cons.1 hy with rfl | hy
        · exact hx
        · exact ih y hy
      | some p =>
        rw [hf] at ih
        refine ⟨List.mem_cons_of_mem _ ih.1, ih.2.1, fun y hy hk => ?_⟩
        rcases List.mem_cons.1 hy with rfl | hy
        · omega
        · exact ih.2.2 y hy hk
    · rw [if_neg (by rw [ltI_true]; exact hx)]
      refine ⟨List.mem_cons_self .., by omega, fun y hy hk => ?_⟩
      rcases List.mem_cons.1 hy with rfl | hy
      · omega
      · have := ltI_true.1 (h1 y hy)
        omega

theorem get_none {xs : List (Int × β)} {k : Int} (h : Asc ltI xs) (hg : get ltI xs k = none) : ∀ y ∈ xs, y.1 ≠ k := by
  induction xs with
  | nil => simp
  | cons x xs ih =>
    obtain ⟨h1, h2⟩ := List.pairwise_cons.1 h
    unfold get at hg
    by_cases hx : k < x.1
    · intro y hy
      rcases List.mem_cons.1 hy with rfl | hy
      · omega
      · have := ltI_true.1 (h1 y hy)
        omega
    · rw [if_neg (by rw [ltI_true]; exact hx)] at hg
      by_cases hx' : x.1 < k
      · rw [if_pos (ltI_true.2 hx')] at hg
        intro y hy
        rcases List.mem_cons.1 hy with rfl | hy
        · omega
        · exact ih h2 hg y hy
      · rw [if_neg (by rw [ltI_true]; exact hx')] at hg
        cases hg
theorem get_some {xs : List (Int × β)} {k : Int} {v : β} (hg : get ltI xs k = some v) : (k, v) ∈ xs := by
  induction xs with
  | nil => simp [get] at hg
  | cons x xs ih =>
    unfold get at hg
    by_cases hx : k < x.1
    · rw [if_pos (ltI_true.2 hx)] at hg
      cases hg
    · rw [if_neg (by rw [ltI_true]; exact hx)] at hg
      by_cases hx' : x.1 < k
      · rw [if_pos (ltI_true.2 hx')] at hg
        exact List.mem_cons_of_mem _ (ih hg)
      · rw [if_neg (by rw [ltI_true]; exact hx')] at hg
        cases hg
        have e : k = x.1 := by omega
        rw [e]
        exact List.mem_cons_self ..

/-- What lies near a key: the key itself; or what is below it, and what is above. -/
theorem near_cases {xs : List (Int × Int)} (k : Int) (h : Asc ltI xs) :
    (∃ v u t, get ltI xs k = some v ∧ floor ltI xs k = some (k, u) ∧ ceil ltI xs k = some (k, t)) ∨
    (get ltI xs k = none ∧ (∀ y ∈ xs, y.1 ≠ k) ∧ ((floor ltI xs k = none ∧ ∀ y ∈ xs, k < y.1) ∨ ∃ a u, floor ltI xs k = some (a, u) ∧ a < k ∧ ∀ y ∈ xs, y.1 ≤ k → y.1 ≤ a) ∧
      ((ceil ltI xs k = none ∧ ∀ y ∈ xs, y.1 < k) ∨ ∃ b t, ceil ltI xs k = some (b, t) ∧ k < b ∧ ∀ y ∈ xs, k ≤ y.1 → b ≤ y.1)) := by
  have hf := floor_spec (k := k) h
  have hc := ceil_spec (k := k) h
  cases hg : get ltI xs k with
  | some v =>
    have hm := get_some hg
    refine .inl ⟨v, ?_⟩
    cases hF : floor ltI xs k with
    | none =>
      rw [hF] at hf
      have := hf _ hm
      simp at this
    | some p =>
      rw [hF] at hf
      have e1 := hf.2.2 _ hm (Int.le_refl _)
      have e2 := hf.2.1
      cases hC : ceil ltI xs k with
      | none =>
        rw [hC] at hc
        have := hc _ hm
        simp at this
      | some q =>
        rw [hC] at hc
        have e3 := hc.2.2 _ hm (Int.le_refl _)
        have e4 := hc.2.1
        simp only at e1 e3
        exact ⟨p.2, q.2, rfl, by rw [show p = (k, p.2) from Prod.ext (by simp; omega) rfl], by rw [show q = (k, q.2) from Prod.ext (by simp; omega) rfl]⟩
  | none =>
    have hn := get_none h hg
    refine .inr ⟨rfl, hn, ?_, ?_⟩
    · cases hF : floor ltI xs k with
      | none =>
        rw [hF] at hf
        exact .inl ⟨rfl, hf⟩
      | some p =>
        rw [hF] at hf
        have := hn p hf.1
        exact .inr ⟨p.1, p.2, rfl, by have := hf.2.1; omega, hf.2.2⟩
    · cases hC : ceil ltI xs k with
      | none =>
        rw [hC] at hc
        exact .inl ⟨rfl, hc⟩
      | some q =>
        rw [hC] at hc
        have := hn q hc.1
        exact .inr ⟨q.1, q.2, rfl, by have := hc.2.1; omega, hc.2.2⟩
end Go.Proofs.Ytgialpjdfeldeaa.Mp

/-! Maps in order as lists, at whole numbers, by the place of a key: how many keys are below it. No conditions beyond each theorem's own. -/
namespace Go.Proofs.Ytgialpjdfeldeaa.Mp

/-- How many keys, from the first on, are below k. -/
def place (xs : List (Int × Int)) (k : Int) : Nat := (xs.takeWhile fun p => decide (p.1 < k)).length
theorem place_nil (k : Int) : place [] k = 0 := rfl
theorem place_cons (x : Int × Int) (xs : List (Int × Int)) (k : Int) : place (x :: xs) k = if x.1 < k then place xs k + 1 else 0 := by
  unfold place
  by_cases h : x.1 < k <;> simp [h]
theorem place_le : (xs : List (Int × Int)) → (k : Int) → place xs k ≤ xs.length
  | [], _ => Nat.le_refl _
  | x :: xs, k => by
    have := place_le xs k
    rw [place_cons]
    simp only [List.length_cons]
    split <;> omega
theorem place_below : {xs : List (Int × Int)} → {k : Int} → {j : Nat} → {p : Int × Int} → j < place xs k → xs[j]? = some p → p.1 < k
  | [], _, _, _, h, _ => by simp [place_nil] at h
  | x :: xs, k, j, p, h, hp => by
    rw [place_cons] at h
    split at h
    · rename_i hx
      cases j with
      | zero =>
        obtain rfl : x = p := by simpa using hp
        exact hx
      | succ j => exact place_below (xs := xs) (j := j) (by omega) (by simpa using hp)
    · omega
theorem place_stop : {xs : List (Int × Int)} → {k : Int} → {p : Int × Int} → xs[place xs k]? = some p → k ≤ p.1
  | [], _, _, h => by simp at h
  | x :: xs, k, p, h => by
    rw [place_cons] at h
    split at h
    · exact place_stop (xs := xs) (by simpa using h)
    · obtain rfl : x = p := by simpa using h
      omega

/-- Whether the key at its place is k. -/
def hit (xs : List (Int × Int)) (k : Int) : Bool := match xs[place xs k]? with | some p => p.1 == k | none => false

theorem get_place : (xs : List (Int × Int)) → (k : Int) → get ltI xs k = if hit xs k then (xs[place xs k]?).map Prod.snd else none
  | [], k => by simp [get, hit]
  | x :: xs, k => by
    have ih := get_place xs k
    unfold get
    by_cases h1 : k < x.1
    · have e : hit (x :: xs) k = false := by
        have : place (x :: xs) k = 0 := by rw [place_cons, if_neg (by omega)]
        simp only [hit, this, List.getElem?_cons_zero, beq_eq_false_iff_ne, ne_eq]
        omega
      rw [if_pos (ltI_true.2 h1), e]
      rfl
    · rw [if_neg (by rw [ltI_true]; exact h1)]
      by_cases h2 : x.1 < k
      · have : place (x :: xs) k = place xs k + 1 := by rw [place_cons, if_pos h2]
        have e : hit (x :: xs) k = hit xs k := by simp only [hit, this, List.getElem?_cons_succ]
        rw [if_pos (ltI_true.2 h2), ih, e, this, List.getElem?_cons_succ]
      · have : place (x :: xs) k = 0 := by rw [place_cons, if_neg h2]
        have e : x.1 = k := by omega
        rw [if_neg (by rw [ltI_true]; exact h2)]
        simp [hit, this, e]
theorem put_place : (xs : List (Int × Int)) → (k v : Int) → put ltI xs k v = xs.take (place xs k) ++ (k, v) :: xs.drop (if hit xs k then place xs k + 1 else place xs k)
  | [], k, v => by simp [put, place_nil]
  | x :: xs, k, v => by
    have ih := put_place xs k v
    unfold put
    by_cases h1 : k < x.1
    · have hp : place (x :: xs) k = 0 := by rw [place_cons, if_neg (by omega)]
      have e : hit (x :: xs) k = false := by
        simp only [hit, hp, List.getElem?_cons_zero, beq_eq_false_iff_ne, ne_eq]
        omega
      rw [if_pos (ltI_true.2 h1), e, hp]
      rfl
    · rw [if_neg (by rw [ltI_true]; exact h1)]
      by_cases h2 : x.1 < k
      · have hp : place (x :: xs) k = place xs k + 1 := by rw [place_cons, if_pos h2]
        have e : hit (x :: xs) k = hit xs k := by simp only [hit, hp, List.getElem?_cons_succ]
        rw [if_pos (ltI_true.2 h2), ih, e, hp]
        cases hit xs k <;> simp
      · have hp : place (x :: xs) k = 0 := by rw [place_cons, if_neg h2]
        have e : hit (x :: xs) k = true := by
          simp only [hit, hp, List.getElem?_cons_zero, beq_iff_eq]
          omega
        rw [if_neg (by rw [ltI_true]; exact h2), e, hp]
        simp
theorem del_place : (xs : List (Int × Int)) → (k : Int) → del ltI xs k = xs.take (place xs k) ++ xs.drop (if hit xs k then place xs k + 1 else place xs k)
  | [], k => by simp [del]
  | x :: xs, k => by
    have ih := del_place xs k
    unfold del
    by_cases h1 : k < x.1
    · have hp : place (x :: xs) k = 0 := by rw [place_cons, if_neg (by omega)]
      have e : hit (x :: xs) k = false := by
        simp only [hit, hp, List.getElem?_cons_zero, beq_eq_false_iff_ne, ne_eq]
        omega
      rw [if_pos (ltI_true.2 h1), e, hp]
      rfl
    · rw [if_neg (by rw [ltI_true]; exact h1)]
      by_cases h2 : x.1 < k
      · have hp : place (x :: xs) k = place xs k + 1 := by rw [place_cons, if_pos h2]
        have e : hit (x :: xs) k = hit xs k := by simp only [hit, hp, List.getElem?_cons_succ]
        rw [if_pos (ltI_true.2 h2), ih, e, hp]
        cases hit xs k <;> simp
      · have hp : place (x :: xs) k = 0 := by rw [place_cons, if_neg h2]
        have e : hit (x :: xs) k = true := by
          simp only [hit, hp, List.getElem?_cons_zero, beq_iff_eq]
          omega
        rw [if_neg (by rw [ltI_true]; exact h2), e, hp]
        simp
theorem ceil_place : (xs : List (Int × Int)) → (k : Int) → ceil ltI xs k = xs[place xs k]?
  | [], k => rfl
  | x :: xs, k => by
    have ih := ceil_place xs k
    unfold ceil
    by_cases h : x.1 < k
    · rw [if_pos (ltI_true.2 h), ih, place_cons, if_pos h]
      simp
    · rw [if_neg (by rw [ltI_true]; exact h), place_cons, if_neg h]
      simp
theorem floor_place {xs : List (Int × Int)} (k : Int) (ha : Asc ltI xs) : floor ltI xs k = if hit xs k then xs[place xs k]? else if place xs k = 0 then none else xs[place xs k - 1]? := by
  induction xs with
  | nil => simp [floor, hit, place_nil]
  | cons x xs ih =>
    obtain ⟨a1, a2⟩ := List.pairwise_cons.1 ha
    have ih := ih a2
    unfold floor
    by_cases h1 : k < x.1
    · have hp : place (x :: xs) k = 0 := by rw [place_cons, if_neg (by omega)]
      have e : hit (x :: xs) k = false := by
        simp only [hit, hp, List.getElem?_cons_zero, beq_eq_false_iff_ne, ne_eq]
        omega
      rw [if_pos (ltI_true.2 h1), e, hp]
      rfl
    · rw [if_neg (by rw [ltI_true]; exact h1)]
      by_cases h2 : x.1 < k
      · have hp : place (x :: xs) k = place xs k + 1 := by rw [place_cons, if_pos h2]
        have e : hit (x :: xs) k = hit xs k := by simp only [hit, hp, List.getElem?_cons_succ]
        rw [ih, e, hp]
        cases hh : hit xs k with
        | true =>
          simp only [if_true, List.getElem?_cons_succ]
          cases hg : xs[place xs k]? with
          | none => simp [hit, hg] at hh
          | some p => rfl
        | false =>
          simp only [Bool.false_eq_true, if_false, Nat.add_one_ne_zero, Nat.add_sub_cancel]
          by_cases h0 : place xs k = 0
          · rw [if_pos h0, h0]
            rfl
          · rw [if_neg h0]
            obtain ⟨q, hq⟩ : ∃ q, place xs k = q + 1 := ⟨place xs k - 1, by omega⟩
            have hl := place_le xs k
            rw [hq]
            simp only [Nat.add_sub_cancel, List.getElem?_cons_succ]
            rw [List.getElem?_eq_getElem (by omega)]
      · have hp : place (x :: xs) k = 0 := by rw [place_cons, if_neg h2]
        have e : hit (x :: xs) k = true := by
          simp only [hit, hp, List.getElem?_cons_zero, beq_iff_eq]
          omega
        have hf : floor ltI xs k = none := by
          cases xs with
          | nil => rfl
          | cons y ys =>
            unfold floor
            rw [if_pos (ltI_true.2 (by have := ltI_true.1 (a1 y (List.mem_cons_self ..)); omega))]
        rw [hf, e, hp]
        rfl
end Go.Proofs.Ytgialpjdfeldeaa.Mp

/-! Slices of pairs: how they read ('PReads'); what the document's Place and Put answer, of pairs in a slice that owns its row; nothing that lay is turned. -/
namespace Go.Proofs.Ytgialpjdfeldeaa.Mp
open Go.RowKit

/-- A slice value that reads as these pairs, from its block's beginning on. -/
def PReads (w : World) (a : Option Addr) (xs : List (Int × Int)) : Prop :=
  xs = [] ∨ ∃ bl, a = some ⟨bl, 0, none⟩ ∧ ∀ j p, xs[j]? = some p → w.cell? ⟨bl, j * 2, none⟩ = some (.int .i64 p.1) ∧ w.cell? ⟨bl, j * 2 + 1, none⟩ = some (.int .i64 p.2)
theorem PReads.turned {w w' : World} {a : Option Addr} {xs : List (Int × Int)} (h : PReads w a xs) {R : Nat → Prop} (ht : Turned R w w') (hR : ∀ k, (Value.slice a 0 0).ownBlock = some k → ¬ R k) : PReads w' a xs := by
  rcases h with h | ⟨bl, rfl, h⟩
  · exact .inl h
  · refine .inr ⟨bl, rfl, fun j p hp => ?_⟩
    have hn := hR bl rfl
    exact ⟨ht.cell (h j p hp).1 hn, ht.cell (h j p hp).2 hn⟩
theorem PReads.kept {w w' : World} {a : Option Addr} {xs : List (Int × Int)} (h : PReads w a xs) (ht : Kept w w') : PReads w' a xs := h.turned ht (fun _ _ e => e)
theorem PReads.at {w : World} {a : Option Addr} {xs : List (Int × Int)} (h : PReads w a xs) {j : Nat} {p : Int × Int} (hp : xs[j]? = some p) : ∃ bl, a = some ⟨bl, 0, none⟩ ∧ bl < w.heap.size ∧ w.cell? ⟨bl, j * 2, none⟩ = some (.int .i64 p.1) ∧ w.cell? ⟨bl, j * 2 + 1, none⟩ = some (.int .i64 p.2) := by
  rcases h with h | ⟨bl, ha, hc⟩
  · rw [h] at hp
    simp at hp
  · exact ⟨bl, ha, World.block_lt_of_cell? _ _ (hc j p hp).1, hc j p hp⟩

/-- A slice of pairs that owns its row reads as they are. -/
theorem preads_of_row {w : World} {n₀ : Nat} {v : Value} {xs : List (Int × Int)} (h : w.ownsRow n₀ 30 2 v xs.length (flat xs)) : ∃ a cap, v = .slice a xs.length cap ∧ PReads w a xs ∧ xs.length ≤ cap := by
  rcases h.2 with ⟨rfl, h0⟩ | ⟨g, cap, cur, rfl, _, _, hc, _⟩
  · obtain rfl := List.length_eq_zero_iff.1 h0
    exact ⟨none, 0, rfl, .inl rfl, Nat.le_refl _⟩
  · refine ⟨_, cap, rfl, .inr ⟨g, rfl, fun j p hp => ?_⟩, hc⟩
    have hj := (List.getElem?_eq_some_iff.1 hp).1
    rw [h.cellAt (j * 2) (by omega), h.cellAt (j * 2 + 1) (by omega)]
    exact flat_at hp

theorem info47 : (Try.prog.info? 30).map (fun i => (i.zero, i.size, i.bytes)) = some (some (.agg #[.int .i64 0, .int .i64 0]), 2, 16) := by kernel_rfl

/-- Behind an append to a row that is new since w, what lay at w lies as it lay. -/
theorem kept_append {w wr w1 : World} {v : Value} {xs : List (Int × Int)} {tmp : Obj} (k : Kept w wr) (hr : wr.ownsRow w.heap.size 30 2 v xs.length (flat xs)) (hg : (wr.alloc tmp).grownBy w1 v.ownBlock) : Kept w w1 :=
  Turned.trans (k.trans (Turned.alloc _ _ tmp)) (Turned.of_grownBy (R := fun j => v.ownBlock = some j) hg (fun _ h => h)) (fun _ h => h) (fun i hi h => by have := (hr.lt i h).1; omega)
theorem kept_append0 {w wr w1 : World} {v : Value} {xs : List (Int × Int)} (k : Kept w wr) (hr : wr.ownsRow w.heap.size 30 2 v xs.length (flat xs)) (hg : wr.grownBy w1 v.ownBlock) : Kept w w1 :=
  Turned.trans k (Turned.of_grownBy (R := fun j => v.ownBlock = some j) hg (fun _ h => h)) (fun _ h => h) (fun i hi h => by have := (hr.lt i h).1; omega)

/-- Two cells of a new block. -/
theorem two_newR (w : World) (x y : Int) : ∀ (j : Nat) (u : Value), [Value.int .i64 x, .int .i64 y][j]? = some u → (w.alloc (.cells #[.int .i64 x, .int .i64 y] 30)).cell? ((⟨w.heap.size, 0, none⟩ : Addr).add j) = some u := by
  intro j u h
  have hb : (w.alloc (.cells #[.int .i64 x, .int .i64 y] 30)).heap[w.heap.size]? = some (.cells #[.int .i64 x, .int .i64 y] 30) := heap_new w _
  have c : ∀ i, (w.alloc (.cells #[.int .i64 x, .int .i64 y] 30)).cell? ⟨w.heap.size, i, none⟩ = #[Value.int .i64 x, .int .i64 y][i]? := fun i => by
    unfold World.cell?
    rw [hb]
    rfl
  rcases j with _ | _ | j
  · simp at h
    subst h
    exact c 0
  · simp at h
    subst h
    exact c 1
  · simp at h

/-- A new slice of these pairs. -/
def PSliced (xs : List (Int × Int)) (w : World) (e : Ending) (w' : World) : Prop := ∃ v, e = .returned v ∧ w'.ownsRow w.heap.size 30 2 v xs.length (flat xs) ∧ Kept w w'

theorem wpList_append_none {P : Program} {w : World} {ops : Array Oper} {rest : List Oper} {o : Oper} {a : Act} {Q : Exit → Act → World → Prop} (hgd : o.guard = none) (s x : Operand) (t : TypeId)
    (ho : o.op = .call { callee := .builtin .append, args := #[s, x], argTypes := #[t, t] })
    (base : Nat) (e : TypeId) (i : TypeInfo) (size : Nat) (ht : P.underlying t = some (.slice e)) (hi : P.info? e = some i)
    (v : Value) (n : Nat) (xs : List Value) (hs : a.eval s = v) (hown : w.ownsRow base e size v n xs) (hx : a.eval x = .slice none 0 0)
    (h : wpList P ops Q rest (a.put o.dst v) w) : wpList P ops Q (o :: rest) a w := by
  refine wpList_plain hgd fun K hK => ?_
  have hr := run_append_owned_none (P := P) (w := w) base t o.type e i size ht hi v n xs hown
  unfold Oper.wp execOp
  simp only [ho, resolve, invoke, builtin, Sem.run_bind, Sem.run_pure, Result.andThen_ok, List.map_toArray, List.map_cons, List.map_nil, hs, hx, hr]
  exact hK _ _ h

/-- A new row without an element. -/
theorem prow_new (w : World) : (w.alloc (.cells #[] 30)).ownsRow w.heap.size 30 2 (.slice (some ⟨w.heap.size, 0, none⟩) 0 0) ([] : List (Int × Int)).length (flat []) :=
  ⟨rfl, .inr ⟨w.heap.size, 0, #[], rfl, Nat.le_refl _, heap_new w _, Nat.le_refl _, Nat.zero_le _, rfl, rfl⟩⟩

/-- The cells of a part of a row, where they lie. -/
theorem src_cells {w w' : World} {n₀ g cap : Nat} {xs : List (Int × Int)} (h : w.ownsRow n₀ 30 2 (.slice (some ⟨g, 0, none⟩) xs.length cap) xs.length (flat xs)) (k : Kept w w') (q m : Nat) :
    ∀ (j : Nat) (u : Value), (flat ((xs.drop q).take m))[j]? = some u → w'.cell? ((⟨g, q * 2, none⟩ : Addr).add j) = some u := by
  intro j u hu
  have hq : q ≤ xs.length := by
    by_cases hq : q ≤ xs.length
    · exact hq
    · rw [List.drop_eq_nil_of_le (by omega)] at hu
      simp [flat] at hu
  have e : flat xs = flat (xs.take q) ++ (flat ((xs.drop q).take m) ++ flat ((xs.drop q).drop m)) := by
    rw [← flat_append, List.take_append_drop, ← flat_append, List.take_append_drop]
  have hj := (List.getElem?_eq_some_iff.1 hu).1
  have l1 : (flat (xs.take q)).length = q * 2 := by rw [flat_length, List.length_take]; congr 1; omega
  have hx : (flat xs)[q * 2 + j]? = some u := by
    rw [e, List.getElem?_append_right (by omega), l1, Nat.add_sub_cancel_left, List.getElem?_append_left hj]
    exact hu
  have hlt : q * 2 + j < xs.length * 2 := by
    have := (List.getElem?_eq_some_iff.1 hx).1
    rwa [flat_length] at this
  have hc := h.cellAt (q * 2 + j) hlt
  rw [hx] at hc
  rw [Go.WideShapes.add_plain]
  exact k.cell hc id

set_option maxRecDepth 100000 in
theorem place_c (w : World) (a : Option Addr) (xs : List (Int × Int)) (cap : Nat) (k : Int) (hr : PReads w a xs) (hc : xs.length ≤ cap) (hl : xs.length ≤ 5000) :
    Calls Try.prog 78 #[.slice a xs.length cap, .int .i64 k] w fun e w' => e = .returned (.int .i64 (place xs k : Int)) ∧ w = w' := by
  have HR := hide hr
  have hpl := place_le xs k
  clear hr
  go_enter Try.func78, Try.ntmps78
  go_wp2
  go_loopw [5] (fun i wr => ∃ n : Nat, n ≤ place xs k ∧ i = .int .i64 n ∧ w = wr) (fun i _ => xs.length - (intOf i).toNat)
  case atStart => exact ⟨0, Nat.zero_le _, rfl, rfl⟩
  case round =>
    obtain ⟨n, hn, rfl, rfl⟩ := hrel
    by_cases hlt : n < xs.length
    · obtain ⟨⟨x, xv⟩, hp⟩ : ∃ p, xs[n]? = some p := ⟨_, List.getElem?_eq_getElem hlt⟩
      obtain ⟨bl, rfl, _, g1, _⟩ := HR.out.at hp
      simp only at g1
      have i3 : n < cap := by omega
      by_cases hnp : n < place xs k
      · have hx : x < k := place_below hnp hp
        clear hp
        go_wp2
        exact ⟨⟨n + 1, by omega, by simp, trivial⟩, by simp [intOf]; omega⟩
      · have e : n = place xs k := by omega
        have hx : k ≤ x := by
          rw [e] at hp
          exact place_stop hp
        have E := hide e
        clear hp e hnp
        go_wp2
        go_ret
        exact ⟨by rw [← E.out]; rfl, rfl⟩
    · have E : Hid (n = place xs k) := hide (by omega)
      go_wp2
      go_ret
      exact ⟨by rw [← E.out]; rfl, rfl⟩

/-- What is at the place, if anything. -/
theorem hit_true {xs : List (Int × Int)} {k : Int} (h : hit xs k = true) : ∃ v, xs[place xs k]? = some (k, v) ∧ place xs k < xs.length := by
  unfold hit at h
  cases hp : xs[place xs k]? with
  | none => simp [hp] at h
  | some p =>
    simp [hp] at h
    exact ⟨p.2, by rw [← h], (List.getElem?_eq_some_iff.1 hp).1⟩
theorem hit_false {xs : List (Int × Int)} {k : Int} (h : hit xs k = false) : xs.length = place xs k ∨ ∃ x v, xs[place xs k]? = some (x, v) ∧ place xs k < xs.length ∧ x ≠ k := by
  have hl := place_le xs k
  cases hp : xs[place xs k]? with
  | none =>
    rw [List.getElem?_eq_none_iff] at hp
    exact .inl (by omega)
  | some p =>
    unfold hit at h
    simp [hp] at h
    exact .inr ⟨p.1, p.2, rfl, (List.getElem?_eq_some_iff.1 hp).1, h⟩

theorem preads_of_own {w : World} {n₀ g cap : Nat} {xs : List (Int × Int)} (h : w.ownsRow n₀ 30 2 (.slice (some ⟨g, 0, none⟩) xs.length cap) xs.length (flat xs)) : PReads w (some ⟨g, 0, none⟩) xs := by
  obtain ⟨a, c, e, hp, _⟩ := preads_of_row h
  cases e
  exact hp

set_option maxRecDepth 100000 in
set_option maxHeartbeats 1000000 in
theorem refPut_c (w : World) (n₀ : Nat) (v : Value) (xs : List (Int × Int)) (k u : Int) (hv : w.ownsRow n₀ 30 2 v xs.length (flat xs)) (hl : xs.length ≤ 5000) :
    Calls Try.prog 49 #[v, .int .i64 k, .int .i64 u] w (PSliced (put ltI xs k u) w) := by
  obtain ⟨y0, hi', hz0, hz1, hz2⟩ := info_parts info47
  have hpp := put_place xs k u
  have r0 := prow_new w
  rcases hv.2 with ⟨rfl, h0⟩ | ⟨g, cap, cur, rfl, hg0, _, hcap, hmx, _⟩
  · obtain rfl := List.length_eq_zero_iff.1 h0
    have HP : Hid (Calls Try.prog 78 #[.slice none 0 0, .int .i64 k] w fun e w' => e = .returned (.int .i64 0) ∧ w = w') := hide (place_c w none [] 0 k (.inl rfl) (Nat.le_refl _) (by simp))
    clear hv hpp h0
    go_enter Try.func49, Try.ntmps49
    go_wp2_with (fail)
    refine HP.out.mono ?_
    rintro e w' ⟨rfl, rfl⟩
    go_wp2_with (at_builtin; refine Stop.out ?_)
    refine ⟨?_⟩
    refine wpList_append_none rfl _ _ 31 rfl w.heap.size 30 y0 2 Try.underlying31 hi' _ _ _ rfl r0 rfl ?_
    go_wp2_with (at_builtin; refine Stop.out ?_)
    refine ⟨?_⟩
    refine wpList_append_own_at _ rfl _ _ 31 rfl w.heap.size 30 y0 (.agg #[.int .i64 0, .int .i64 0]) 2 16 Try.underlying31 hi' hz0 hz1 hz2 rfl (by decide) _ _ _ rfl (r0.alloc (.cells #[.int .i64 k, .int .i64 u] 30)) ⟨w.heap.size + 1, 0, none⟩ 1 1 [.int .i64 k, .int .i64 u] rfl rfl (by have := two_newR (w.alloc (.cells #[] 30)) k u; rwa [World.size_alloc] at this) (by simp [Value.oneCell']) (by decide) (by decide) (by rw [World.size_alloc, World.size_alloc]; omega) ?_
    intro v2 w2 hown2 hg2 hni _
    clear hni
    have K2 := hide (kept_append (xs := []) (show Kept w (w.alloc (.cells #[] 30)) from Turned.alloc _ _ _) r0 hg2)
    clear hg2 r0
    go_wp2_with (at_builtin; refine Stop.out ?_)
    refine ⟨?_⟩
    refine wpList_append_none rfl _ _ 31 rfl w.heap.size 30 y0 2 Try.underlying31 hi' _ _ _ rfl hown2 rfl ?_
    go_wp2
    go_ret
    exact ⟨v2, rfl, by simpa [flat, put] using hown2, K2.out⟩
  · have hc5 : cap ≤ 9223372036854775807 := by unfold maxLen at hmx; omega
    have HP := hide (place_c w _ xs cap k (preads_of_own hv) hcap hl)
    have hpl := place_le xs k
    have HV := hide hv
    cases hh : hit xs k with
    | true =>
      obtain ⟨hv', hat, hlt⟩ := hit_true hh
      obtain ⟨_, he, _, g1, _⟩ := (preads_of_own hv).at hat
      obtain rfl := Option.some.inj he |> Addr.mk.inj |>.1
      simp only at g1
      rw [hh, if_pos rfl] at hpp
      obtain ⟨n, hn⟩ : ∃ n, place xs k = n := ⟨_, rfl⟩
      rw [hn] at HP g1 hlt hpp hpl
      have HPP := hide hpp
      have i3 : n < cap := by omega
      clear hv hpp hat hh hn he
      go_enter Try.func49, Try.ntmps49
      go_wp2_with (fail)
      refine HP.out.mono ?_
      rintro e w' ⟨rfl, rfl⟩
      have s1 := src_cells HV.out (show Kept w (w.alloc (.cells #[] 30)) from Turned.alloc _ _ _) 0 n
      simp only [Nat.zero_mul, List.drop_zero] at s1
      go_wp2_with (at_builtin; refine Stop.out ?_)
      refine ⟨?_⟩
      refine wpList_append_own_at _ rfl _ _ 31 rfl w.heap.size 30 y0 (.agg #[.int .i64 0, .int .i64 0]) 2 16 Try.underlying31 hi' hz0 hz1 hz2 rfl (by decide) _ _ _ rfl r0 ⟨g, 0, none⟩ n cap (flat (xs.take n)) rfl (by rw [flat_length, List.length_take]; congr 1; omega) s1 (flat_one _) (by simp; unfold maxLen; omega) (by simp; omega) (by simp) ?_
      intro v1 w1 hown1 hg1 hni _
      clear hni
      have K1 := hide (kept_append0 (xs := []) (show Kept w (w.alloc (.cells #[] 30)) from Turned.alloc _ _ _) r0 hg1)
      have r1 : w1.ownsRow w.heap.size 30 2 v1 (xs.take n).length (flat (xs.take n)) := (by rw [List.length_take, Nat.min_eq_left (by omega)]; simpa [flat] using hown1)
      have zz1 := K1.out.size
      have R1 := hide r1
      clear hown1 hg1 s1 r0 r1
      go_wp2_with (at_builtin; refine Stop.out ?_)
      refine ⟨?_⟩
      refine wpList_append_own_at _ rfl _ _ 31 rfl w.heap.size 30 y0 (.agg #[.int .i64 0, .int .i64 0]) 2 16 Try.underlying31 hi' hz0 hz1 hz2 rfl (by decide) _ _ _ rfl (R1.out.alloc (.cells #[.int .i64 k, .int .i64 u] 30)) ⟨w1.heap.size, 0, none⟩ 1 1 [.int .i64 k, .int .i64 u] rfl rfl (two_newR _ _ _) (by simp [Value.oneCell']) (by rw [List.length_take]; unfold maxLen; omega) (by rw [List.length_take]; omega) (by simp; omega) ?_
      intro v2 w2 hown2 hg2 hni _
      clear hni
      have K2 := hide (kept_append K1.out R1.out hg2)
      have r2 : w2.ownsRow w.heap.size 30 2 v2 (xs.take n ++ [(k, u)]).length (flat (xs.take n ++ [(k, u)])) := (by simpa [flat_append, flat] using hown2)
      have R2 := hide r2
      have s2 := src_cells HV.out K2.out (n + 1) (xs.length - (n + 1))
      have g1' := K2.out.cell g1 id
      have zz2 := K2.out.size
      clear hown2 hg2 r2 g1
      by_cases hcq : cap = n + 1
      · go_wp2_with (at_builtin; refine Stop.out ?_)
        refine ⟨?_⟩
        refine wpList_append_own_at _ rfl _ _ 31 rfl w.heap.size 30 y0 (.agg #[.int .i64 0, .int .i64 0]) 2 16 Try.underlying31 hi' hz0 hz1 hz2 rfl (by decide) _ _ _ rfl R2.out _ _ _ (flat []) rfl (by first | (simp [flat]; done) | (simp [flat]; omega)) (by simp [flat]) (flat_one _) (by simp only [List.length_append, List.length_take, List.length_singleton]; unfold maxLen; omega) (by simp only [List.length_append, List.length_take, List.length_singleton]; omega) (by omega) ?_
        intro v3 w3 hown3 hg3 hni _
        clear hni
        have KF := hide (kept_append0 K2.out R2.out hg3)
        go_wp2
        go_ret
        refine ⟨v3, rfl, ?_, KF.out⟩
        rw [HPP.out]
        have e0 : xs.drop (n + 1) = [] := List.drop_eq_nil_of_le (by omega)
        have e1 : (xs.take n ++ [(k, u)]).length + (xs.length - (n + 1)) = (xs.take n ++ [(k, u)]).length := by omega
        rw [e0]
        try rw [e1] at hown3
        simpa [flat] using hown3
      · go_wp2_with (at_builtin; refine Stop.out ?_)
        refine ⟨?_⟩
        refine wpList_append_own_at _ rfl _ _ 31 rfl w.heap.size 30 y0 (.agg #[.int .i64 0, .int .i64 0]) 2 16 Try.underlying31 hi' hz0 hz1 hz2 rfl (by decide) _ _ _ rfl R2.out ⟨g, (n + 1) * 2, none⟩ (xs.length - (n + 1)) (cap - (n + 1)) (flat ((xs.drop (n + 1)).take (xs.length - (n + 1)))) rfl (by rw [flat_length, List.length_take, List.length_drop]; congr 1; omega) s2 (flat_one _) (by simp only [List.length_append, List.length_take, List.length_singleton]; unfold maxLen; omega) (by simp only [List.length_append, List.length_take, List.length_singleton]; omega) (by omega) ?_
        intro v3 w3 hown3 hg3 hni _
        clear hni
        have KF := hide (kept_append0 K2.out R2.out hg3)
        go_wp2
        go_ret
        refine ⟨v3, rfl, ?_, KF.out⟩
        rw [HPP.out]
        have e1 : (xs.drop (n + 1)).take (xs.length - (n + 1)) = xs.drop (n + 1) := List.take_of_length_le (by rw [List.length_drop]; exact Nat.le_refl _)
        rw [e1, ← flat_append] at hown3
        have e2 : (xs.take n ++ [(k, u)]).length + (xs.length - (n + 1)) = (xs.take n ++ [(k, u)] ++ xs.drop (n + 1)).length := by simp only [List.length_append, List.length_drop]
        rw [e2] at hown3
        simpa using hown3
    | false =>
      rw [hh, if_neg (by simp)] at hpp
      rcases hit_false hh with he | ⟨x, xv, hat, hlt, hne⟩
      · obtain ⟨n, hn⟩ : ∃ n, place xs k = n := ⟨_, rfl⟩
        rw [hn] at HP hpp hpl he
        have HPP := hide hpp
        have hnl : ¬ ((n : Int) < (xs.length : Int)) := by omega
        have hnl' : ¬ (n < xs.length) := by omega
        have he' : xs.length ≤ n := by omega
        clear hv hpp hh hn he
        go_enter Try.func49, Try.ntmps49
        go_wp2_with (fail)
        refine HP.out.mono ?_
        rintro e w' ⟨rfl, rfl⟩
        have s1 := src_cells HV.out (show Kept w (w.alloc (.cells #[] 30)) from Turned.alloc _ _ _) 0 n
        simp only [Nat.zero_mul, List.drop_zero] at s1
        go_wp2_with (at_builtin; refine Stop.out ?_)
        refine ⟨?_⟩
        refine wpList_append_own_at _ rfl _ _ 31 rfl w.heap.size 30 y0 (.agg #[.int .i64 0, .int .i64 0]) 2 16 Try.underlying31 hi' hz0 hz1 hz2 rfl (by decide) _ _ _ rfl r0 ⟨g, 0, none⟩ n cap (flat (xs.take n)) rfl (by rw [flat_length, List.length_take]; congr 1; omega) s1 (flat_one _) (by simp; unfold maxLen; omega) (by simp; omega) (by simp) ?_
        intro v1 w1 hown1 hg1 hni _
        clear hni
        have K1 := hide (kept_append0 (xs := []) (show Kept w (w.alloc (.cells #[] 30)) from Turned.alloc _ _ _) r0 hg1)
        have r1 : w1.ownsRow w.heap.size 30 2 v1 (xs.take n).length (flat (xs.take n)) := (by rw [List.length_take, Nat.min_eq_left (by omega)]; simpa [flat] using hown1)
        have zz1 := K1.out.size
        have R1 := hide r1
        clear hown1 hg1 s1 r0 r1
        go_wp2_with (at_builtin; refine Stop.out ?_)
        refine ⟨?_⟩
        refine wpList_append_own_at _ rfl _ _ 31 rfl w.heap.size 30 y0 (.agg #[.int .i64 0, .int .i64 0]) 2 16 Try.underlying31 hi' hz0 hz1 hz2 rfl (by decide) _ _ _ rfl (R1.out.alloc (.cells #[.int .i64 k, .int .i64 u] 30)) ⟨w1.heap.size, 0, none⟩ 1 1 [.int .i64 k, .int .i64 u] rfl rfl (two_newR _ _ _) (by simp [Value.oneCell']) (by rw [List.length_take]; unfold maxLen; omega) (by rw [List.length_take]; omega) (by simp; omega) ?_
        intro v2 w2 hown2 hg2 hni _
        clear hni
        have K2 := hide (kept_append K1.out R1.out hg2)
        have r2 : w2.ownsRow w.heap.size 30 2 v2 (xs.take n ++ [(k, u)]).length (flat (xs.take n ++ [(k, u)])) := (by simpa [flat_append, flat] using hown2)
        have R2 := hide r2
        have s2 := src_cells HV.out K2.out (n) (xs.length - (n))
        have zz2 := K2.out.size
        clear hown2 hg2 r2
        by_cases hcq : cap = n
        · go_wp2_with (at_builtin; refine Stop.out ?_)
          refine ⟨?_⟩
          refine wpList_append_own_at _ rfl _ _ 31 rfl w.heap.size 30 y0 (.agg #[.int .i64 0, .int .i64 0]) 2 16 Try.underlying31 hi' hz0 hz1 hz2 rfl (by decide) _ _ _ rfl R2.out _ _ _ (flat []) rfl (by first | (simp [flat]; done) | (simp [flat]; omega)) (by simp [flat]) (flat_one _) (by simp only [List.length_append, List.length_take, List.length_singleton]; unfold maxLen; omega) (by simp only [List.length_append, List.length_take, List.length_singleton]; omega) (by omega) ?_
          intro v3 w3 hown3 hg3 hni _
          clear hni
          have KF := hide (kept_append0 K2.out R2.out hg3)
          go_wp2
          go_ret
          refine ⟨v3, rfl, ?_, KF.out⟩
          rw [HPP.out]
          have e0 : xs.drop (n) = [] := List.drop_eq_nil_of_le (by omega)
          have e1 : (xs.take n ++ [(k, u)]).length + (xs.length - (n)) = (xs.take n ++ [(k, u)]).length := by omega
          rw [e0]
          try rw [e1] at hown3
          simpa [flat] using hown3
        · go_wp2_with (at_builtin; refine Stop.out ?_)
          refine ⟨?_⟩
          refine wpList_append_own_at _ rfl _ _ 31 rfl w.heap.size 30 y0 (.agg #[.int .i64 0, .int .i64 0]) 2 16 Try.underlying31 hi' hz0 hz1 hz2 rfl (by decide) _ _ _ rfl R2.out _ _ _ (flat []) rfl (by first | (simp [flat]; done) | (simp [flat]; omega)) (by simp [flat]) (flat_one _) (by simp only [List.length_append, List.length_take, List.length_singleton]; unfold maxLen; omega) (by simp only [List.length_append, List.length_take, List.length_singleton]; omega) (by omega) ?_
          intro v3 w3 hown3 hg3 hni _
          clear hni
          have KF := hide (kept_append0 K2.out R2.out hg3)
          go_wp2
          go_ret
          refine ⟨v3, rfl, ?_, KF.out⟩
          rw [HPP.out]
          have e0 : xs.drop (n) = [] := List.drop_eq_nil_of_le (by omega)
          have e1 : (xs.take n ++ [(k, u)]).length + (xs.length - (n)) = (xs.take n ++ [(k, u)]).length := by omega
          rw [e0]
          try rw [e1] at hown3
          simpa [flat] using hown3
      · obtain ⟨_, he, _, g1, _⟩ := (preads_of_own hv).at hat
        obtain rfl := Option.some.inj he |> Addr.mk.inj |>.1
        simp only at g1
        obtain ⟨n, hn⟩ : ∃ n, place xs k = n := ⟨_, rfl⟩
        rw [hn] at HP g1 hlt hpp hpl
        have HPP := hide hpp
        have i3 : n < cap := by omega
        have hx : (x == k) = false := by simp only [beq_eq_false_iff_ne, ne_eq]; exact hne
        clear hv hpp hat hh hn he hne
        go_enter Try.func49, Try.ntmps49
        go_wp2_with (fail)
        refine HP.out.mono ?_
        rintro e w' ⟨rfl, rfl⟩
        have s1 := src_cells HV.out (show Kept w (w.alloc (.cells #[] 30)) from Turned.alloc _ _ _) 0 n
        simp only [Nat.zero_mul, List.drop_zero] at s1
        go_wp2_with (at_builtin; refine Stop.out ?_)
        refine ⟨?_⟩
        refine wpList_append_own_at _ rfl _ _ 31 rfl w.heap.size 30 y0 (.agg #[.int .i64 0, .int .i64 0]) 2 16 Try.underlying31 hi' hz0 hz1 hz2 rfl (by decide) _ _ _ rfl r0 ⟨g, 0, none⟩ n cap (flat (xs.take n)) rfl (by rw [flat_length, List.length_take]; congr 1; omega) s1 (flat_one _) (by simp; unfold maxLen; omega) (by simp; omega) (by simp) ?_
        intro v1 w1 hown1 hg1 hni _
        clear hni
        have K1 := hide (kept_append0 (xs := []) (show Kept w (w.alloc (.cells #[] 30)) from Turned.alloc _ _ _) r0 hg1)
        have r1 : w1.ownsRow w.heap.size 30 2 v1 (xs.take n).length (flat (xs.take n)) := (by rw [List.length_take, Nat.min_eq_left (by omega)]; simpa [flat] using hown1)
        have zz1 := K1.out.size
        have R1 := hide r1
        clear hown1 hg1 s1 r0 r1
        go_wp2_with (at_builtin; refine Stop.out ?_)
        refine ⟨?_⟩
        refine wpList_append_own_at _ rfl _ _ 31 rfl w.heap.size 30 y0 (.agg #[.int .i64 0, .int .i64 0]) 2 16 Try.underlying31 hi' hz0 hz1 hz2 rfl (by decide) _ _ _ rfl (R1.out.alloc (.cells #[.int .i64 k, .int .i64 u] 30)) ⟨w1.heap.size, 0, none⟩ 1 1 [.int .i64 k, .int .i64 u] rfl rfl (two_newR _ _ _) (by simp [Value.oneCell']) (by rw [List.length_take]; unfold maxLen; omega) (by rw [List.length_take]; omega) (by simp; omega) ?_
        intro v2 w2 hown2 hg2 hni _
        clear hni
        have K2 := hide (kept_append K1.out R1.out hg2)
        have r2 : w2.ownsRow w.heap.size 30 2 v2 (xs.take n ++ [(k, u)]).length (flat (xs.take n ++ [(k, u)])) := (by simpa [flat_append, flat] using hown2)
        have R2 := hide r2
        have s2 := src_cells HV.out K2.out (n) (xs.length - (n))
        have g1' := K2.out.cell g1 id
        have zz2 := K2.out.size
        clear hown2 hg2 r2 g1
        go_wp2_with (at_builtin; refine Stop.out ?_)
        refine ⟨?_⟩
        refine wpList_append_own_at _ rfl _ _ 31 rfl w.heap.size 30 y0 (.agg #[.int .i64 0, .int .i64 0]) 2 16 Try.underlying31 hi' hz0 hz1 hz2 rfl (by decide) _ _ _ rfl R2.out ⟨g, (n) * 2, none⟩ (xs.length - (n)) (cap - (n)) (flat ((xs.drop (n)).take (xs.length - (n)))) rfl (by rw [flat_length, List.length_take, List.length_drop]; congr 1; omega) s2 (flat_one _) (by simp only [List.length_append, List.length_take, List.length_singleton]; unfold maxLen; omega) (by simp only [List.length_append, List.length_take, List.length_singleton]; omega) (by omega) ?_
        intro v3 w3 hown3 hg3 hni _
        clear hni
        have KF := hide (kept_append0 K2.out R2.out hg3)
        go_wp2
        go_ret
        refine ⟨v3, rfl, ?_, KF.out⟩
        rw [HPP.out]
        have e1 : (xs.drop (n)).take (xs.length - (n)) = xs.drop (n) := List.take_of_length_le (by rw [List.length_drop]; exact Nat.le_refl _)
        rw [e1, ← flat_append] at hown3
        have e2 : (xs.take n ++ [(k, u)]).length + (xs.length - (n)) = (xs.take n ++ [(k, u)] ++ xs.drop (n)).length := by simp only [List.length_append, List.length_drop]
        rw [e2] at hown3
        simpa using hown3

end Go.Proofs.Ytgialpjdfeldeaa.Mp

/-! What ordinatehand's Wide answers (a contract): the keys of the first 80 numbers, strictly ascending, each once, in new memory; nothing that lay is turned. -/
namespace Go.Proofs.Ytgialpjdfeldeaa.Mp
open Go.RowKit

/-- What may be turned from n₀ on. -/
abbrev From (n₀ : Nat) (w w' : World) : Prop := Turned (fun g => n₀ ≤ g) w w'
theorem From.trans {n₀ : Nat} {a b c : World} (h : From n₀ a b) (k : From n₀ b c) : From n₀ a c := Turned.trans h k (fun _ e => e) (fun _ _ e => e)

/-- The map of the first t numbers. -/
def fillW (zs : List Int) : Nat → List (Int × Int)
  | 0 => []
  | t + 1 => match zs[t]? with
    | some z => put ltI (fillW zs t) z 0
    | none => fillW zs t
theorem fillW_step {zs : List Int} {t : Nat} {z : Int} (h : zs[t]? = some z) : fillW zs (t + 1) = put ltI (fillW zs t) z 0 := by
  rw [fillW, h]
theorem fillW_le (zs : List Int) : (t : Nat) → (fillW zs t).length ≤ t
  | 0 => Nat.le_refl _
  | t + 1 => by
    have := fillW_le zs t
    unfold fillW
    split
    · rename_i z _
      have := length_put_le (lt := ltI) (xs := fillW zs t) (k := z) (v := (0 : Int))
      omega
    · omega
theorem fillW_asc (zs : List Int) : (t : Nat) → Asc ltI (fillW zs t)
  | 0 => List.Pairwise.nil
  | t + 1 => by
    unfold fillW
    split
    · exact asc_put linI (fillW_asc zs t)
    · exact fillW_asc zs t
theorem fillW_mem (zs : List Int) : (t : Nat) → ∀ p ∈ fillW zs t, p.1 ∈ zs
  | 0 => by simp [fillW]
  | t + 1 => by
    intro p hp
    unfold fillW at hp
    split at hp
    · rename_i z hz
      rcases mem_put hp with rfl | hp
      · exact List.mem_of_getElem? hz
      · exact fillW_mem zs t p hp
    · exact fillW_mem zs t p hp
/-- The keys of the first 80 numbers. -/
def wideP (zs : List Int) : List Int := (fillW zs (min zs.length 80)).map Prod.fst
theorem wide_up (zs : List Int) : (wideP zs).Pairwise (· < ·) := by
  have := fillW_asc zs (min zs.length 80)
  unfold wideP
  rw [List.pairwise_map]
  exact List.Pairwise.imp (fun h => ltI_true.1 h) this
theorem wide_le (zs : List Int) : (wideP zs).length ≤ 80 := by
  have := fillW_le zs (min zs.length 80)
  unfold wideP
  rw [List.length_map]
  omega
theorem wide_mem {zs : List Int} {z : Int} (h : z ∈ wideP zs) : z ∈ zs := by
  unfold wideP at h
  obtain ⟨p, hp, rfl⟩ := List.mem_map.1 h
  exact fillW_mem zs _ p hp

/-- A new slice of these int64s. -/
def Sliced2 (xs : List Int) (w : World) (e : Ending) (w' : World) : Prop := ∃ v, e = .returned v ∧ Row w' w.heap.size 2 v xs ∧ Kept w w'
theorem info2 : (Try.prog.info? 2).map (fun i => (i.zero, i.size, i.bytes)) = some (some (.int .i64 0), 1, 8) := by kernel_rfl

theorem row_base {w : World} {b b' : Nat} {e : TypeId} {size : Nat} {v : Value} {n : Nat} {xs : List Value} (h : w.ownsRow b e size v n xs) (hb : b' ≤ b) : w.ownsRow b' e size v n xs := by
  obtain ⟨h1, h2⟩ := h
  refine ⟨h1, ?_⟩
  rcases h2 with h2 | ⟨g, cap, cur, rfl, hg, r⟩
  · exact .inl h2
  · exact .inr ⟨g, cap, cur, rfl, by omega, r⟩
theorem row_append2 {w : World} {n₀ g gc : Nat} {zs : List Int} {x : Int} (h : w.ownsRow n₀ 2 1 (.slice (some ⟨g, 0, none⟩) (zs.length + 1) gc) (zs.length + 1) (cellsOf zs ++ [.int .i64 x])) : Row w n₀ 2 (.slice (some ⟨g, 0, none⟩) (zs.length + 1) gc) (zs ++ [x]) := by
  unfold Row
  rw [List.length_append, List.length_singleton]
  rw [show cellsOf (zs ++ [x]) = cellsOf zs ++ [.int .i64 x] by simp [cellsOf]]
  exact h
theorem pread_old {w w' : World} {a : Option Addr} {L : List (Int × Int)} (h : PReads w a L) (ht : From w.heap.size w w') : PReads w' a L := by
  rcases h with h | ⟨bl, rfl, h⟩
  · exact .inl h
  · refine .inr ⟨bl, rfl, fun j p hp => ?_⟩
    have h1 := h j p hp
    have hb := World.block_lt_of_cell? _ _ h1.1
    exact ⟨ht.cell h1.1 (by simp only at hb ⊢; omega), ht.cell h1.2 (by simp only at hb ⊢; omega)⟩
theorem map_take {L : List (Int × Int)} {t : Nat} {p : Int × Int} (h : L[t]? = some p) : (L.take (t + 1)).map Prod.fst = (L.take t).map Prod.fst ++ [p.1] := by
  obtain ⟨h1, rfl⟩ := List.getElem?_eq_some_iff.1 h
  rw [List.take_succ_eq_append_getElem h1, List.map_append]
  rfl

set_option maxRecDepth 100000 in
set_option maxHeartbeats 1000000 in
theorem wide_c (w : World) (a : Option Addr) (zs : List Int) (cap : Nat) (hr : Reads w a zs) (hc : zs.length ≤ cap) (hm : cap ≤ maxLen) :
    Calls Try.prog 38 #[.slice a zs.length cap] w (Sliced2 (wideP zs) w) := by
  obtain ⟨y0, hi', hz0, hz1, hz2⟩ := info_parts info2
  have hm' : (zs.length : Int) ≤ 9223372036854775807 := by unfold maxLen at hm; omega
  have HR := hide hr
  clear hr hm
  go_enter Try.func38, Try.ntmps38
  go_wp2
  go_loopw [3, 4] (fun v i wr => ∃ t : Nat, t ≤ zs.length ∧ t ≤ 80 ∧ i = .int .i64 t ∧ Hid (wr.ownsRow w.heap.size 30 2 v (fillW zs t).length (flat (fillW zs t))) ∧ Hid (Kept w wr)) (fun _ i _ => 80 - (intOf i).toNat)
  case atStart => exact ⟨0, Nat.zero_le _, by omega, rfl, hide (World.ownsRow_nil _ _ _ _), hide (Kept.refl _)⟩
  case round =>
    obtain ⟨t, ht1, ht2, rfl, HV, HK⟩ := hrel
    by_cases hlt : t < zs.length ∧ t < 80
    · obtain ⟨hlt1, hlt2⟩ := hlt
      obtain ⟨z, hz⟩ : ∃ z, zs[t]? = some z := ⟨_, List.getElem?_eq_getElem hlt1⟩
      obtain ⟨bl, off, rfl, _, hrow⟩ := (HR.out.kept HK.out).at hz
      have HZ := hide (fillW_step hz)
      have i1 : (t : Int) < (zs.length : Int) := by omega
      have i2 : (t : Int) < 80 := by omega
      have i3 : t < cap := by omega
      have zr := HK.out.size
      clear hz
      go_wp2_with (fail)
      refine (refPut_c _ _ _ (fillW zs t) z 0 HV.out (by have := fillW_le zs t; omega)).mono ?_
      rintro e w1 ⟨v1, rfl, hrow1, hk1⟩
      have V1 : Hid (w1.ownsRow w.heap.size 30 2 v1 (fillW zs (t + 1)).length (flat (fillW zs (t + 1)))) := hide (by rw [HZ.out]; exact row_base hrow1 zr)
      have K1 := hide (HK.out.trans hk1)
      clear hrow1 hk1
      go_wp2
      exact ⟨⟨t + 1, by omega, by omega, by simp, V1, K1⟩, by simp [intOf]; omega⟩
    · have e : min zs.length 80 = t := by omega
      have E : Hid (wideP zs = (fillW zs t).map Prod.fst) := hide (by unfold wideP; rw [e])
      have hL : (fillW zs t).length ≤ 80 := by have := fillW_le zs t; omega
      obtain ⟨L, eL⟩ : ∃ L, fillW zs t = L := ⟨_, rfl⟩
      rw [eL] at HV E hL
      obtain ⟨pa, pc, rfl, hp, hpc⟩ := preads_of_row HV.out
      have HP := hide hp
      have zr := HK.out.size
      have hex : ¬ ((t : Int) < (zs.length : Int)) ∨ ((t : Int) < (zs.length : Int) ∧ ¬ ((t : Int) < 80)) := by omega
      clear eL e hlt HV hp ht1
      rename World => W1
      rcases hex with hx | ⟨hx1, hx2⟩
      · go_wp2
        go_loopw [5, 6] (fun u vi wt => ∃ (s : Nat) (ys : List Int), s ≤ L.length ∧ ys.length ≤ s ∧ vi = .int .i64 s ∧ Hid (ys = (L.take s).map Prod.fst) ∧ Hid (Row wt W1.heap.size 2 u ys) ∧ Hid (From W1.heap.size W1 wt)) (fun _ vi _ => L.length - (intOf vi).toNat)
        case atStart => exact ⟨0, [], Nat.zero_le _, Nat.le_refl _, rfl, hide rfl, hide (World.ownsRow_nil _ _ _ _), hide (Turned.refl _ _)⟩
        case round =>
          obtain ⟨s, ys, hs, hys, rfl, HY, HW, HT⟩ := hrel
          by_cases hsl : s < L.length
          · obtain ⟨⟨x, xv⟩, hx⟩ : ∃ p, L[s]? = some p := ⟨_, List.getElem?_eq_getElem hsl⟩
            obtain ⟨bl, rfl, hbl, g1, g2⟩ := (pread_old HP.out HT.out).at hx
            have HX := hide (map_take hx)
            have j1 : (s : Int) < (L.length : Int) := by omega
            have j2 : s < pc := by omega
            have zt := HT.out.size
            have hrow := HW.out.alloc (.cells #[.int .i64 x] 2)
            simp only at g1 g2
            have hyl : ys.length ≤ 80 := by omega
            clear hx
            go_wp2_with (at_builtin; refine Stop.out ?_)
            refine ⟨?_⟩
            refine wpList_append_lies _ rfl _ _ 35 rfl W1.heap.size 2 y0 (.int .i64 0) 1 8 Try.underlying35 hi' hz0 hz1 hz2 rfl (by decide) _ _ _ rfl hrow ⟨wr.heap.size, 0, none⟩ 1 1 [.int .i64 x] rfl rfl (one_new _ _ _) (by simp [Value.oneCell']) (by decide) (by unfold maxLen; omega) (by omega) (by simp; omega) (wr.heap.size + 1) (by simp) ?_
            intro g gc A1 hown hgrow hat hlt2
            have T1 := hide (HT.out.trans (turned_append HW.out hgrow))
            have R1 := hide (row_append2 hown)
            have HY1 : Hid (ys ++ [x] = (L.take (s + 1)).map Prod.fst) := hide (by rw [HX.out, HY.out])
            have HYL : Hid ((ys ++ [x]).length ≤ s + 1) := hide (by simp; omega)
            clear hown hgrow hat hlt2 hrow HW HT HX HY
            go_wp2
            exact ⟨⟨s + 1, ys ++ [x], by omega, HYL.out, by simp, HY1, R1, T1⟩, by simp [intOf]; omega⟩
          · have j1 : ¬ ((s : Int) < (L.length : Int)) := by omega
            have HY1 : Hid (ys = L.map Prod.fst) := hide (by have := HY.out; rwa [List.take_of_length_le (by omega)] at this)
            clear HY
            go_wp2
            go_ret
            exact ⟨_, rfl, by rw [E.out, ← HY1.out]; exact row_base HW.out zr, HK.out.own (fun i hi => by omega) HT.out⟩
      · go_wp2
        go_loopw [5, 6] (fun u vi wt => ∃ (s : Nat) (ys : List Int), s ≤ L.length ∧ ys.length ≤ s ∧ vi = .int .i64 s ∧ Hid (ys = (L.take s).map Prod.fst) ∧ Hid (Row wt W1.heap.size 2 u ys) ∧ Hid (From W1.heap.size W1 wt)) (fun _ vi _ => L.length - (intOf vi).toNat)
        case atStart => exact ⟨0, [], Nat.zero_le _, Nat.le_refl _, rfl, hide rfl, hide (World.ownsRow_nil _ _ _ _), hide (Turned.refl _ _)⟩
        case round =>
          obtain ⟨s, ys, hs, hys, rfl, HY, HW, HT⟩ := hrel
          by_cases hsl : s < L.length
          · obtain ⟨⟨x, xv⟩, hx⟩ : ∃ p, L[s]? = some p := ⟨_, List.getElem?_eq_getElem hsl⟩
            obtain ⟨bl, rfl, hbl, g1, g2⟩ := (pread_old HP.out HT.out).at hx
            have HX := hide (map_take hx)
            have j1 : (s : Int) < (L.length : Int) := by omega
            have j2 : s < pc := by omega
            have zt := HT.out.size
            have hrow := HW.out.alloc (.cells #[.int .i64 x] 2)
            simp only at g1 g2
            have hyl : ys.length ≤ 80 := by omega
            clear hx
            go_wp2_with (at_builtin; refine Stop.out ?_)
            refine ⟨?_⟩
            refine wpList_append_lies _ rfl _ _ 35 rfl W1.heap.size 2 y0 (.int .i64 0) 1 8 Try.underlying35 hi' hz0 hz1 hz2 rfl (by decide) _ _ _ rfl hrow ⟨wr.heap.size, 0, none⟩ 1 1 [.int .i64 x] rfl rfl (one_new _ _ _) (by simp [Value.oneCell']) (by decide) (by unfold maxLen; omega) (by omega) (by simp; omega) (wr.heap.size + 1) (by simp) ?_
            intro g gc A1 hown hgrow hat hlt2
            have T1 := hide (HT.out.trans (turned_append HW.out hgrow))
            have R1 := hide (row_append2 hown)
            have HY1 : Hid (ys ++ [x] = (L.take (s + 1)).map Prod.fst) := hide (by rw [HX.out, HY.out])
            have HYL : Hid ((ys ++ [x]).length ≤ s + 1) := hide (by simp; omega)
            clear hown hgrow hat hlt2 hrow HW HT HX HY
            go_wp2
            exact ⟨⟨s + 1, ys ++ [x], by omega, HYL.out, by simp, HY1, R1, T1⟩, by simp [intOf]; omega⟩
          · have j1 : ¬ ((s : Int) < (L.length : Int)) := by omega
            have HY1 : Hid (ys = L.map Prod.fst) := hide (by have := HY.out; rwa [List.take_of_length_le (by omega)] at this)
            clear HY
            go_wp2
            go_ret
            exact ⟨_, rfl, by rw [E.out, ← HY1.out]; exact row_base HW.out zr, HK.out.own (fun i hi => by omega) HT.out⟩
end Go.Proofs.Ytgialpjdfeldeaa.Mp

/-! What ordinatehand's Pairs answers: strictly ascending pairs of the first 60 numbers, in new memory; nothing that lay is turned. -/
namespace Go.Proofs.Ytgialpjdfeldeaa.Mp
open Go.RowKit

/-- The pairs of the first t numbers. -/
def fillP (zs : List Int) : Nat → List (Int × Int)
  | 0 => []
  | t + 1 => match zs[t]? with
    | some z => put ltI (fillP zs t) (z % 97 - 40) (t : Int)
    | none => fillP zs t
theorem fillP_step {zs : List Int} {t : Nat} {z : Int} (h : zs[t]? = some z) : fillP zs (t + 1) = put ltI (fillP zs t) (z % 97 - 40) (t : Int) := by simp [fillP, h]
theorem fillP_le (zs : List Int) : (t : Nat) → (fillP zs t).length ≤ t
  | 0 => Nat.le_refl _
  | t + 1 => by
    have := fillP_le zs t
    unfold fillP
    split
    · rename_i z _
      have := length_put_le (lt := ltI) (xs := fillP zs t) (k := z % 97 - 40) (v := (t : Int))
      omega
    · omega
theorem fillP_asc (zs : List Int) : (t : Nat) → Asc ltI (fillP zs t)
  | 0 => List.Pairwise.nil
  | t + 1 => by
    unfold fillP
    split
    · exact asc_put linI (fillP_asc zs t)
    · exact fillP_asc zs t
theorem fillP_mem (zs : List Int) : (t : Nat) → ∀ p ∈ fillP zs t, -40 ≤ p.1 ∧ p.1 ≤ 56 ∧ 0 ≤ p.2 ∧ p.2 ≤ t
  | 0 => by simp [fillP]
  | t + 1 => by
    intro p hp
    unfold fillP at hp
    split at hp
    · rcases mem_put hp with rfl | hp
      · simp only
        omega
      · have := fillP_mem zs t p hp
        omega
    · have := fillP_mem zs t p hp
      omega
def pairsP (zs : List Int) : List (Int × Int) := fillP zs (min zs.length 60)
theorem pairsP_up (zs : List Int) : ((pairsP zs).map Prod.fst).Pairwise (· < ·) := by
  have := fillP_asc zs (min zs.length 60)
  unfold pairsP
  rw [List.pairwise_map]
  exact List.Pairwise.imp (fun h => ltI_true.1 h) this
theorem pairsP_le (zs : List Int) : (pairsP zs).length ≤ 60 := by
  have := fillP_le zs (min zs.length 60)
  unfold pairsP
  omega
theorem pairsP_i64 (zs : List Int) : ∀ p ∈ pairsP zs, I64 p.1 ∧ I64 p.2 := by
  intro p hp
  have := fillP_mem zs _ p hp
  unfold I64
  omega

set_option maxRecDepth 100000 in
set_option maxHeartbeats 1000000 in
theorem pairs_c (w : World) (a : Option Addr) (zs : List Int) (M cap : Nat) (hM : zs.length = M) (hr : Reads w a zs) (hc : M ≤ cap) (hm : cap ≤ maxLen) :
    Calls Try.prog 26 #[.slice a M cap] w (PSliced (pairsP zs) w) := by
  subst hM
  have hm' : (zs.length : Int) ≤ 9223372036854775807 := by unfold maxLen at hm; omega
  have HR := hide hr
  clear hr hm
  go_enter Try.func26, Try.ntmps26
  go_wp2
  go_loopw [3, 4, 5] (fun v i _ wr => ∃ t : Nat, t ≤ zs.length ∧ t ≤ 60 ∧ i = .int .i64 t ∧ Hid (wr.ownsRow w.heap.size 30 2 v (fillP zs t).length (flat (fillP zs t))) ∧ Hid (Kept w wr)) (fun _ i _ _ => 60 - (intOf i).toNat)
  case atStart => exact ⟨0, Nat.zero_le _, by omega, rfl, hide (World.ownsRow_nil _ _ _ _), hide (Kept.refl _)⟩
  case round =>
    obtain ⟨t, ht1, ht2, rfl, HV, HK⟩ := hrel
    by_cases hlt : t < zs.length ∧ t < 60
    · obtain ⟨hlt1, hlt2⟩ := hlt
      obtain ⟨z, hz⟩ : ∃ z, zs[t]? = some z := ⟨_, List.getElem?_eq_getElem hlt1⟩
      obtain ⟨bl, off, rfl, _, hrow⟩ := (HR.out.kept HK.out).at hz
      have HZ := hide (fillP_step hz)
      have i1 : (t : Int) < (zs.length : Int) := by omega
      have i2 : (t : Int) < 60 := by omega
      have i3 : t < cap := by omega
      have zr := HK.out.size
      obtain ⟨y, hy⟩ : ∃ y, z % 97 = y := ⟨_, rfl⟩
      have y1 : 0 ≤ y := by omega
      have y2 : y < 97 := by omega
      have HY := hide hy
      rw [hy] at HZ
      clear hz hy
      go_wp2_with (fail)
      refine (cut_g _ z 97 (by decide) (by decide)).mono ?_
      rw [HY.out]
      rintro e w0 ⟨rfl, rfl⟩
      go_wp2_with (fail)
      refine (refPut_c _ _ _ (fillP zs t) (y - 40) t HV.out (by have := fillP_le zs t; omega)).mono ?_
      rintro e w1 ⟨v1, rfl, hrow1, hk1⟩
      have V1 : Hid (w1.ownsRow w.heap.size 30 2 v1 (fillP zs (t + 1)).length (flat (fillP zs (t + 1)))) := hide (by rw [HZ.out]; exact row_base hrow1 zr)
      have K1 := hide (HK.out.trans hk1)
      clear hrow1 hk1
      go_wp2
      exact ⟨⟨t + 1, by omega, by omega, by simp, V1, K1⟩, by simp [intOf]; omega⟩
    · have e : min zs.length 60 = t := by omega
      have E : Hid (pairsP zs = fillP zs t) := hide (by unfold pairsP; rw [e])
      have hex : ¬ ((t : Int) < (zs.length : Int)) ∨ ((t : Int) < (zs.length : Int) ∧ ¬ ((t : Int) < 60)) := by omega
      clear e hlt
      rcases hex with hx | ⟨hx1, hx2⟩
      · go_wp2
        go_ret
        exact ⟨_, rfl, by rw [E.out]; exact HV.out, HK.out⟩
      · go_wp2
        go_ret
        exact ⟨_, rfl, by rw [E.out]; exact HV.out, HK.out⟩
end Go.Proofs.Ytgialpjdfeldeaa.Mp

/-! Chapter 10 in plain: where the records of a tree laid at once lie ('Laid'), that 'layF' lays them so where there is room, and how many cells they are. No conditions beyond each theorem's own. -/
namespace Go.Proofs.Ytgialpjdfeldeaa
open Go.RowKit

/-- An Inner and its kids. -/
structure LaidI (s : Mst) (K : Nat → Nat → Int → List (Int × Int) → Prop) (A B : Nat) (x : Int) (ps : List (Int × Int)) (D : Nat) (E : Nat → Nat) : Prop where
  deg : Pt.degZ ps.length = (D : Int)
  two : 2 ≤ D
  e0 : E 0 = A
  kids : ∀ i, i < D → K (E i) (E (i + 1)) (s.look (childS (E D + 1) D i)) (partL ps (i : Int))
  b : B = E D + 4 + 2 * D
  word : x = 8 * ((E D : Int) + 1) + 3
  l0 : s.look ((E D : Int) + 1) = (D : Int)
  l1 : s.look ((E D : Int) + 2) = (ps.length : Int)
  l2 : s.look ((E D : Int) + 3) = 0
  l3 : s.look ((E D : Int) + 4) = 0
  l4 : s.look ((E D : Int) + 5) = 0
  lk : ∀ i : Nat, 1 ≤ i → i < D → s.look ((E D : Int) + 5 + i) = ((partL ps (i : Int)).headD (0, 0)).1
/-- x is the word of an ideal tree of ps, whose records have just the cells from A + 1 to B. -/
def Laid (s : Mst) : Nat → Nat → Nat → Int → List (Int × Int) → Prop
  | 0 => fun _ _ _ _ => False
  | f + 1 => fun A B x ps =>
    if ps.length = 0 then x = 8 * ((A : Int) + 1) + 1 ∧ B = A + 1
    else if ps.length = 1 then x = 8 * ((A : Int) + 1) + 2 ∧ B = A + 2 ∧ s.look ((A : Int) + 1) = (ps.headD (0, 0)).1 ∧ s.look ((A : Int) + 2) = (ps.headD (0, 0)).2
    else ∃ D E, LaidI s (Laid s f) A B x ps D E
theorem Laid_succ (s : Mst) (f A B : Nat) (x : Int) (ps : List (Int × Int)) : Laid s (f + 1) A B x ps = (if ps.length = 0 then x = 8 * ((A : Int) + 1) + 1 ∧ B = A + 1
    else if ps.length = 1 then x = 8 * ((A : Int) + 1) + 2 ∧ B = A + 2 ∧ s.look ((A : Int) + 1) = (ps.headD (0, 0)).1 ∧ s.look ((A : Int) + 2) = (ps.headD (0, 0)).2
    else ∃ D E, LaidI s (Laid s f) A B x ps D E) := rfl
/-- The three ways. -/
theorem Laid.cases {s : Mst} {f A B : Nat} {x : Int} {ps : List (Int × Int)} (h : Laid s f A B x ps) : ∃ g, f = g + 1 ∧
    ((ps = [] ∧ x = 8 * ((A : Int) + 1) + 1 ∧ B = A + 1) ∨
     (∃ p, ps = [p] ∧ x = 8 * ((A : Int) + 1) + 2 ∧ B = A + 2 ∧ s.look ((A : Int) + 1) = p.1 ∧ s.look ((A : Int) + 2) = p.2) ∨
     (2 ≤ ps.length ∧ ∃ D E, LaidI s (Laid s g) A B x ps D E)) := by
  cases f with
  | zero => exact h.elim
  | succ f =>
    refine ⟨f, rfl, ?_⟩
    rw [Laid_succ] at h
    split at h
    · rename_i h0
      exact .inl ⟨List.length_eq_zero_iff.1 h0, h⟩
    · split at h
      · rename_i h1
        obtain ⟨p, rfl⟩ := List.length_eq_one_iff.1 h1
        exact .inr (.inl ⟨p, rfl, h⟩)
      · exact .inr (.inr ⟨by omega, h⟩)
theorem Laid.inner {s : Mst} {g A B D : Nat} {E : Nat → Nat} {x : Int} {ps : List (Int × Int)} (h2 : 2 ≤ ps.length) (h : LaidI s (Laid s g) A B x ps D E) : Laid s (g + 1) A B x ps := by
  rw [Laid_succ, if_neg (by omega), if_neg (by omega)]
  exact ⟨D, E, h⟩
/-- The cells of each kid lie within. -/
theorem steps_mono {D : Nat} {E : Nat → Nat} (hK : ∀ i, i < D → E i < E (i + 1)) : ∀ j, j ≤ D → ∀ i, i ≤ j → E i ≤ E j := by
  intro j
  induction j with
  | zero => intro _ i hi; have := Nat.le_zero.1 hi; subst this; exact Nat.le_refl _
  | succ j ih =>
    intro hj i hi
    by_cases e : i = j + 1
    · subst e; exact Nat.le_refl _
    · have h1 := ih (by omega) i (by omega)
      have h2 := hK j (by omega)
      omega
theorem laid_lt {s : Mst} : ∀ {f A B : Nat} {x : Int} {ps : List (Int × Int)}, Laid s f A B x ps → A < B ∧ 8 * ((A : Int) + 1) < x ∧ x < 8 * ((B : Int) + 1)
  | 0, _, _, _, _, h => h.elim
  | f + 1, A, B, x, ps, h => by
    obtain ⟨g, e, h⟩ := h.cases
    cases e
    rcases h with ⟨rfl, rfl, rfl⟩ | ⟨p, rfl, rfl, rfl, _⟩ | ⟨h2, D, E, h⟩
    · omega
    · omega
    · have hm := steps_mono (fun i hi => (laid_lt (h.kids i hi)).1) D (Nat.le_refl _) 0 (Nat.zero_le _)
      rw [h.e0] at hm
      have := h.b
      have := h.word
      omega
theorem LaidI.up {s : Mst} {g A B D : Nat} {E : Nat → Nat} {x : Int} {ps : List (Int × Int)} (h : LaidI s (Laid s g) A B x ps D E) : ∀ i, i ≤ D → A ≤ E i ∧ E i ≤ E D ∧ E D < B := by
  intro i hi
  have hm := steps_mono (fun i hi => (laid_lt (h.kids i hi)).1)
  have h1 := hm i hi 0 (Nat.zero_le _)
  have h2 := hm D (Nat.le_refl _) i hi
  rw [h.e0] at h1
  have := h.b
  omega
/-- What is laid is laid in each memory that holds the same there. -/
theorem laid_same {s s' : Mst} : ∀ {f A B : Nat} {x : Int} {ps : List (Int × Int)}, Laid s f A B x ps → (∀ j : Int, (A : Int) < j → j ≤ (B : Int) → s'.look j = s.look j) → Laid s' f A B x ps
  | 0, _, _, _, _, h, _ => h.elim
  | f + 1, A, B, x, ps, h, hs => by
    obtain ⟨g, e, h⟩ := h.cases
    cases e
    rcases h with ⟨rfl, rfl, rfl⟩ | ⟨p, rfl, rfl, rfl, h1, h2⟩ | ⟨h2, D, E, h⟩
    · rw [Laid_succ, if_pos (by simp)]; exact ⟨rfl, rfl⟩
    · rw [Laid_succ, if_neg (by simp), if_pos (by simp)]
      exact ⟨rfl, rfl, by rw [hs _ (by omega) (by omega), h1]; rfl, by rw [hs _ (by omega) (by omega), h2]; rfl⟩
    · have hu := h.up D (Nat.le_refl _)
      have hb := h.b
      have d1 := h.two
      refine Laid.inner h2 ⟨h.deg, h.two, h.e0, fun i hi => ?_, h.b, h.word, ?_, ?_, ?_, ?_, ?_, fun i h1 hi => ?_⟩
      · have h3 := h.up i (by omega)
        have h4 := h.up (i + 1) (by omega)
        rw [hs _ (by unfold childS; omega) (by unfold childS; omega)]
        exact laid_same (h.kids i hi) (fun j hj1 hj2 => hs j (by omega) (by omega))
      · rw [hs _ (by omega) (by omega)]; exact h.l0
      · rw [hs _ (by omega) (by omega)]; exact h.l1
      · rw [hs _ (by omega) (by omega)]; exact h.l2
      · rw [hs _ (by omega) (by omega)]; exact h.l3
      · rw [hs _ (by omega) (by omega)]; exact h.l4
      · rw [hs _ (by omega) (by omega)]; exact h.lk i h1 hi

theorem ofZ_in {k t : Int} (h1 : 1 ≤ k) (h2 : k ≤ 5) (h3 : 1 ≤ t) (h4 : t ≤ 65536) : Rf.ofZ k t = 8 * t + k := by
  simp [Rf.ofZ, Rf.may, h1, h2, h3, h4]
/-- A record that fits. -/
theorem rec_in {s : Mst} {k : Int} {ws : List Int} (h0 : 0 < ws.length) (hf : (s.xs.length : Int) + ws.length ≤ s.size) (ht : s.size ≤ 65536) (k1 : 1 ≤ k) (k5 : k ≤ 5) :
    recS s k ws = (8 * ((s.xs.length : Int) + 1) + k, { s with xs := s.xs ++ ws, count := wrap64 (s.count + 1) }) := by
  have hfit : s.fits ws.length = true := by simp [Mst.fits, h0, hf]
  rw [recS, Mst.next, if_pos hfit, Mst.make, if_pos hfit, ofZ_in k1 k5 (by omega) (by omega)]
theorem look_new {s s' : Mst} {ws : List Int} (h : s'.xs = s.xs ++ ws) {i : Nat} {z : Int} (hz : ws[i]? = some z) {j : Int} (hj : j = (s.xs.length : Int) + 1 + i) : s'.look j = z := by
  have : s'.xs[s.xs.length + i]? = some z := by rw [h, List.getElem?_append_right (by omega), Nat.add_sub_cancel_left]; exact hz
  have h2 := Mst.look_succ (s := s') this
  rw [hj, ← h2]
  congr 1
  omega
theorem look_old {s s' : Mst} {ws : List Int} (h : s'.xs = s.xs ++ ws) {j : Int} (h1 : 1 ≤ j) (h2 : j ≤ (s.xs.length : Int)) : s'.look j = s.look j := by
  obtain ⟨i, rfl⟩ : ∃ i : Nat, j = (i : Int) + 1 := ⟨(j - 1).toNat, by omega⟩
  have hi : i < s.xs.length := by omega
  have e : s.xs[i]? = some s.xs[i] := List.getElem?_eq_getElem hi
  rw [Mst.look_succ e, Mst.look_succ (z := s.xs[i])]
  rw [h, List.getElem?_append_left hi]
  exact e
theorem lowL_at (ps : List (Int × Int)) : ∀ (n i : Nat), 1 ≤ i → i < n → (lowL ps n)[i - 1]? = some ((partL ps (i : Int)).headD (0, 0)).1
  | 0, _, _, h => by omega
  | n + 1, i, h1, h => by
    rw [lowL]
    rw [if_neg (by omega)]
    have hl := lowL_len ps n
    by_cases e : i = n
    · subst e
      rw [List.getElem?_append_right (by omega), hl, Nat.sub_self]
      rfl
    · rw [List.getElem?_append_left (by omega)]
      exact lowL_at ps n i h1 (by omega)
theorem cs_le {n : Int} : ∀ (k i : Nat), (i : Int) + k ≤ Pt.degZ n → Pt.csZ n i ≤ Pt.csZ n ((i + k : Nat) : Int)
  | 0, i, _ => Int.le_refl _
  | k + 1, i, h => by
    have h1 := cs_le (n := n) k i (by omega)
    have h2 := Pt.cs_step (n := n) (i := ((i + k : Nat) : Int)) (by omega) (by omega)
    have h3 := Pt.cel_nat (Pt.sizeZ n ((i + k : Nat) : Int))
    rw [show ((i + (k + 1) : Nat) : Int) = ((i + k : Nat) : Int) + 1 by omega, h2]
    omega

/-- What laying leaves, where there is room. -/
def Lays (s : Mst) (f : Nat) (ps : List (Int × Int)) (r : Int × Mst) : Prop :=
  ∃ ws c, r.2 = { s with xs := s.xs ++ ws, count := c } ∧ (ws.length : Int) = Pt.celZ ps.length ∧ Laid r.2 f s.xs.length r.2.xs.length r.1 ps
theorem lay_laid : ∀ (f : Nat) (s : Mst) (ps : List (Int × Int)), ps.length < f → ps.length ≤ 16384 → (s.xs.length : Int) + Pt.celZ ps.length ≤ s.size → s.size ≤ 65536 → Lays s f ps (layF f s ps)
  | 0, _, _, h, _, _, _ => by omega
  | f + 1, s, ps, hf, hm, hr, ht => by
    rw [layF_succ]
    by_cases h0 : ps.length = 0
    · rw [if_pos h0]
      obtain rfl := List.length_eq_zero_iff.1 h0
      rw [show (([] : List (Int × Int)).length : Int) = 0 from rfl, Pt.cel_is_0] at hr
      rw [rec_in (by simp) (by simpa using hr) ht (by decide) (by decide)]
      refine ⟨[0], _, rfl, by rfl, ?_⟩
      rw [Laid_succ, if_pos (by simp)]
      exact ⟨rfl, by simp⟩
    · rw [if_neg h0]
      by_cases h1 : ps.length = 1
      · rw [if_pos h1]
        obtain ⟨p, rfl⟩ := List.length_eq_one_iff.1 h1
        rw [show (([p] : List (Int × Int)).length : Int) = 1 from rfl, Pt.cel_is_1] at hr
        rw [rec_in (by simp) (by simpa using hr) ht (by decide) (by decide)]
        refine ⟨[p.1, p.2], _, rfl, by rfl, ?_⟩
        rw [Laid_succ, if_neg (by simp), if_pos (by simp)]
        refine ⟨rfl, by simp, ?_, ?_⟩
        · exact look_new (s := s) (ws := [p.1, p.2]) rfl (i := 0) rfl (by omega)
        · exact look_new (s := s) (ws := [p.1, p.2]) rfl (i := 1) rfl (by omega)
      · rw [if_neg h1]
        have db := Pt.deg_bound (n := (ps.length : Int)) (by omega) (by omega)
        obtain ⟨D, hD⟩ : ∃ D : Nat, Pt.degZ (ps.length : Int) = (D : Int) := ⟨(Pt.degZ ps.length).toNat, by omega⟩
        have ce := Pt.cs_end (n := (ps.length : Int)) (by omega)
        rw [hD] at db ce
        rw [hD, show ((D : Int)).toNat = D from rfl]
        have kids : ∀ i, i ≤ D → ∃ ws c, (kidF (layF f) ps s i).2 = { s with xs := s.xs ++ ws, count := c } ∧ (ws.length : Int) = Pt.csZ (ps.length : Int) i ∧ (∀ j, j ≤ i → (kidF (layF f) ps s j).2.xs.length ≤ (kidF (layF f) ps s i).2.xs.length) ∧
            ∀ j, j < i → ∃ z, (kidF (layF f) ps s i).1[j]? = some z ∧ Laid (kidF (layF f) ps s i).2 f (kidF (layF f) ps s j).2.xs.length (kidF (layF f) ps s (j + 1)).2.xs.length z (partL ps (j : Int)) := by
          intro i
          induction i with
          | zero =>
            intro _
            exact ⟨[], s.count, by rw [kidF, List.append_nil], by rw [show ((0 : Nat) : Int) = 0 from rfl, Pt.cs_zero (by omega)]; rfl, fun j hj => (by have := Nat.le_zero.1 hj; subst this; exact Nat.le_refl _), fun j hj => by omega⟩
          | succ i ih =>
            intro hi
            obtain ⟨ws, c, e1, e2, e4, e3⟩ := ih (by omega)
            have pl := partL_len (ps := ps) (i := (i : Int)) (by omega) (by omega)
            have sb := Pt.size_bound (n := (ps.length : Int)) (i := (i : Int)) (by omega) (by omega)
            have st := Pt.cs_step (n := (ps.length : Int)) (i := (i : Int)) (by omega) (by omega)
            have le := cs_le (n := (ps.length : Int)) (D - (i + 1)) (i + 1) (by omega)
            rw [show (i + 1 + (D - (i + 1)) : Nat) = D by omega] at le
            have xl : ((kidF (layF f) ps s i).2.xs.length : Int) = s.xs.length + Pt.csZ (ps.length : Int) i := by rw [e1]; simp [e2]
            have zl : (kidF (layF f) ps s i).2.size = s.size := by rw [e1]
            have L := lay_laid f (kidF (layF f) ps s i).2 (partL ps (i : Int)) (by omega) (by omega) (by rw [pl, xl, zl]; rw [show ((i + 1 : Nat) : Int) = (i : Int) + 1 by omega, st] at le; omega) (by rw [zl]; exact ht)
            obtain ⟨ws', c', g1, g2, g3⟩ := L
            have k2 : (kidF (layF f) ps s (i + 1)).2 = (layF f (kidF (layF f) ps s i).2 (partL ps (i : Int))).2 := rfl
            have k1 : (kidF (layF f) ps s (i + 1)).1 = (kidF (layF f) ps s i).1 ++ [(layF f (kidF (layF f) ps s i).2 (partL ps (i : Int))).1] := rfl
            have kl := kidF_len (layF f) ps s i
            have hx : (kidF (layF f) ps s (i + 1)).2.xs = (kidF (layF f) ps s i).2.xs ++ ws' := by rw [k2, g1]
            have hxl : (kidF (layF f) ps s i).2.xs.length ≤ (kidF (layF f) ps s (i + 1)).2.xs.length := by rw [hx, List.length_append]; omega
            refine ⟨ws ++ ws', c', ?_, ?_, ?_, ?_⟩
            · rw [k2, g1, e1, List.append_assoc]
            · rw [List.length_append, show ((i + 1 : Nat) : Int) = (i : Int) + 1 by omega, st, Int.natCast_add, e2, g2, pl]
            · intro j hj
              by_cases e : j = i + 1
              · subst e; exact Nat.le_refl _
              · exact Nat.le_trans (e4 j (by omega)) hxl
            · intro j hj
              by_cases e : j = i
              · subst e
                refine ⟨_, by rw [k1, List.getElem?_append_right (by omega), kl, Nat.sub_self]; rfl, ?_⟩
                rw [k2]
                exact g3
              · obtain ⟨z, h3, h4⟩ := e3 j (by omega)
                refine ⟨z, by rw [k1, List.getElem?_append_left (by omega)]; exact h3, ?_⟩
                refine laid_same h4 (fun q hq1 hq2 => look_old hx (by omega) ?_)
                have := e4 (j + 1) (by omega)
                omega
        obtain ⟨ws, c, e1, e2, e4, e3⟩ := kids D (Nat.le_refl _)
        have kl := kidF_len (layF f) ps s D
        have ql := lowL_len ps D
        have il := innerL_length (ps.length : Int) (lowL ps D) (kidF (layF f) ps s D).1
        rw [kl, ql] at il
        have xl : ((kidF (layF f) ps s D).2.xs.length : Int) = s.xs.length + Pt.csZ (ps.length : Int) D := by rw [e1]; simp [e2]
        have zl : (kidF (layF f) ps s D).2.size = s.size := by rw [e1]
        rw [rec_in (by omega) (by rw [xl, il, zl]; omega) (by rw [zl]; exact ht) (by decide) (by decide)]
        obtain ⟨s1, hs1⟩ : ∃ s1, (kidF (layF f) ps s D).2 = s1 := ⟨_, rfl⟩
        obtain ⟨cs, hcs⟩ : ∃ cs, (kidF (layF f) ps s D).1 = cs := ⟨_, rfl⟩
        rw [hs1, hcs]
        rw [hs1] at e1 e3 xl
        rw [hcs] at e3 kl il
        obtain ⟨s2, hs2⟩ : ∃ s2 : Mst, { s1 with xs := s1.xs ++ innerL (ps.length : Int) (lowL ps D) cs, count := wrap64 (s1.count + 1) } = s2 := ⟨_, rfl⟩
        have hx2 : s2.xs = s1.xs ++ innerL (ps.length : Int) (lowL ps D) cs := by rw [← hs2]
        have ED : (kidF (layF f) ps s D).2.xs.length = s1.xs.length := by rw [hs1]
        have look : ∀ (i : Nat) (z : Int), (innerL (ps.length : Int) (lowL ps D) cs)[i]? = some z → s2.look ((s1.xs.length : Int) + 1 + i) = z := fun i z hz => look_new hx2 hz rfl
        rw [hs2]
        refine ⟨ws ++ innerL (ps.length : Int) (lowL ps D) cs, wrap64 (s1.count + 1), ?_, ?_, ?_⟩
        · rw [← hs2, e1]
          simp
        · rw [List.length_append, Int.natCast_add, e2, il]
          omega
        · refine Laid.inner (by omega) (D := D) (E := fun j => (kidF (layF f) ps s j).2.xs.length) ⟨hD, by omega, rfl, ?_, ?_, ?_, ?_, ?_, ?_, ?_, ?_, ?_⟩
          · intro i hi
            obtain ⟨z, h3, h4⟩ := e3 i hi
            have hz : s2.look (childS ((kidF (layF f) ps s D).2.xs.length + 1) D i) = z := by
              have := look (4 + D + i) z (by
                unfold innerL
                rw [List.getElem?_append_right (by simp; omega), List.getElem?_append_right (by simp [ql]; omega), ← h3]
                congr 1
                simp [ql]
                omega)
              rw [← this, ED]
              unfold childS
              congr 1
              omega
            show Laid s2 f _ _ (s2.look (childS ((kidF (layF f) ps s D).2.xs.length + 1) D i)) _
            rw [hz]
            refine laid_same h4 (fun q hq1 hq2 => look_old hx2 (by omega) ?_)
            have := e4 (i + 1) (by omega)
            rw [ED] at this
            omega
          · show s2.xs.length = (kidF (layF f) ps s D).2.xs.length + 4 + 2 * D
            rw [ED, hx2, List.length_append, il]
            omega
          · show 8 * ((s1.xs.length : Int) + 1) + 3 = 8 * (((kidF (layF f) ps s D).2.xs.length : Int) + 1) + 3
            rw [ED]
          · show s2.look (((kidF (layF f) ps s D).2.xs.length : Int) + 1) = _
            rw [ED, ← look 0 (D : Int) (by simp [innerL, kl])]
            congr 1
          · show s2.look (((kidF (layF f) ps s D).2.xs.length : Int) + 2) = _
            rw [ED, ← look 1 (ps.length : Int) (by simp [innerL])]
            congr 1
          · show s2.look (((kidF (layF f) ps s D).2.xs.length : Int) + 3) = _
            rw [ED, ← look 2 0 (by simp [innerL])]
            congr 1
          · show s2.look (((kidF (layF f) ps s D).2.xs.length : Int) + 4) = _
            rw [ED, ← look 3 0 (by simp [innerL])]
            congr 1
          · show s2.look (((kidF (layF f) ps s D).2.xs.length : Int) + 5) = _
            rw [ED, ← look 4 0 (by simp [innerL])]
            congr 1
          · intro i h1 hi
            show s2.look (((kidF (layF f) ps s D).2.xs.length : Int) + 5 + i) = _
            rw [ED, ← look (4 + i) ((partL ps (i : Int)).headD (0, 0)).1 (by
              unfold innerL
              rw [List.getElem?_append_right (by simp; omega), List.getElem?_append_left (by simp [ql]; omega), ← lowL_at ps D i h1 hi]
              congr 1
              simp
              omega)]
            congr 1
            omega
end Go.Proofs.Ytgialpjdfeldeaa

/-! PlantRoom's walk: a tree is built just if there are as many cells left as it needs. No conditions beyond each theorem's own. -/
namespace Go.Proofs.Ytgialpjdfeldeaa
open Go.RowKit
set_option maxRecDepth 20000

/-- A slice of pairs that was told, where it lies. -/
theorem PRow.form {w : World} {n₀ : Nat} {E : TypeId} {v : Value} {xs : List (Int × Int)} (h : PRow w n₀ E v xs) : ∃ a cap, v = .slice a xs.length cap ∧ PReads w a xs ∧ xs.length ≤ cap ∧ cap ≤ maxLen ∧ (a = none → cap = 0) ∧ ∀ ad, a = some ad → n₀ ≤ ad.block ∧ ad.block < w.heap.size := by
  obtain ⟨a, cap, rfl, h1, h2, h3, h4, h5⟩ := h.reads
  refine ⟨a, cap, rfl, h1, h2, h3, h4, fun ad e => ⟨h5 ad e, ?_⟩⟩
  subst e
  rcases h.2 with ⟨e, _⟩ | ⟨g, cap', cur, e, hg, hh, _⟩
  · cases e
  · cases e
    exact (Array.getElem?_eq_some_iff.1 hh).1
/-- Build of a list that lay ahead of the memory. -/
theorem now_bfar (w W : World) (b : Nat) (s : Mst) (a : Option Addr) (ps : List (Int × Int)) (M cap : Nat) (h : Now w W b s) (hr : PReads w a ps) (hM : ps.length = M) (hc : M ≤ cap) (hcm : cap ≤ maxLen) (ha : ∀ ad, a = some ad → ad.block < w.heap.size) (z : Int) (r : Bool) (s' : Mst) (e1 : buildS s ps = ((z, r), s')) :
    Calls Try.prog 11 #[.pointer (some ⟨b, 0, none⟩), .slice a M cap] W fun e W' => e = .returned (.tuple #[.int .i64 z, .bool r]) ∧ Now w W' b s' :=
  now_build w W b s a ps M cap h (hr.kept h.2) hM hc hcm (fun v hv ad e hf => by have h1 := ha ad e; have h2 := (hv.lt _ hf).1; omega) z r s' e1
theorem ascB_up {ps : List (Int × Int)} (h : (ps.map Prod.fst).Pairwise (· < ·)) (hl : ps.length ≤ 16384) : ascB ps = true := ascB_iff.2 ⟨hl, h⟩
/-- Where there is room. -/
theorem buildS_in {s : Mst} {ps : List (Int × Int)} (h : ascB ps = true) (hr : (s.xs.length : Int) + Pt.celZ ps.length ≤ s.size) (ht : s.size ≤ 65536) : ∃ z s' ws c, buildS s ps = ((z, true), s') ∧ s' = { s with xs := s.xs ++ ws, count := c } ∧ (ws.length : Int) = Pt.celZ ps.length ∧ Laid s' (ps.length + 1) s.xs.length s'.xs.length z ps := by
  obtain ⟨ws, c, h1, h2, h3⟩ := lay_laid (ps.length + 1) s ps (by omega) (ascB_iff.1 h).1 hr ht
  exact ⟨_, _, ws, c, by rw [buildS, if_pos ⟨h, by omega⟩], h1, h2, h3⟩

set_option maxHeartbeats 4000000 in
theorem plantRoom_c (w : World) (a : Option Addr) (zs : List Int) (cap : Nat) (more : Int) (hr : Reads w a zs) (hc : zs.length ≤ cap) (hm : cap ≤ maxLen) :
    Calls Try.prog 6 #[.slice a zs.length cap, .int .i64 more] w fun e w' => e = .returned (.bool true) ∧ Kept w w' := by
  have HP := hide (Mp.pairs_c w a zs zs.length cap rfl hr hc hm)
  have up := Mp.pairsP_up zs
  have le := Mp.pairsP_le zs
  obtain ⟨ps, hps⟩ : ∃ ps, Mp.pairsP zs = ps := ⟨_, rfl⟩
  rw [hps] at HP up le
  obtain ⟨M, hM⟩ : ∃ M, ps.length = M := ⟨_, rfl⟩
  have hb := ascB_up up (by omega)
  have cb := Pt.cel_nat (M : Int)
  have cb2 : Pt.celZ (M : Int) ≤ 592 := by
    by_cases h0 : M = 0
    · subst h0; decide
    · have := Pt.cel_bound (n := (M : Int)) (by omega)
      omega
  have HC : Hid (∀ W : World, Calls Try.prog 30 #[.int .i64 (M : Int)] W fun e W' => e = .returned (.int .i64 (Pt.celZ (M : Int))) ∧ Kept W W') := hide (fun W => (Pt.cells_c (M : Int) (I64.wf ⟨by omega, by omega⟩) W).mono fun _ _ ⟨h1, k, h2⟩ => ⟨h1, by rw [h2]; exact Kept.drewN _ _⟩)
  obtain ⟨C, hC⟩ : ∃ C, Pt.celZ (M : Int) = C := ⟨_, rfl⟩
  rw [hC] at HC cb cb2
  obtain ⟨y, hy⟩ : ∃ y, more % 5 = y := ⟨_, rfl⟩
  have y1 : 0 ≤ y := by omega
  have y2 : y < 5 := by omega
  have HY := hide hy
  have HMM := hide hM
  have m60 : (M : Int) ≤ 60 := by omega
  have BN : Hid (∀ n : Int, C ≤ n → n ≤ 65536 → ∃ z s', buildS (Mst.new n) ps = ((z, true), s') ∧ (s'.xs.length : Int) = C ∧ s'.ref = 0 ∧ s'.odd = 0) := hide (fun n h1 h2 => by
    obtain ⟨z, s', ws, c, e1, e2, e3, _⟩ := buildS_in (s := Mst.new n) hb (by rw [hM, hC]; simpa [Mst.new] using h1) (by simpa [Mst.new] using h2)
    exact ⟨z, s', e1, by rw [e2, ← hC, ← hM, ← e3]; simp [Mst.new], by rw [e2]; rfl, by rw [e2]; rfl⟩)
  have BO : Hid (∀ n : Int, n < C → buildS (Mst.new n) ps = ((0, false), Mst.new n)) := hide (fun n h1 => by
    rw [buildS, if_neg (by rw [hM, hC]; simp [Mst.new]; omega)])
  clear hr hm up hps hb hC hy le hM
  go_enter Try.func6, Try.ntmps6
  go_wp2_with (fail)
  refine HP.out.mono ?_
  rintro e W1 ⟨v1, rfl, row1, k1⟩
  obtain ⟨a1, c1, rfl, pr1, l1, m1, -, b1⟩ := PRow.form row1
  rw [HMM.out] at l1 ⊢
  have K1 := hide k1
  have PR1 := hide pr1
  have M1 := hide m1
  have B1 := hide (fun ad e => (b1 ad e).2)
  clear k1 row1 pr1 m1 b1 HP
  go_wp2_with (fail)
  refine (HC.out W1).mono ?_
  rintro e W2 ⟨rfl, k2⟩
  have K2 := hide k2
  clear k2
  go_wp2_with (fail)
  refine (cut_g _ more 5 (by decide) (by decide)).mono ?_
  rw [HY.out]
  rintro e W3 ⟨rfl, rfl⟩
  by_cases hn : C + y - 2 < 1
  · go_wp2_with (fail)
    refine (known_c _).mono ?_
    rintro e W4 ⟨rfl, k4⟩
    have K4 := hide ((K1.out.trans K2.out).trans k4)
    clear k4
    go_wp2
    go_ret
    exact ⟨rfl, K4.out⟩
  · obtain ⟨n, hn2⟩ : ∃ n, C + y - 2 = n := ⟨_, rfl⟩
    have n1 : 1 ≤ n := by omega
    have n2 : n ≤ 65536 := by omega
    have n3 : ¬ n < 1 := by omega
    go_wp2_with (fail)
    refine (now_new W1 _ n K2.out n1 n2).mono ?_
    rintro e W4 ⟨rfl, h4, -⟩
    have H4 := hide h4
    clear h4
    by_cases hfit : C ≤ n
    · obtain ⟨z, s', e1, e2, e3, e4⟩ := BN.out n hfit n2
      have E1 := hide e1
      have E2 := hide e2
      have E3 := hide e3
      have E4 := hide e4
      clear e1 e2 e3 e4
      go_wp2_with (fail)
      refine (now_bfar W1 W4 _ _ a1 ps M c1 H4.out PR1.out HMM.out l1 M1.out B1.out z true s' E1.out).mono ?_
      rintro e W5 ⟨rfl, h5⟩
      have H5 := hide h5
      clear h5 H4
      go_wp2_with (fail)
      refine (known_c _).mono ?_
      rintro e W6 ⟨rfl, k6⟩
      have H6 := hide (H5.out.on k6)
      clear k6 H5
      go_wp2_with (fail)
      refine (HC.out _).mono ?_
      rintro e W7 ⟨rfl, k7⟩
      have H7 := hide (H6.out.on k7)
      clear H6 k7
      go_wp2_with (fail)
      refine (now_used W1 _ _ s' C H7.out E2.out).mono ?_
      rintro e W8 ⟨rfl, rfl⟩
      go_wp2_with (fail)
      refine (HC.out _).mono ?_
      rintro e W9 ⟨rfl, k9⟩
      have H9 := hide (H7.out.on k9)
      clear H7 k9
      go_wp2_with (fail)
      refine (refused_n W1 _ _ s' 0 H9.out E3.out).mono ?_
      rintro e W8 ⟨rfl, rfl⟩
      go_wp2_with (fail)
      refine (odd_n W1 _ _ s' 0 H9.out E4.out).mono ?_
      rintro e W8 ⟨rfl, rfl⟩
      have K9 := hide (K1.out.trans H9.out.2)
      go_wp2
      go_ret
      exact ⟨rfl, K9.out⟩
    · have g1 : n < C := by omega
      have E1 := hide (BO.out n g1)
      go_wp2_with (fail)
      refine (now_bfar W1 W4 _ _ a1 ps M c1 H4.out PR1.out HMM.out l1 M1.out B1.out 0 false _ E1.out).mono ?_
      rintro e W5 ⟨rfl, h5⟩
      have H5 := hide h5
      clear h5 H4
      go_wp2_with (fail)
      refine (known_c _).mono ?_
      rintro e W6 ⟨rfl, k6⟩
      have H6 := hide (H5.out.on k6)
      clear k6 H5
      go_wp2_with (fail)
      refine (HC.out _).mono ?_
      rintro e W7 ⟨rfl, k7⟩
      have H7 := hide (H6.out.on k7)
      clear H6 k7
      go_wp2_with (fail)
      refine (now_used W1 _ _ _ 0 H7.out rfl).mono ?_
      rintro e W8 ⟨rfl, rfl⟩
      go_wp2_with (fail)
      refine (count_n W1 _ _ _ 0 H7.out rfl).mono ?_
      rintro e W8 ⟨rfl, rfl⟩
      have K9 := hide (K1.out.trans H7.out.2)
      go_wp2
      go_ret
      exact ⟨rfl, K9.out⟩
end Go.Proofs.Ytgialpjdfeldeaa

/-! What the accesses of the document's memory answer, and what they turn, at a memory as it lies (DMem). -/
namespace Go.Proofs.Ytgialpjdfeldeaa
open Go.RowKit

/-- The box behind a count. -/
theorem count_d {w : World} {n₀ b : Nat} {v : Value} {s : Mst} (h : DMem w n₀ b v s) (c : Int) : DMem (w.setCell ⟨b, 2, none⟩ (.int .i64 c)) n₀ b v { s with count := c } :=
  h.boxed (by decide) (Turned.setCell _ _ _ rfl) (by rw [box_set _ h.box]; rfl) rfl rfl
theorem odd_d {w : World} {n₀ b : Nat} {v : Value} {s : Mst} (h : DMem w n₀ b v s) (c : Int) : DMem (w.setCell ⟨b, 3, none⟩ (.int .i64 c)) n₀ b v { s with odd := c } :=
  h.boxed (by decide) (Turned.setCell _ _ _ rfl) (by rw [box_set _ h.box]; rfl) rfl rfl
theorem ref_d {w : World} {n₀ b : Nat} {v : Value} {s : Mst} (h : DMem w n₀ b v s) (c : Int) : DMem (w.setCell ⟨b, 4, none⟩ (.int .i64 c)) n₀ b v { s with ref := c } :=
  h.boxed (by decide) (Turned.setCell _ _ _ rfl) (by rw [box_set _ h.box]; rfl) rfl rfl


/-- What a store into the row leaves. -/
theorem put_d {w w1 : World} {n₀ b g cap j : Nat} {s : Mst} (hj : j < s.xs.length) (h : DMem w1 n₀ b (.slice (some ⟨g, 0, none⟩) s.xs.length cap) (s.touch ((j : Int) + 1))) (t : Turned (fun k => k = b) w w1) (x : Int) :
    DMem (w1.setCell ⟨g, j, none⟩ (.int .i64 x)) n₀ b (.slice (some ⟨g, 0, none⟩) s.xs.length cap) (s.write ((j : Int) + 1) x) ∧ Turned (Foot b (.slice (some ⟨g, 0, none⟩) s.xs.length cap)) w (w1.setCell ⟨g, j, none⟩ (.int .i64 x)) := by
  rw [Mst.write_in hj]
  rw [Mst.touch_in (Mst.used_succ hj)] at h
  exact ⟨MemAt.stored (T := 70) (s := { s with count := wrap64 (s.count + 1) }) h (by decide) x, t.trans (Turned.setCell (R := Foot b (.slice (some ⟨g, 0, none⟩) s.xs.length cap)) w1 ⟨g, j, none⟩ _ (.inr rfl)) (fun _ e => .inl e) (fun _ _ e => e)⟩
theorem touched_d {w w1 : World} {b : Nat} {v : Value} (t : Turned (fun k => k = b) w w1) : Turned (Foot b v) w w1 := t.mono (fun _ _ e => .inl e)

/-- New, of a size that may be. -/
theorem new_d (w : World) (n : Int) (h0 : 1 ≤ n) (h1 : n ≤ 65536) :
    Calls Try.prog 18 #[.int .i64 n] w fun e w' => e = .returned (.tuple #[.pointer (some ⟨w.heap.size, 0, none⟩), .int .i64 0]) ∧ DMem w' w.heap.size w.heap.size (.slice none 0 0) (Mst.new n) ∧ Kept w w' ∧ w.heap.size < w'.heap.size := by
  have HN : Hid (DMem (w.alloc (.cells (layD (.slice none 0 0) n 0 0 0) 70)) w.heap.size w.heap.size (.slice none 0 0) (Mst.new n)) := hide ⟨Nat.le_refl _, heap_new w _, World.ownsRow_nil _ _ _ _, by show (0 : Int) ≤ n; omega, h1⟩
  go_enter Try.func18, Try.ntmps18
  go_wp2
  go_ret2
  exact ⟨rfl, HN.out, Turned.alloc _ _ _, by simp⟩
/-- New, of one that may not. -/
theorem new0_d (w : World) (n : Int) (h : ¬ (1 ≤ n ∧ n ≤ 65536)) :
    Calls Try.prog 18 #[.int .i64 n] w fun e w' => e = .returned (.tuple #[.pointer none, .int .i64 1]) ∧ w = w' := by
  by_cases h0 : 1 ≤ n
  · have h1 : 65536 < n := by omega
    clear h
    go_enter Try.func18, Try.ntmps18
    go_wp2
    go_ret2
    exact ⟨rfl, rfl⟩
  · have h1 : n < 1 := by omega
    clear h
    go_enter Try.func18, Try.ntmps18
    go_wp2
    go_ret2
    exact ⟨rfl, rfl⟩
end Go.Proofs.Ytgialpjdfeldeaa

/-! What Make of the document's memory answers, and what it turns, at a memory as it lies (DMem). -/
namespace Go.Proofs.Ytgialpjdfeldeaa
open Go.RowKit

theorem info2_d : (Try.prog.info? 2).map (fun i => (i.zero, i.size, i.bytes)) = some (some (.int .i64 0), 1, 8) := by kernel_rfl

/-- The store of the longer slice into the box. -/
theorem slice_d {w : World} {n₀ b : Nat} {v v' : Value} {s : Mst} {ys : List Int} (hle : n₀ ≤ b) (hb : w.heap[b]? = some (.cells (layD v s.size s.count s.odd s.ref) 70)) (hr : Row w n₀ 2 v' ys) (hne : v'.ownBlock ≠ some b) (h1 : (ys.length : Int) ≤ s.size) (h2 : s.size ≤ 65536) :
    DMem (w.setCell ⟨b, 1, none⟩ v') n₀ b v' { s with xs := ys } := by
  refine ⟨hle, by rw [box_set _ hb]; rfl, ?_, h1, h2⟩
  obtain ⟨r1, r2⟩ := hr
  refine ⟨r1, ?_⟩
  rcases r2 with r2 | ⟨g, cap, cur, rfl, hg, hh, r⟩
  · exact .inl r2
  · exact .inr ⟨g, cap, cur, rfl, hg, (Below.heap_setCell w ⟨b, 1, none⟩ _ g (fun e => hne (by rw [e]; rfl))).trans hh, r⟩

/-- What a Make leaves, behind its append. -/
theorem made_d {w w0 w1 : World} {n₀ b g cap m : Nat} {v : Value} {s : Mst} {ws : List Int} (h : DMem w0 n₀ b v s) (t : Turned (fun k => k = b) w w0) (hm : ws.length = m) (hfit : (s.xs.length : Int) + m ≤ s.size)
    (hown : w1.ownsRow n₀ 2 1 (.slice (some ⟨g, 0, none⟩) (s.xs.length + m) cap) (s.xs.length + m) (cellsOf s.xs ++ cellsOf ws)) (hg : w0.grownBy w1 v.ownBlock) (hat : v.ownBlock = some g ∨ g = w0.heap.size) :
    Does 70 layD n₀ b v { s with xs := s.xs ++ ws } w (w1.setCell ⟨b, 1, none⟩ (.slice (some ⟨g, 0, none⟩) (s.xs.length + m) cap)) := by
  obtain ⟨hb, hne, hr⟩ := h.appended (by decide) hm hown hg
  refine ⟨_, slice_d h.le hb hr (fun e => hne (by simpa [Value.ownBlock] using e)) (by rw [List.length_append, hm]; exact_mod_cast hfit) h.top, ?_, ?_⟩
  · exact (t.trans (Turned.of_grownBy (R := Foot b v) hg (fun k hk => .inr hk)) (fun _ e => .inl e) (fun _ _ e => e)).trans (Turned.setCell (R := Foot b v) w1 ⟨b, 1, none⟩ _ (.inl rfl)) (fun _ e => e) (fun _ _ e => e)
  · rintro k (rfl | hk)
    · exact .inl (.inl rfl)
    · obtain rfl : g = k := by simpa [Value.ownBlock] using hk
      rcases hat with e | e
      · exact .inl (.inr e)
      · exact .inr (by have := t.size; omega)

/-- The cells of a slice that reads as these numbers. -/
theorem news_d {w : World} {bl off : Nat} {ws : List Int} (h : ∀ j z, ws[j]? = some z → w.cell? ⟨bl, off + j, none⟩ = some (.int .i64 z)) : ∀ (j : Nat) (u : Value), (cellsOf ws)[j]? = some u → w.cell? ((⟨bl, off, none⟩ : Addr).add j) = some u := by
  intro j u hu
  have hadd : (⟨bl, off, none⟩ : Addr).add j = ⟨bl, off + j, none⟩ := by unfold Addr.add; split <;> simp_all
  rw [hadd]
  rw [cellsOf, List.getElem?_map] at hu
  cases hz : ws[j]? with
  | none => rw [hz] at hu; cases hu
  | some z =>
    rw [hz] at hu
    obtain rfl : Value.int .i64 z = u := by simpa using hu
    exact h j z hz

set_option maxRecDepth 4000 in
/-- Make -/
theorem make_d (w : World) (n₀ b : Nat) (v : Value) (s : Mst) (a : Option Addr) (ws : List Int) (cw : Nat) (h : DMem w n₀ b v s) (hn : n₀ ≤ w.heap.size) (hr : Reads w a ws) (hlw : ws.length ≤ maxLen) (hs : ws ≠ [] → ∀ ad, a = some ad → ad.block ≠ b) :
    Calls Try.prog 20 #[.pointer (some ⟨b, 0, none⟩), .slice a ws.length cw] w fun e w' => e = .returned (.tuple #[.int .i64 (s.next ws), .bool (s.fits ws.length)]) ∧ Does 70 layD n₀ b v (s.make ws) w w' := by
  obtain ⟨⟨c0, c1, c2, c3, c4⟩, f⟩ := h.opened
  have f2 := f 2
  have f4 := f 4
  have fc := f 1
  have hl := h.len
  have hroom := h.room
  have htop := h.top
  unfold maxLen at hlw
  have h1 := count_d h (wrap64 (s.count + 1))
  have H1 := hide h1
  have H2 := hide (ref_d h1 (wrap64 (s.ref + 1)))
  have T1 := hide (Turned.setCell (R := fun k => k = b) w ⟨b, 2, none⟩ (.int .i64 (wrap64 (s.count + 1))) rfl)
  obtain ⟨a0, cap, rfl, _⟩ := h.form
  rw [Mst.next, Mst.make]
  cases hf : s.fits ws.length with
  | false =>
    rw [if_neg (by simp), if_neg (by simp)]
    have HN : ¬ (0 < ws.length ∧ (s.xs.length : Int) + ws.length ≤ s.size) := fun e => by simp [Mst.fits, e.1, e.2] at hf
    have HD : Hid (∀ k, Does 70 layD n₀ b (.slice a0 s.xs.length cap) { s with count := wrap64 (s.count + 1), ref := wrap64 (s.ref + 1) } w (((w.setCell ⟨b, 2, none⟩ (.int .i64 (wrap64 (s.count + 1)))).drewN k).setCell ⟨b, 4, none⟩ (.int .i64 (wrap64 (s.ref + 1))))) := hide (fun k => Does.same (ref_d (h1.kept (Kept.drewN _ k)) (wrap64 (s.ref + 1)))
      ((T1.out.trans (Turned.drewN (fun _ => False) _ k) (fun _ e => e) (fun _ _ e => e.elim)).trans (Turned.setCell (R := fun k => k = b) _ ⟨b, 4, none⟩ _ rfl) (fun _ e => .inl e) (fun _ _ e => .inl e)))
    by_cases h0 : ws.length = 0
    · have n0 : ((ws.length : Int) == 0) = true := by simp [h0]
      clear h h1 f hr hs hf HN
      go_enter Try.func20, Try.ntmps20
      go_wp2
      go_quiet (fail)
      go_wp2
      go_ret2
      exact ⟨rfl, HD.out _⟩
    · have n0 : ((ws.length : Int) == 0) = false := by simp only [beq_eq_false_iff_ne, ne_eq]; omega
      have n1 : s.size - (s.xs.length : Int) < (ws.length : Int) := by omega
      clear h h1 f hr hs hf HN
      go_enter Try.func20, Try.ntmps20
      go_wp2
      go_quiet (fail)
      go_wp2
      go_ret2
      exact ⟨rfl, HD.out _⟩
  | true =>
    rw [if_pos rfl, if_pos rfl]
    obtain ⟨h0, h5⟩ : 0 < ws.length ∧ (s.xs.length : Int) + ws.length ≤ s.size := by simpa [Mst.fits] using hf
    have n0 : ((ws.length : Int) == 0) = false := by simp only [beq_eq_false_iff_ne, ne_eq]; omega
    have n1 : (ws.length : Int) ≤ s.size - (s.xs.length : Int) := by omega
    obtain ⟨bl, off, rfl, hrow⟩ : ∃ bl off, a = some ⟨bl, off, none⟩ ∧ ∀ j z, ws[j]? = some z → w.cell? ⟨bl, off + j, none⟩ = some (.int .i64 z) := by
      rcases hr with e | ⟨bl, off, e, hc⟩
      · rw [e] at h0
        simp at h0
      · exact ⟨bl, off, e, hc⟩
    have hbb : bl ≠ b := hs (List.length_pos_iff.1 h0) _ rfl
    have hrow1 : ∀ k, ∀ j z, ws[j]? = some z → ((w.setCell ⟨b, 2, none⟩ (.int .i64 (wrap64 (s.count + 1)))).drewN k).cell? ⟨bl, off + j, none⟩ = some (.int .i64 z) := fun k j z hz => T1.out.cell (hrow j z hz) hbb
    have HR := hide hrow1
    obtain ⟨i0, hi, hz0, hz1, hz2⟩ := info_parts info2_d
    obtain ⟨W, hW⟩ : ∃ W, w.setCell ⟨b, 2, none⟩ (.int .i64 (wrap64 (s.count + 1))) = W := ⟨_, rfl⟩
    rw [hW] at h1 T1 HR H1
    have d0 := h1.opened.1
    have g0 := h1.opened.2 1
    have d1 := d0.1
    have d2 := d0.2.1
    have HN := hide hn
    have HW := hide hW
    have zW := T1.out.size
    clear h f hr hs hf H2 hrow hrow1 d0 hn hW
    go_enter Try.func20, Try.ntmps20
    go_wp2_with (fail)
    rw [HW.out]
    go_quiet (fail)
    go_wp2_with (at_builtin; refine Stop.out ?_)
    refine ⟨?_⟩
    refine wpList_append_lies _ rfl _ _ 35 rfl n₀ 2 i0 (.int .i64 0) 1 8 Try.underlying35 hi hz0 hz1 hz2 rfl (by decide) (.slice a0 s.xs.length cap) s.xs.length (cellsOf s.xs) rfl h1.row ⟨bl, off, none⟩ ws.length cw (cellsOf ws) rfl (by simp) (news_d (HR.out _)) (ints_oneCell _ _) h0 (by unfold maxLen; omega) (by omega) (Nat.le_trans HN.out zW) W.heap.size rfl ?_
    intro g cap1 w1 hown hgrow' hat hlt
    have hgrow : W.grownBy w1 (Value.slice a0 s.xs.length cap).ownBlock := ⟨hgrow'.os, hgrow'.tape, hgrow'.output, hgrow'.size, hgrow'.block⟩
    clear hgrow'
    have HM := hide (made_d h1 T1.out rfl h5 hown hgrow hat)
    have hb1 := (h1.appended (by decide) rfl hown hgrow).1
    have e0 : w1.cell? ⟨b, 1, none⟩ = some (.slice a0 s.xs.length cap) := by simp [World.cell?, hb1, layD]
    have e1 : w1.frozen? ⟨b, 1, none⟩ = false := by simp [World.frozen?, hb1, layD]
    clear hown hgrow hat hb1 d1 d2 g0 h1
    go_wp2
    go_ret2
    exact ⟨rfl, HM.out⟩
end Go.Proofs.Ytgialpjdfeldeaa

/-! What At, ref.Kind, ref.At and Logic answer, the program's and the document's, of a memory whose state is known: each by an equation; no world is turned. -/
namespace Go.Proofs.Ytgialpjdfeldeaa
open Go.RowKit

/-- A memory of this state lies at b. -/
def PM (w : World) (b : Nat) (s : Mst) : Prop := ∃ n₀ v, PMem w n₀ b v s
theorem PM.kept {w w' : World} {b : Nat} {s : Mst} (h : PM w b s) (k : Kept w w') : PM w' b s := by
  obtain ⟨n₀, v, h⟩ := h
  exact ⟨n₀, v, h.kept k⟩
theorem lk_p (w : World) (b : Nat) (s : Mst) (a r : Int) (h : PM w b s) (e1 : s.look a = r) :
    Calls Try.prog 56 #[.pointer (some ⟨b, 0, none⟩), .int .i64 a] w fun e w' => e = .returned (.int .i64 r) ∧ w = w' := by
  obtain ⟨n₀, v, h⟩ := h
  subst e1
  exact look_p w n₀ b v s a h
theorem kk_p (w : World) (a k : Int) (h : I64 a) (e1 : kd a = k) : Calls Try.prog 60 #[.int .i64 a] w fun e w' => e = .returned (.int .i64 k) ∧ w = w' := by
  subst e1
  refine (Rf.kind_c a h.wf w).mono ?_
  rintro e w' ⟨rfl, rfl⟩
  exact ⟨rfl, rfl⟩
theorem ak_p (w : World) (a k : Int) (h : I64 a) (e1 : ad a = k) : Calls Try.prog 86 #[.int .i64 a] w fun e w' => e = .returned (.int .i64 k) ∧ w = w' := by
  subst e1
  refine (Rf.at_c a h.wf w).mono ?_
  rintro e w' ⟨rfl, rfl⟩
  exact ⟨rfl, rfl⟩
theorem logic_p (w : World) (b : Nat) (s : Mst) (a r : Int) (h : PM w b s) (ho : s.ok) (e1 : s.logicZ a = r) :
    Calls Try.prog 68 #[.pointer (some ⟨b, 0, none⟩), .int .i64 a] w fun e w' => e = .returned (.int .i64 r) ∧ w = w' := by
  have H := hide h
  have HO := hide ho
  obtain ⟨z, hz⟩ : ∃ z, s.look a = z := ⟨_, rfl⟩
  obtain ⟨k, hk⟩ : ∃ k, kd z = k := ⟨_, rfl⟩
  obtain ⟨p, hp⟩ : ∃ p, ad z = p := ⟨_, rfl⟩
  obtain ⟨o, h4⟩ : ∃ o, s.look (p + 4) = o := ⟨_, rfl⟩
  have hb := hide (ho.look a)
  rw [hz] at hb
  have kr := ad_range z
  rw [hp] at kr
  obtain ⟨p0, p1⟩ := kr
  have HZ := hide hz
  have HK := hide hk
  have HP := hide hp
  have H4 := hide h4
  by_cases hk5 : k = 5
  · have e2 : r = if o = 1 then s.look (p + 3) else s.look (p + 2) := by
      rw [← e1, Mst.logicZ, hz]
      show (if kd z = 5 then (if s.look (ad z + 4) = 1 then s.look (ad z + 3) else s.look (ad z + 2)) else z) = _
      rw [hk, hk5, if_pos rfl, hp, h4]
    have E2 := hide e2
    by_cases ho1 : o = 1
    · have e3 : Hid (s.look (p + 3) = r) := hide (by rw [e2, if_pos ho1])
      subst hk5 ho1
      clear h ho hz hk hp h4 e1 e2 E2
      go_enter Try.func68, Try.ntmps68
      go_wp2_with (fail)
      refine (lk_p _ b s a z H.out HZ.out).mono ?_
      rintro e w' ⟨rfl, rfl⟩
      go_wp2_with (fail)
      refine (kk_p _ z 5 hb.out HK.out).mono ?_
      rintro e w' ⟨rfl, rfl⟩
      go_wp2_with (fail)
      refine (ak_p _ z p hb.out HP.out).mono ?_
      rintro e w' ⟨rfl, rfl⟩
      go_wp2_with (fail)
      refine (lk_p _ b s (p + 4) 1 H.out H4.out).mono ?_
      rintro e w' ⟨rfl, rfl⟩
      go_wp2_with (fail)
      refine (ak_p _ z p hb.out HP.out).mono ?_
      rintro e w' ⟨rfl, rfl⟩
      go_wp2_with (fail)
      refine (lk_p _ b s (p + 3) r H.out e3.out).mono ?_
      rintro e w' ⟨rfl, rfl⟩
      go_wp2
      go_ret
      exact ⟨rfl, rfl⟩
    · have e3 : Hid (s.look (p + 2) = r) := hide (by rw [e2, if_neg ho1])
      have g1 : (o == 1) = false := by simp [ho1]
      have g2 : (o != 1) = true := by simp [ho1]
      subst hk5
      clear h ho hz hk hp h4 e1 e2 E2
      go_enter Try.func68, Try.ntmps68
      go_wp2_with (fail)
      refine (lk_p _ b s a z H.out HZ.out).mono ?_
      rintro e w' ⟨rfl, rfl⟩
      go_wp2_with (fail)
      refine (kk_p _ z 5 hb.out HK.out).mono ?_
      rintro e w' ⟨rfl, rfl⟩
      go_wp2_with (fail)
      refine (ak_p _ z p hb.out HP.out).mono ?_
      rintro e w' ⟨rfl, rfl⟩
      go_wp2_with (fail)
      refine (lk_p _ b s (p + 4) o H.out H4.out).mono ?_
      rintro e w' ⟨rfl, rfl⟩
      go_wp2_with (fail)
      refine (ak_p _ z p hb.out HP.out).mono ?_
      rintro e w' ⟨rfl, rfl⟩
      go_wp2_with (fail)
      refine (lk_p _ b s (p + 2) r H.out e3.out).mono ?_
      rintro e w' ⟨rfl, rfl⟩
      go_wp2
      go_ret
      exact ⟨rfl, rfl⟩
  · have e3 : r = z := by
      rw [← e1, Mst.logicZ, hz, if_neg (by show ¬ kd z = 5; rw [hk]; exact hk5)]
    have g1 : (k == 5) = false := by simp [hk5]
    have g2 : (k != 5) = true := by simp [hk5]
    subst e3
    clear h ho hz hk hp h4 e1
    go_enter Try.func68, Try.ntmps68
    go_wp2_with (fail)
    refine (lk_p _ b s a r H.out HZ.out).mono ?_
    rintro e w' ⟨rfl, rfl⟩
    go_wp2_with (fail)
    refine (kk_p _ r k hb.out HK.out).mono ?_
    rintro e w' ⟨rfl, rfl⟩
    go_wp2
    go_ret
    exact ⟨rfl, rfl⟩

theorem look_xs {s s' : Mst} (h : s.xs = s'.xs) (a : Int) : s.look a = s'.look a := by unfold Mst.look Mst.used; rw [h]
/-- A memory with the cells of this state lies at b (its counts are whatever they are). -/
def DM (w : World) (b : Nat) (s : Mst) : Prop := ∃ n₀ v s0, s0.xs = s.xs ∧ DMem w n₀ b v s0
theorem DM.kept {w w' : World} {b : Nat} {s : Mst} (h : DM w b s) (k : Kept w w') : DM w' b s := by
  obtain ⟨n₀, v, s0, e, h⟩ := h
  exact ⟨n₀, v, s0, e, h.kept k⟩
end Go.Proofs.Ytgialpjdfeldeaa

/-! The program's check of soundness: its box and its row of taken cells ('Chk'), isUsed, take, isSoundDcss. -/
namespace Go.Proofs.Ytgialpjdfeldeaa
open Go.RowKit

theorem used_k (w : World) (b : Nat) (s : Mst) (N : Int) (h : PM w b s) (e1 : (s.xs.length : Int) = N) : Calls Try.prog 29 #[.pointer (some ⟨b, 0, none⟩)] w fun e w' => e = .returned (.int .i64 N) ∧ w = w' := by
  obtain ⟨n₀, v, h⟩ := h
  subst e1
  exact used_c w n₀ b v s h
theorem isUsed_v (w : World) (b : Nat) (s : Mst) (a n : Int) (r : Bool) (h : PM w b s) (_hl : s.xs.length ≤ 65536) (h1 : 0 ≤ a) (h2 : a ≤ 100000) (h3 : -100000 ≤ n) (h4 : n ≤ 5000000000000) (e1 : (decide (1 ≤ n) && decide (a + n ≤ (s.xs.length : Int) + 1)) = r) :
    Calls Try.prog 84 #[.pointer (some ⟨b, 0, none⟩), .int .i64 a, .int .i64 n] w fun e w' => e = .returned (.bool r) ∧ w = w' := by
  have H := hide h
  obtain ⟨N, hN⟩ : ∃ N : Int, (s.xs.length : Int) = N := ⟨_, rfl⟩
  have HN := hide hN
  rw [hN] at e1
  subst e1
  clear h hN
  by_cases c1 : 1 ≤ n
  · by_cases c2 : a + n - 1 ≤ N
    · have E : Hid ((decide (1 ≤ n) && decide (a + n ≤ N + 1)) = true) := hide (by simp; omega)
      go_enter Try.func84, Try.ntmps84
      go_wp2_with (fail)
      refine (used_k _ b s N H.out HN.out).mono ?_
      rintro e w' ⟨rfl, rfl⟩
      go_wp2
      go_ret
      exact ⟨by rw [E.out]; rfl, rfl⟩
    · have E : Hid ((decide (1 ≤ n) && decide (a + n ≤ N + 1)) = false) := hide (by simp; omega)
      have c3 : decide (a + n - 1 ≤ N) = false := by simp; omega
      go_enter Try.func84, Try.ntmps84
      go_wp2_with (fail)
      refine (used_k _ b s N H.out HN.out).mono ?_
      rintro e w' ⟨rfl, rfl⟩
      go_wp2
      go_ret
      exact ⟨by rw [E.out]; rfl, rfl⟩
  · have E : Hid ((decide (1 ≤ n) && decide (a + n ≤ N + 1)) = false) := hide (by simp; omega)
    go_enter Try.func84, Try.ntmps84
    go_wp2
    go_ret
    exact ⟨by rw [E.out]; rfl, rfl⟩

/-- A check under way: its box at c, its row at g, where t is taken; the memory at b; all that lay at w0 is as it was. -/
structure Chk (w0 W : World) (b : Nat) (s : Mst) (c g : Nat) (t : Tk) : Prop where
  mem0 : PM w0 b s
  ok : s.ok
  kept : Kept w0 W
  hc : w0.heap.size ≤ c
  hg : w0.heap.size ≤ g
  ne : c ≠ g
  box : W.heap[c]? = some (.cells #[.pointer (some ⟨b, 0, none⟩), .slice (some ⟨g, 0, none⟩) (s.xs.length + 1) (s.xs.length + 1)] 79)
  row : W.rowIs g 4 (s.xs.length + 1) (fun j => .bool (t j))
namespace Chk
variable {w0 W W' : World} {b c g : Nat} {s : Mst} {t t' : Tk}
theorem mem (h : Chk w0 W b s c g t) : PM W b s := h.mem0.kept h.kept
theorem c0 (h : Chk w0 W b s c g t) : W.cell? ⟨c, 0, none⟩ = some (.pointer (some ⟨b, 0, none⟩)) := by simp [World.cell?, h.box]
theorem c1 (h : Chk w0 W b s c g t) : W.cell? ⟨c, 1, none⟩ = some (.slice (some ⟨g, 0, none⟩) (s.xs.length + 1) (s.xs.length + 1)) := by simp [World.cell?, h.box]
theorem on (h : Chk w0 W b s c g t) (k : Kept W W') : Chk w0 W' b s c g t :=
  ⟨h.mem0, h.ok, h.kept.trans k, h.hc, h.hg, h.ne, k.heap h.box (fun e => e), h.row.of_block (k.block g h.row.lt (fun e => e))⟩
theorem put (h : Chk w0 W b s c g t) (i : Nat) (e : (fun j => if j = i then true else t j) = t') : Chk w0 (W.setCell ⟨g, i, none⟩ (.bool true)) b s c g t' := by
  have T : Turned (fun k => k = g) W (W.setCell ⟨g, i, none⟩ (.bool true)) := Turned.setCell W ⟨g, i, none⟩ (.bool true) rfl
  refine ⟨h.mem0, h.ok, h.kept.did h.hg T, h.hc, h.hg, h.ne, T.heap h.box h.ne, ?_⟩
  refine (h.row.set i (.bool true)).congr (fun j _ => ?_)
  rw [← e]
  by_cases e : j = i
  · simp [e]
  · simp [e]
end Chk

/-- What a step of the check answers. -/
def SndPost (w0 W : World) (b : Nat) (s : Mst) (c g : Nat) (r : Option Tk) (e : Ending) (W' : World) : Prop :=
  e = .returned (.bool r.isSome) ∧ Turned (fun i => i = g) W W' ∧ ∃ t', Chk w0 W' b s c g t' ∧ ∀ u, r = some u → t' = u

theorem take0_p (w0 W : World) (b : Nat) (s : Mst) (c g : Nat) (t : Tk) (C : Chk w0 W b s c g t) (a n : Int) (h1 : 0 ≤ a) (h2 : a ≤ 100000) (h3 : -100000 ≤ n) (h4 : n ≤ 5000000000000) (h5 : ¬ (1 ≤ n ∧ a + n ≤ (s.xs.length : Int) + 1)) :
    Calls Try.prog 57 #[.pointer (some ⟨c, 0, none⟩), .int .i64 a, .int .i64 n] W (SndPost w0 W b s c g none) := by
  have e1 := hide (show (decide (1 ≤ n) && decide (a + n ≤ (s.xs.length : Int) + 1)) = false by
    cases e : (decide (1 ≤ n) && decide (a + n ≤ (s.xs.length : Int) + 1)) with
    | false => rfl
    | true => simp at e; exact absurd e h5)
  have c0 := C.c0
  have HL := hide C.ok.2
  have H := hide C
  clear C h5
  go_enter Try.func57, Try.ntmps57
  go_wp2_with (fail)
  refine (isUsed_v _ b s a n false H.out.mem HL.out h1 h2 h3 h4 e1.out).mono ?_
  rintro e w' ⟨rfl, rfl⟩
  go_wp2
  go_ret
  exact ⟨rfl, Turned.refl _ _, t, H.out, fun u h => by cases h⟩

theorem take_p (w0 W : World) (b : Nat) (s : Mst) (c g : Nat) (t : Tk) (C : Chk w0 W b s c g t) (a n : Nat) (h1 : 1 ≤ a) (h2 : a ≤ 100000) (h4 : n ≤ 500000000) (r : Option Tk) (e1 : takeO (s.xs.length + 1) t a n = r) :
    Calls Try.prog 57 #[.pointer (some ⟨c, 0, none⟩), .int .i64 (a : Int), .int .i64 (n : Int)] W (SndPost w0 W b s c g r) := by
  by_cases h5 : 1 ≤ n ∧ a + n ≤ s.xs.length + 1
  · have E1 := hide (show (decide (1 ≤ (n : Int)) && decide ((a : Int) + n ≤ (s.xs.length : Int) + 1)) = true by simp; omega)
    have e2 : r = if freeB t a n = true then some (takeT t a n) else none := by
      rw [← e1]; unfold takeO
      have d1 : decide (1 ≤ n) = true := by simp; omega
      have d2 : decide (a + n ≤ s.xs.length + 1) = true := by simp; omega
      rw [d1, d2]; rfl
    have E2 := hide e2
    have c0 := C.c0
    have HL := hide C.ok.2
    have H := hide C
    have HS : Hid (Chk w0 W b s c g (takeT t a 0)) := hide (by rw [takeT_zero]; exact C)
    obtain ⟨N, hN⟩ : ∃ N, s.xs.length = N := ⟨_, rfl⟩
    have hN2 : N ≤ 65536 := by rw [← hN]; exact HL.out
    have HN := hide hN
    rw [hN] at h5
    obtain ⟨h6, h7⟩ := h5
    clear C e1 e2 hN
    go_enter Try.func57, Try.ntmps57
    go_wp2_with (fail)
    refine (isUsed_v _ b s a n true H.out.mem HL.out (by omega) (by omega) (by omega) (by omega) E1.out).mono ?_
    rintro e w' ⟨rfl, rfl⟩
    go_wp2
    go_loopw [7] (fun v wr => ∃ k : Nat, k ≤ n ∧ v = .int .i64 ((a : Int) + k) ∧ Hid (freeB t a k = true) ∧ Hid (Chk w0 wr b s c g (takeT t a k)) ∧ Hid (Turned (fun i => i = g) W wr)) (fun v _ => n + a - (intOf v).toNat)
    case atStart => exact ⟨0, by omega, by simp, hide (freeB_zero t a), HS, hide (Turned.refl _ _)⟩
    case round =>
      obtain ⟨k, hk, rfl, HF, HC, HT⟩ := hrel
      by_cases hkn : k < n
      · have i1 : (a : Int) + k < (a : Int) + n := by omega
        have i2 : a + k < N + 1 := by omega
        have i3 : (a : Int) + k < (N : Int) + 1 := by omega
        have b0 := HC.out.c0
        have b1 := HC.out.c1
        have b2 := HC.out.row.cell (show a + k < s.xs.length + 1 by rw [HN.out]; exact i2)
        have b3 := HC.out.row.frozen (a + k)
        rw [HN.out] at b1
        simp only [takeT_at] at b2
        have i4 : ((a : Int) + k).toNat = a + k := by omega
        by_cases ht : t (a + k) = true
        · have HR : Hid (r = none) := hide (by
            rw [E2.out, if_neg]
            rw [freeB_false (n := k + 1) (by rw [freeB_succ, HF.out, ht]; rfl) (by omega)]
            simp)
          rw [ht] at b2
          clear ht b0
          go_wp2
          go_ret
          exact ⟨by rw [HR.out]; rfl, HT.out, _, HC.out, fun u h => by rw [HR.out] at h; cases h⟩
        · have ht' : t (a + k) = false := by simpa using ht
          rw [ht'] at b2
          have G1 : Hid (freeB t a (k + 1) = true) := hide (by rw [freeB_succ, HF.out, ht']; rfl)
          have G2 := hide (HC.out.put (a + k) (takeT_succ t a k))
          have G3 : Hid (Turned (fun i => i = g) W (wr.setCell ⟨g, a + k, none⟩ (.bool true))) := hide (HT.out.trans (Turned.setCell (R := fun i => i = g) wr ⟨g, a + k, none⟩ (.bool true) rfl) (fun _ e => e) (fun _ _ e => e))
          clear ht ht' b0
          go_wp2
          exact ⟨⟨k + 1, by omega, by simp; omega, G1, G2, G3⟩, by simp [intOf]; omega⟩
      · have hkn' : k = n := by omega
        subst hkn'
        have i1 : ¬ ((a : Int) + k < (a : Int) + k) := by omega
        have HR : Hid (r = some (takeT t a k)) := hide (by rw [E2.out, if_pos HF.out])
        go_wp2
        go_ret
        exact ⟨by rw [HR.out]; rfl, HT.out, _, HC.out, fun u h => by rw [HR.out] at h; cases h; rfl⟩
  · have hr : r = none := by
      rw [← e1]; unfold takeO
      rw [if_neg]
      intro hh
      simp only [Bool.and_eq_true, decide_eq_true_eq] at hh
      exact h5 hh.1
    subst hr
    exact take0_p w0 W b s c g t C a n (by omega) (by omega) (by omega) (by omega) (by omega)

theorem dcss_p (w0 W : World) (b : Nat) (s : Mst) (c g : Nat) (t : Tk) (C : Chk w0 W b s c g t) (a slot : Int) (r : Bool) (h1 : 0 ≤ a) (h2 : a ≤ 100000) (e1 : (decide (a + 4 ≤ (s.xs.length : Int)) && (s.look (a + 1) == slot)) = r) :
    Calls Try.prog 85 #[.pointer (some ⟨c, 0, none⟩), .int .i64 a, .int .i64 slot] W fun e w' => e = .returned (.bool r) ∧ W = w' := by
  have c0 := C.c0
  have HL := hide C.ok.2
  have H := hide C
  by_cases h5 : a + 4 ≤ (s.xs.length : Int)
  · have E1 := hide (show (decide (1 ≤ (5 : Int)) && decide (a + 5 ≤ (s.xs.length : Int) + 1)) = true by simp; omega)
    obtain ⟨z, hz⟩ : ∃ z, s.look (a + 1) = z := ⟨_, rfl⟩
    have HZ := hide hz
    have E2 : Hid (r = (z == slot)) := hide (by rw [← e1, hz]; simp [h5])
    clear C e1 hz h5
    cases hzs : (z == slot) with
    | true =>
      have E3 := hide hzs
      go_enter Try.func85, Try.ntmps85
      go_wp2_with (fail)
      refine (isUsed_v _ b s a 5 true H.out.mem HL.out h1 h2 (by omega) (by omega) E1.out).mono ?_
      rintro e w' ⟨rfl, rfl⟩
      go_wp2_with (fail)
      refine (lk_p _ b s (a + 1) z H.out.mem HZ.out).mono ?_
      rintro e w' ⟨rfl, rfl⟩
      go_wp2
      go_ret
      exact ⟨by rw [E2.out, E3.out]; rfl, rfl⟩
    | false =>
      have E3 := hide hzs
      go_enter Try.func85, Try.ntmps85
      go_wp2_with (fail)
      refine (isUsed_v _ b s a 5 true H.out.mem HL.out h1 h2 (by omega) (by omega) E1.out).mono ?_
      rintro e w' ⟨rfl, rfl⟩
      go_wp2_with (fail)
      refine (lk_p _ b s (a + 1) z H.out.mem HZ.out).mono ?_
      rintro e w' ⟨rfl, rfl⟩
      go_wp2
      go_ret
      exact ⟨by rw [E2.out, E3.out]; rfl, rfl⟩
  · have E1 := hide (show (decide (1 ≤ (5 : Int)) && decide (a + 5 ≤ (s.xs.length : Int) + 1)) = false by simp; omega)
    have E2 : Hid (r = false) := hide (by rw [← e1]; simp [h5])
    clear C e1 h5
    go_enter Try.func85, Try.ntmps85
    go_wp2_with (fail)
    refine (isUsed_v _ b s a 5 false H.out.mem HL.out h1 h2 (by omega) (by omega) E1.out).mono ?_
    rintro e w' ⟨rfl, rfl⟩
    go_wp2
    go_ret
    exact ⟨by rw [E2.out]; rfl, rfl⟩
end Go.Proofs.Ytgialpjdfeldeaa

/-! The program's check of soundness: the keys of an Inner. -/
namespace Go.Proofs.Ytgialpjdfeldeaa
open Go.RowKit

theorem info4_p : (Try.prog.info? 4).map (fun i => (i.zero, i.size, i.bytes)) = some (some (.bool false), 1, 1) := by kernel_rfl
theorem run_make39 (n : Nat) (h : n ≤ 100000) (w : World) : (Instr.makeSlice 35 (.int .i64 (n : Int)) (.int .i64 (n : Int))).run Try.prog w = .ok (.slice (some ⟨w.heap.size, 0, none⟩) n n) (w.alloc (.cells (madeCells #[.int .i64 0] n) 2)) :=
  run_make_row' 35 2 (.int .i64 0) 8 Try.underlying35 info2_p rfl .i64 .i64 n (by omega) (by omega) w
theorem run_make58 (n : Nat) (h : n ≤ 100000) (w : World) : (Instr.makeSlice 77 (.int .i64 (n : Int)) (.int .i64 (n : Int))).run Try.prog w = .ok (.slice (some ⟨w.heap.size, 0, none⟩) n n) (w.alloc (.cells (madeCells #[.bool false] n) 4)) :=
  run_make_row' 77 4 (.bool false) 1 Try.underlying77 info4_p rfl .i64 .i64 n (by omega) (by omega) w

/-- The keys as they are filled in: the first k. -/
def fillK (s : Mst) (a k : Nat) : Nat → Value := fun j => if j < k then .int .i64 (ky s a (j + 1)) else .int .i64 0
theorem fillK_step (s : Mst) (a k : Nat) (j : Nat) : (if j = k then Value.int .i64 (ky s a (k + 1)) else fillK s a k j) = fillK s a (k + 1) j := by
  unfold fillK
  by_cases e : j = k
  · subst e; simp
  · simp only [e, if_false]
    have : j < k ↔ j < k + 1 := by omega
    simp only [this]
def keysL (s : Mst) (a d : Nat) : List Int := (List.range (d - 1)).map (fun j => ky s a (j + 1))
theorem keysL_len (s : Mst) (a d : Nat) : (keysL s a d).length = d - 1 := by simp [keysL]
theorem keysL_get {s : Mst} {a d j : Nat} (h : j < d - 1) : (keysL s a d)[j]? = some (ky s a (j + 1)) := by
  unfold keysL
  rw [List.getElem?_map, List.getElem?_range h]
  rfl
theorem reads_keys {W : World} {q d a : Nat} {s : Mst} (h : W.rowIs q 2 (d - 1) (fillK s a (d - 1))) : Reads W (some ⟨q, 0, none⟩) (keysL s a d) := by
  refine .inr ⟨q, 0, rfl, fun j z hz => ?_⟩
  have hj : j < d - 1 := by
    have := (List.getElem?_eq_some_iff.1 hz).1
    rwa [keysL_len] at this
  rw [keysL_get hj] at hz
  cases hz
  rw [Nat.zero_add, h.cell hj, fillK, if_pos hj]

/-- The cells that an Inner takes. -/
def innerT (s : Mst) (t : Tk) (a : Nat) : Option Tk := if s.look a < 2 then none else takeO (s.xs.length + 1) t a (2 * (s.look a).toNat + 4)
def KeysPost (w0 W : World) (b : Nat) (s : Mst) (c g a : Nat) (r : Option Tk) (e : Ending) (W' : World) : Prop :=
  ∃ t', Turned (fun i => i = g) W W' ∧ Chk w0 W' b s c g t' ∧ ((r = none ∧ e = .returned (.tuple #[.slice none 0 0, .bool false])) ∨
    (r = some t' ∧ ∃ d q : Nat, s.look a = (d : Int) ∧ 2 ≤ d ∧ d ≤ 40000 ∧ a + 2 * d + 4 ≤ s.xs.length + 1 ∧ w0.heap.size ≤ q ∧ q ≠ g ∧ q ≠ c ∧ W'.rowIs q 2 (d - 1) (fillK s a (d - 1)) ∧ e = .returned (.tuple #[.slice (some ⟨q, 0, none⟩) (d - 1) (d - 1), .bool true])))

set_option maxRecDepth 20000 in
theorem keys_p (w0 W : World) (b : Nat) (s : Mst) (c g : Nat) (t : Tk) (C : Chk w0 W b s c g t) (a : Nat) (h1 : 1 ≤ a) (h2 : a ≤ 65536) (r : Option Tk) (e1 : innerT s t a = r) :
    Calls Try.prog 110 #[.pointer (some ⟨c, 0, none⟩), .int .i64 (a : Int)] W (KeysPost w0 W b s c g a r) := by
  have c0 := C.c0
  have HL := hide C.ok.2
  have H := hide C
  obtain ⟨D, hD⟩ : ∃ D, s.look a = D := ⟨_, rfl⟩
  have HD := hide hD
  have hI := C.ok.look a
  rw [hD] at hI
  obtain ⟨hI1, hI2⟩ := hI
  by_cases hd2 : D < 2
  · have HR : Hid (r = none) := hide (by rw [← e1, innerT, hD, if_pos hd2])
    clear C e1 hD hI1 hI2
    go_enter Try.func110, Try.ntmps110
    go_wp2_with (fail)
    refine (lk_p _ b s a D H.out.mem HD.out).mono ?_
    rintro e w' ⟨rfl, rfl⟩
    go_wp2
    go_ret2
    exact ⟨t, Turned.refl _ _, H.out, .inl ⟨HR.out, rfl⟩⟩
  · have hr : r = takeO (s.xs.length + 1) t a (2 * D.toNat + 4) := by rw [← e1, innerT, hD, if_neg hd2]
    obtain ⟨d, rfl⟩ : ∃ d : Nat, D = (d : Int) := ⟨D.toNat, by omega⟩
    have hdn : ((d : Int)).toNat = d := by omega
    rw [hdn] at hr
    have hd2' : ¬ ((d : Int) < 2) := hd2
    by_cases hfit : a + 2 * d + 4 ≤ s.xs.length + 1
    · have hN := HL.out
      have dS : d ≤ 40000 := by omega
      have hcz := hide (childZ_in (n := a) (d := d) (i := d) (by omega) (by omega) (by omega) (by omega) (by omega) (by omega))
      have HF := hide hfit
      have HR := hide hr.symm
      have i5 : (a : Int) + 4 + d + d - a = ((2 * d + 4 : Nat) : Int) := by omega
      clear C e1 hD hI1 hI2 hd2 hfit hr hdn hN
      cases hT : takeO (s.xs.length + 1) t a (2 * d + 4) with
      | none =>
        have HT := hide hT
        clear hT
        go_enter Try.func110, Try.ntmps110
        go_wp2_with (fail)
        refine (lk_p _ b s a d H.out.mem HD.out).mono ?_
        rintro e w' ⟨rfl, rfl⟩
        go_wp2_with (fail)
        refine (child_c _ a d d _ hcz.out).mono ?_
        rintro e w' ⟨rfl, rfl⟩
        go_wp2_with (fail)
        refine (take_p w0 _ b s c g t H.out a (2 * d + 4) h1 (by omega) (by omega) none HT.out).mono ?_
        rintro e w' ⟨rfl, hT', t', C', _⟩
        have H' := hide C'
        have TT := hide hT'
        clear C' hT' H c0
        go_wp2
        go_ret2
        exact ⟨t', TT.out, H'.out, .inl ⟨by rw [← HR.out, HT.out], rfl⟩⟩
      | some t1 =>
        have HT := hide hT
        clear hT
        go_enter Try.func110, Try.ntmps110
        go_wp2_with (fail)
        refine (lk_p _ b s a d H.out.mem HD.out).mono ?_
        rintro e w' ⟨rfl, rfl⟩
        go_wp2_with (fail)
        refine (child_c _ a d d _ hcz.out).mono ?_
        rintro e w' ⟨rfl, rfl⟩
        go_wp2_with (fail)
        refine (take_p w0 _ b s c g t H.out a (2 * d + 4) h1 (by omega) (by omega) (some t1) HT.out).mono ?_
        rintro e W1 ⟨rfl, hT', t', C', ht'⟩
        have := ht' _ rfl
        subst this
        have H' := hide C'
        have TT := hide hT'
        have hq1 := Nat.le_trans H'.out.hg (Nat.le_of_lt H'.out.row.lt)
        have hq2 := H'.out.row.lt
        have hq3 : c < W1.heap.size := by
          have := H'.out.box
          by_cases hh : c < W1.heap.size
          · exact hh
          · rw [Array.getElem?_eq_none (by omega)] at this; cases this
        have Q1 := hide hq1
        have Q2 := hide hq2
        have Q3 := hide hq3
        clear C' hT' H c0 ht' hq1 hq2 hq3
        have hmk := run_make39 (d - 1) (by omega)
        have M0 := hide (World.rowIs_made W1 (.int .i64 0) (d - 1) 2)
        have HA := hide (H'.out.on (Kept.alloc (Kept.refl _) (.cells (madeCells #[.int .i64 0] (d - 1)) 2)))
        have TA := hide (Kept.behind TT.out (Kept.alloc (Kept.refl _) (.cells (madeCells #[.int .i64 0] (d - 1)) 2)))
        have L1 := hide (TT.out.size)
        obtain ⟨q, hq⟩ : ∃ q, W1.heap.size = q := ⟨_, rfl⟩
        have MM : Hid ((W1.alloc (.cells (madeCells #[.int .i64 0] (d - 1)) 2)).rowIs q 2 (d - 1) (fillK s a 0)) := hide (by
          rw [← hq]
          exact M0.out.congr (fun j _ => by simp [fillK]))
        have QW : Hid (W1.heap.size = q) := hide hq
        rw [hq] at Q1 Q2 Q3 L1
        have hm0 : (d - 1 : Nat) ≤ 40000 := by omega
        obtain ⟨m, hm⟩ : ∃ m, d - 1 = m := ⟨_, rfl⟩
        have HM := hide hm
        have i6 : (d : Int) - 1 = (m : Int) := by omega
        rw [hm] at hmk MM HA TA hm0
        clear M0 hm H'
        go_wp2
        go_loopw [35] (fun v wr => ∃ k : Nat, k ≤ m ∧ v = .int .i64 (k : Int) ∧ Hid (wr.rowIs q 2 m (fillK s a k)) ∧ Hid (Chk w0 wr b s c g t') ∧ Hid (Turned (fun i => i = g) W wr)) (fun v _ => m - (intOf v).toNat)
        case atStart => exact ⟨0, by omega, by simp, MM, HA, TA⟩
        case round =>
          obtain ⟨k, hk, rfl, HK, HC, HTR⟩ := hrel
          by_cases hkn : k < m
          · have j1 : (k : Int) < (m : Int) := by omega
            obtain ⟨V, hV⟩ : ∃ V, wr.drew = V := ⟨_, rfl⟩
            have HCV : Hid (Chk w0 V b s c g t') := hide (by rw [← hV]; exact HC.out.on (Kept.drew wr))
            have HKV : Hid (V.rowIs q 2 m (fillK s a k)) := hide (by rw [← hV]; exact HK.out)
            have HV := hide hV
            have hkz := hide (keyZ_in (n := a) (i := (k : Int) + 1) (by omega) (by omega) (by omega) (by omega))
            obtain ⟨z, hz⟩ : ∃ z, s.look ((a : Int) + 4 + ((k : Int) + 1)) = z := ⟨_, rfl⟩
            have HZ := hide hz
            have b3 := HKV.out.frozen k
            have b4 := HKV.out.cell hkn
            have G1 : Hid ((V.setCell ⟨q, k, none⟩ (.int .i64 z)).rowIs q 2 m (fillK s a (k + 1))) := hide ((HKV.out.set k (.int .i64 z)).congr (fun j _ => by
              rw [← fillK_step, ← hz]
              have : ky s a (k + 1) = s.look ((a : Int) + 4 + ((k : Int) + 1)) := by unfold ky; rfl
              rw [this]))
            have G2 : Hid (Chk w0 (V.setCell ⟨q, k, none⟩ (.int .i64 z)) b s c g t') := hide (by
              have T : Turned (fun i => i = q) V (V.setCell ⟨q, k, none⟩ (.int .i64 z)) := Turned.setCell V ⟨q, k, none⟩ (.int .i64 z) rfl
              have C := HCV.out
              exact ⟨C.mem0, C.ok, C.kept.did Q1.out T, C.hc, C.hg, C.ne, T.heap C.box (by have := Q3.out; omega), C.row.of_block (T.block g C.row.lt (by have := Q2.out; omega))⟩)
            have x0 : ∀ y : Wd (fun U => U = V ∨ U = V.setCell ⟨q, k, none⟩ (.int .i64 z)), y.w.cell? ⟨c, 0, none⟩ = some (.pointer (some ⟨b, 0, none⟩)) := fun y => by
              rcases y.ok with e | e
              · rw [e]; exact HCV.out.c0
              · rw [e]; exact G2.out.c0
            have G3 : Hid (Turned (fun i => i = g) W (V.setCell ⟨q, k, none⟩ (.int .i64 z))) := hide (by
              have T : Turned (fun i => i = q) V (V.setCell ⟨q, k, none⟩ (.int .i64 z)) := Turned.setCell V ⟨q, k, none⟩ (.int .i64 z) rfl
              rw [← hV] at T ⊢
              exact (Kept.behind HTR.out (Kept.drew wr)).trans T (fun _ e => e) (fun i hi e => absurd hi (by have := L1.out; omega)))
            clear hz HK HC HTR
            go_wp2_with (fail)
            refine region_wide [0, 1, 2, 3, 4, 5, 6, 7, 8, 9, 10, 11, 12] (fun U => U = V ∨ U = V.setCell ⟨q, k, none⟩ (.int .i64 z)) (by kernel_rfl) (by kernel_rfl) (.inl HV.out) (fun _ => ?_)
            clear hV
            rw [HV.out]
            repeat (refine pq rfl rfl ?_; go_big_quiet_step (fail); refine wpQuiet_nil ?_)
            refine pl rfl rfl ?_
            gi_wp2_with (fail)
            refine ⟨trivial, ?_⟩
            refine (callsIn_wide.2 (key_c _ a ((k : Int) + 1) _ hkz.out)).mono ?_
            rintro e U ⟨rfl, rfl⟩
            gi_wp2_with (fail)
            refine ⟨Wd.mem (.inl rfl), ?_⟩
            refine pl rfl rfl ?_
            gi_wp2_with (fail)
            refine ⟨trivial, ?_⟩
            refine (callsIn_wide.2 (lk_p _ b s _ z HCV.out.mem HZ.out)).mono ?_
            rintro e U ⟨rfl, rfl⟩
            gi_wp2_with (fail)
            refine ⟨Wd.mem (.inl rfl), ?_⟩
            refine pq rfl rfl ?_
            go_big_quiet_step (fail)
            refine wpQuiet_nil ?_
            refine pl rfl rfl ?_
            gi_wp2
            refine ⟨Wd.mem (.inr rfl), ?_⟩
            refine perm_done ?_
            go_wp2
            exact ⟨⟨k + 1, by omega, by simp, G1, G2, G3⟩, by simp [intOf]; omega⟩
          · have hkn' : k = m := by omega
            subst hkn'
            have j1 : ¬ ((k : Int) < (k : Int)) := by omega
            go_wp2
            go_ret2
            have HR2 : r = some t' := by rw [← HR.out, HT.out]
            refine ⟨t', HTR.out, HC.out, .inr ⟨HR2, d, q, HD.out, by omega, by omega, HF.out, Q1.out, by have := Q2.out; omega, by have := Q3.out; omega, ?_, ?_⟩⟩
            · rw [HM.out]; exact HK.out
            · rw [HM.out]; rfl
    · have hr' : r = none := by
        rw [hr]; unfold takeO
        rw [if_neg]
        intro hh
        simp only [Bool.and_eq_true, decide_eq_true_eq] at hh
        omega
      obtain ⟨n', hn'⟩ : ∃ n', childZ a d d = n' := ⟨_, rfl⟩
      have hn2 : n' = 0 ∨ (n' = a + 4 + d + d ∧ (d : Int) ≤ 1099511627776) := by
        rw [← hn']; unfold childZ; split
        · rename_i hh
          simp only [Bool.and_eq_true, nearB_iff] at hh
          exact .inr ⟨rfl, by omega⟩
        · exact .inl rfl
      have HC := hide hn'
      have HR := hide hr'
      have i1 : -100000 ≤ n' - a := by omega
      have i2 : n' - a ≤ 5000000000000 := by omega
      have i3 : ¬ (1 ≤ n' - a ∧ a + (n' - a) ≤ (s.xs.length : Int) + 1) := by omega
      have J1 := hide i1
      have J2 := hide i2
      have J3 := hide i3
      clear C e1 hD hI1 hI2 hd2 hfit hr hdn hr' hn' hn2 i3
      go_enter Try.func110, Try.ntmps110
      go_wp2_with (fail)
      refine (lk_p _ b s a d H.out.mem HD.out).mono ?_
      rintro e w' ⟨rfl, rfl⟩
      go_wp2_with (fail)
      refine (child_c _ a d d _ HC.out).mono ?_
      rintro e w' ⟨rfl, rfl⟩
      go_wp2_with (fail)
      refine (take0_p w0 _ b s c g t H.out a (n' - a) (by omega) (by omega) J1.out J2.out J3.out).mono ?_
      rintro e w' ⟨rfl, hT', t', C', _⟩
      have H' := hide C'
      have TT := hide hT'
      clear C' hT' H c0
      go_wp2
      go_ret2
      exact ⟨t', TT.out, H'.out, .inl ⟨HR.out, rfl⟩⟩
end Go.Proofs.Ytgialpjdfeldeaa
