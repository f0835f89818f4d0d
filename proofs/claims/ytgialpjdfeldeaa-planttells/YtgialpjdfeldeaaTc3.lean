/-
  What the proof of YtgialpjdfeldeaaPlantTellsProof goes by, part 3 of 4: contracts and plain facts; each part begins with its own sentence. No conditions beyond each theorem's own.
-/
import Derived.Test.YtgialpjdfeldeaaTc2
import Derived.Test.YtgialpjdfeldeaaRows
import Derived.Laws.OwnMore
import Derived.Maps.OwnIn
import Derived.LoopTactic
import Derived.WalkKit
import Derived.WalkSmall
import Derived.BigQuiet
import Derived.Deep.QuietTactic
/-! What plant.Build answers at a memory that was made since w ('now_build'); the counts; what known answers, and PlantKnown. No conditions beyond each theorem's own. -/
namespace Go.Proofs.Ytgialpjdfeldeaa
open Go.RowKit
set_option maxRecDepth 20000

theorem count_n (w W : World) (b : Nat) (s : Mst) (r : Int) (h : Now w W b s) (e1 : s.count = r) : Calls Try.prog 13 #[.pointer (some ⟨b, 0, none⟩)] W fun e W' => e = .returned (.int .i64 r) ∧ W = W' := by
  obtain ⟨⟨v, h⟩, hk⟩ := h
  subst e1
  obtain ⟨⟨c0, c1, c2, c3, c4⟩, _⟩ := PMem.opened h
  clear h
  go_enter Try.func13, Try.ntmps13
  go_wp2
  go_ret
  exact ⟨rfl, rfl⟩
theorem refused_n (w W : World) (b : Nat) (s : Mst) (r : Int) (h : Now w W b s) (e1 : s.ref = r) : Calls Try.prog 12 #[.pointer (some ⟨b, 0, none⟩)] W fun e W' => e = .returned (.int .i64 r) ∧ W = W' := by
  obtain ⟨⟨v, h⟩, hk⟩ := h
  subst e1
  obtain ⟨⟨c0, c1, c2, c3, c4⟩, _⟩ := PMem.opened h
  clear h
  go_enter Try.func12, Try.ntmps12
  go_wp2
  go_ret
  exact ⟨rfl, rfl⟩
theorem odd_n (w W : World) (b : Nat) (s : Mst) (r : Int) (h : Now w W b s) (e1 : s.odd = r) : Calls Try.prog 37 #[.pointer (some ⟨b, 0, none⟩)] W fun e W' => e = .returned (.int .i64 r) ∧ W = W' := by
  obtain ⟨⟨v, h⟩, hk⟩ := h
  subst e1
  obtain ⟨⟨c0, c1, c2, c3, c4⟩, _⟩ := PMem.opened h
  clear h
  go_enter Try.func37, Try.ntmps37
  go_wp2
  go_ret
  exact ⟨rfl, rfl⟩
/-- A new block of these pairs. -/
theorem preads_lit (W : World) (ps : List (Int × Int)) (T : TypeId) : PReads (W.alloc (.cells (flat ps).toArray T)) (some ⟨W.heap.size, 0, none⟩) ps := by
  refine .inr ⟨_, 0, rfl, fun j p hp => ?_⟩
  have hb : (W.alloc (.cells (flat ps).toArray T)).heap[W.heap.size]? = some (.cells (flat ps).toArray T) := heap_new W _
  obtain ⟨h1, h2⟩ := flat_at hp
  unfold World.cell?
  rw [hb]
  simp [h1, h2]
/-- Build, at a memory made since w. -/
theorem now_build (w W : World) (b : Nat) (s : Mst) (a : Option Addr) (ps : List (Int × Int)) (M cap : Nat) (h : Now w W b s) (hr : PReads W a ps) (hM : ps.length = M) (hc : M ≤ cap) (hcm : cap ≤ maxLen) (ha : ∀ v, PMem W w.heap.size b v s → ∀ ad, a = some ad → ¬ Foot b v ad.block) (z : Int) (r : Bool) (s' : Mst) (e1 : buildS s ps = ((z, r), s')) :
    Calls Try.prog 11 #[.pointer (some ⟨b, 0, none⟩), .slice a M cap] W fun e W' => e = .returned (.tuple #[.int .i64 z, .bool r]) ∧ Now w W' b s' := by
  obtain ⟨⟨v, h⟩, hk⟩ := h
  exact (build_p W w.heap.size b v s a ps M cap h hk.size hr hM hc hcm (fun _ => ha v h) z r s' e1).mono fun _ _ ⟨h1, h2⟩ => ⟨h1, Now.did h hk h2⟩
/-- .. of a literal. -/
theorem now_blit (w W : World) (b : Nat) (s : Mst) (ps : List (Int × Int)) (M : Nat) (h : Now w W b s) (hM : ps.length = M) (hl : M ≤ 100) (z : Int) (r : Bool) (s' : Mst) (e1 : buildS s ps = ((z, r), s')) :
    Calls Try.prog 11 #[.pointer (some ⟨b, 0, none⟩), .slice (some ⟨W.heap.size, 0, none⟩) M M] (W.alloc (.cells (flat ps).toArray 30)) fun e W' => e = .returned (.tuple #[.int .i64 z, .bool r]) ∧ Now w W' b s' := by
  obtain ⟨⟨v, h0⟩, hk⟩ := id h
  refine now_build w _ b s _ ps M M (h.on (Turned.alloc _ _ _)) (preads_lit W ps 30) hM (Nat.le_refl _) (by unfold maxLen; omega) (fun v' h' ad e hf => ?_) z r s' e1
  cases e
  have e1 := PMem.opened h0
  have e2 := PMem.opened (h0.kept (Turned.alloc (fun _ => False) W (.cells (flat ps).toArray 30)))
  have e3 := PMem.opened h'
  have : v = v' := by
    have := e2.1.1.symm.trans e3.1.1
    exact Option.some.inj this
  subst this
  have := (h0.lt _ hf).2
  simp only at this
  omega

theorem kn_1 : buildS (Mst.new 64) [(1, 10), (2, 20), (3, 30)] = ((123, true), ⟨[1, 10, 2, 20, 2, 2, 0, 0, 0, 2, 10, 26, 3, 30, 2, 3, 0, 0, 0, 3, 43, 106], 64, 5, 0, 0⟩) := by kernel_rfl
theorem known_c (w : World) : Calls Try.prog 10 #[] w fun e w' => e = .returned (.bool true) ∧ Kept w w' := by
  go_enter Try.func10, Try.ntmps10
  go_wp2_with (fail)
  refine (now_new w w 64 (Kept.refl w) (by decide) (by decide)).mono ?_
  rintro e W1 ⟨rfl, h1, -⟩
  have H1 := hide h1
  clear h1
  go_wp2_with (fail)
  refine (now_blit w W1 _ _ [(1, 10), (2, 20), (3, 30)] 3 H1.out rfl (by decide) _ _ _ kn_1).mono ?_
  rintro e W2 ⟨rfl, h2⟩
  have H2 := hide h2
  clear h2 H1
  go_wp2_with (fail)
  refine (now_used w W2 _ _ 22 H2.out rfl).mono ?_
  rintro e W3 ⟨rfl, rfl⟩
  go_wp2_with (fail)
  refine (now_cells w W2 _ _ H2.out).mono ?_
  rintro e W3 ⟨a, cap, rfl, hr, hc, hm, -, -, hk⟩
  have HW := hide (words_lit W3 a _ cap hr hc hm)
  have HK := hide (H2.out.2.trans hk)
  clear hr hc hm hk H2
  go_wp2_with (fail)
  refine HW.out.mono ?_
  rintro e W4 ⟨rfl, k4⟩
  have K4 := hide (HK.out.trans k4)
  clear k4
  go_wp2
  go_ret
  exact ⟨rfl, K4.out⟩

theorem kn_2 : buildS (Mst.new 3) [(1, 0), (1, 0)] = ((0, false), ⟨[], 3, 0, 0, 0⟩) := by kernel_rfl
theorem kn_3 : buildS ⟨[], 3, 0, 0, 0⟩ [(1, 0), (2, 0)] = ((0, false), ⟨[], 3, 0, 0, 0⟩) := by kernel_rfl
theorem kn_4 : buildS ⟨[], 3, 0, 0, 0⟩ [(-9223372036854775808, 4)] = ((10, true), ⟨[-9223372036854775808, 4], 3, 1, 0, 0⟩) := by kernel_rfl
theorem kn_5 : buildS ⟨[-9223372036854775808, 4], 3, 1, 0, 0⟩ [] = ((25, true), ⟨[-9223372036854775808, 4, 0], 3, 2, 0, 0⟩) := by kernel_rfl
theorem kn_6 : buildS ⟨[-9223372036854775808, 4, 0], 3, 2, 0, 0⟩ [] = ((0, false), ⟨[-9223372036854775808, 4, 0], 3, 2, 0, 0⟩) := by kernel_rfl
theorem now_bnil (w W : World) (b : Nat) (s : Mst) (h : Now w W b s) (z : Int) (r : Bool) (s' : Mst) (e1 : buildS s [] = ((z, r), s')) :
    Calls Try.prog 11 #[.pointer (some ⟨b, 0, none⟩), .slice none 0 0] W fun e W' => e = .returned (.tuple #[.int .i64 z, .bool r]) ∧ Now w W' b s' :=
  now_build w W b s none [] 0 0 h (.inl rfl) rfl (Nat.le_refl _) (Nat.zero_le _) (fun _ _ _ e => by cases e) z r s' e1
theorem plantKnown_c (w : World) : Calls Try.prog 3 #[] w fun e w' => e = .returned (.bool true) ∧ Kept w w' := by
  go_enter Try.func3, Try.ntmps3
  go_wp2_with (fail)
  refine (now_new w w 3 (Kept.refl w) (by decide) (by decide)).mono ?_
  rintro e W1 ⟨rfl, h1, -⟩
  have H1 := hide h1
  clear h1
  go_wp2_with (fail)
  refine (known_c _).mono ?_
  rintro e W2 ⟨rfl, k2⟩
  have H2 := hide (H1.out.on k2)
  clear k2 H1
  go_wp2_with (fail)
  refine (now_blit w W2 _ _ [(1, 0), (1, 0)] 2 H2.out rfl (by decide) _ _ _ kn_2).mono ?_
  rintro e W3 ⟨rfl, h3⟩
  have H3 := hide h3
  clear h3 H2
  go_wp2_with (fail)
  refine (now_blit w W3 _ _ [(1, 0), (2, 0)] 2 H3.out rfl (by decide) _ _ _ kn_3).mono ?_
  rintro e W4 ⟨rfl, h4⟩
  have H4 := hide h4
  clear h4 H3
  go_wp2_with (fail)
  refine (now_blit w W4 _ _ [(-9223372036854775808, 4)] 1 H4.out rfl (by decide) _ _ _ kn_4).mono ?_
  rintro e W5 ⟨rfl, h5⟩
  have H5 := hide h5
  clear h5 H4
  go_wp2_with (fail)
  refine (now_bnil w W5 _ _ H5.out _ _ _ kn_5).mono ?_
  rintro e W6 ⟨rfl, h6⟩
  have H6 := hide h6
  clear h6 H5
  go_wp2_with (fail)
  refine (now_bnil w W6 _ _ H6.out _ _ _ kn_6).mono ?_
  rintro e W7 ⟨rfl, h7⟩
  have H7 := hide h7
  clear h7 H6
  go_wp2_with (fail)
  refine (refused_n w W7 _ _ 0 H7.out rfl).mono ?_
  rintro e W ⟨rfl, rfl⟩
  go_wp2_with (fail)
  refine (count_n w W7 _ _ 2 H7.out rfl).mono ?_
  rintro e W ⟨rfl, rfl⟩
  go_wp2_with (fail)
  refine (right_p W7 none [] 0 0 (.inl rfl) rfl (Nat.le_refl _) (Nat.zero_le _) true (by kernel_rfl)).mono ?_
  rintro e W8 ⟨rfl, k8⟩
  have H8 := hide (H7.out.on k8)
  clear k8 H7
  go_wp2_with (fail)
  refine (right_p _ _ [(2, 0), (1, 0)] 2 2 (preads_lit W8 [(2, 0), (1, 0)] 30) rfl (Nat.le_refl _) (by decide) false (by kernel_rfl)).mono ?_
  rintro e W9 ⟨rfl, k9⟩
  have H9 := hide (H8.out.on (((Kept.refl W8).alloc _).trans k9))
  clear k9 H8
  go_wp2_with (fail)
  refine (now_cells w W9 _ _ H9.out).mono ?_
  rintro e WA ⟨a, cap, rfl, hr, hc, hm, -, -, hk⟩
  have HW := hide (words_lit WA a _ cap hr hc hm)
  have HK := hide (H9.out.2.trans hk)
  clear hr hc hm hk H9
  go_wp2_with (fail)
  refine HW.out.mono ?_
  rintro e WB ⟨rfl, k4⟩
  have K4 := hide (HK.out.trans k4)
  clear k4
  go_wp2
  go_ret
  exact ⟨rfl, K4.out⟩
end Go.Proofs.Ytgialpjdfeldeaa

/-! Maps in order as lists of pairs that rise strictly: put, del, get, floor, ceil, what lies between two keys; how each goes over a list cut at a key. Plain lists, over any order that is told by a Bool ('Lin'). No conditions beyond each theorem's own. -/
namespace Go.Proofs.Ytgialpjdfeldeaa.Mp
variable {α β : Type}

/-- A strict order of all. -/
structure Lin (lt : α → α → Bool) : Prop where
  irr : ∀ a, lt a a = false
  tr : ∀ {a b c}, lt a b = true → lt b c = true → lt a c = true
  tri : ∀ {a b}, lt a b = false → lt b a = false → a = b

def ltI : Int → Int → Bool := fun a b => decide (a < b)
theorem linI : Lin ltI := ⟨fun a => by simp [ltI], fun h k => by simp [ltI] at *; omega, fun h k => by simp [ltI] at *; omega⟩

variable (lt : α → α → Bool)
def put : List (α × β) → α → β → List (α × β)
  | [], k, v => [(k, v)]
  | x :: l, k, v => if lt k x.1 then (k, v) :: x :: l else if lt x.1 k then x :: put l k v else (k, v) :: l
def del : List (α × β) → α → List (α × β)
  | [], _ => []
  | x :: l, k => if lt k x.1 then x :: l else if lt x.1 k then x :: del l k else l
def get : List (α × β) → α → Option β
  | [], _ => none
  | x :: l, k => if lt k x.1 then none else if lt x.1 k then get l k else some x.2
/-- The last one whose key is not above k. -/
def floor : List (α × β) → α → Option (α × β)
  | [], _ => none
  | x :: l, k => if lt k x.1 then none else match floor l k with | some y => some y | none => some x
/-- The first one whose key is not below k. -/
def ceil : List (α × β) → α → Option (α × β)
  | [], _ => none
  | x :: l, k => if lt x.1 k then ceil l k else some x
/-- Those from lo to hi. -/
def between (l : List (α × β)) (lo hi : α) : List (α × β) := l.filter fun x => !lt x.1 lo && !lt hi x.1

/-- It rises strictly. -/
def Asc (l : List (α × β)) : Prop := l.Pairwise fun x y => lt x.1 y.1 = true

variable {lt}
theorem Lin.asym (L : Lin lt) {a b : α} (h : lt a b = true) : lt b a = false := by
  cases h' : lt b a with
  | false => rfl
  | true =>
    have := L.tr h h'
    rw [L.irr] at this
    cases this

theorem asc_cut {xs ys : List (α × β)} {x : α × β} (h : Asc lt (xs ++ x :: ys)) : Asc lt xs ∧ Asc lt ys ∧ (∀ y ∈ xs, lt y.1 x.1 = true) ∧ ∀ y ∈ ys, lt x.1 y.1 = true := by
  unfold Asc at *
  rw [List.pairwise_append, List.pairwise_cons] at h
  exact ⟨h.1, h.2.1.2, fun y hy => h.2.2 y hy x (List.mem_cons_self ..), h.2.1.1⟩

theorem asc_join (L : Lin lt) {xs ys : List (α × β)} {x : α × β} (h1 : Asc lt xs) (h2 : Asc lt ys) (h3 : ∀ y ∈ xs, lt y.1 x.1 = true) (h4 : ∀ y ∈ ys, lt x.1 y.1 = true) : Asc lt (xs ++ x :: ys) := by
  unfold Asc at *
  rw [List.pairwise_append, List.pairwise_cons]
  refine ⟨h1, ⟨h4, h2⟩, fun a ha b hb => ?_⟩
  rcases List.mem_cons.1 hb with rfl | hb
  · exact h3 a ha
  · exact L.tr (h3 a ha) (h4 b hb)

/-! ### put -/
theorem put_low {xs ys : List (α × β)} {n : α × β} {k : α} {v : β} (h : lt k n.1 = true) : put lt (xs ++ n :: ys) k v = put lt xs k v ++ n :: ys := by
  induction xs with
  | nil => simp [put, h]
  | cons x xs ih =>
    simp only [List.cons_append, put]
    split
    · rfl
    · split
      · rw [ih]; rfl
      · rfl
theorem put_high (L : Lin lt) {xs ys : List (α × β)} {n : α × β} {k : α} {v : β} (h : lt n.1 k = true) (hx : ∀ y ∈ xs, lt y.1 n.1 = true) : put lt (xs ++ n :: ys) k v = xs ++ n :: put lt ys k v := by
  induction xs with
  | nil => simp [put, h, L.asym h]
  | cons x xs ih =>
    have h1 := L.tr (hx x (List.mem_cons_self ..)) h
    simp only [List.cons_append, put, L.asym h1, h1, Bool.false_eq_true, if_false, if_true]
    rw [ih fun y hy => hx y (List.mem_cons_of_mem _ hy)]
theorem put_eq (L : Lin lt) {xs ys : List (α × β)} {n : α × β} {k : α} {v : β} (h : k = n.1) (hx : ∀ y ∈ xs, lt y.1 n.1 = true) : put lt (xs ++ n :: ys) k v = xs ++ (k, v) :: ys := by
  subst h
  induction xs with
  | nil => simp [put, L.irr]
  | cons x xs ih =>
    have h1 := hx x (List.mem_cons_self ..)
    simp only [List.cons_append, put, L.asym h1, h1, Bool.false_eq_true, if_false, if_true]
    rw [ih fun y hy => hx y (List.mem_cons_of_mem _ hy)]
theorem mem_put {xs : List (α × β)} {k : α} {v : β} {y : α × β} (h : y ∈ put lt xs k v) : y = (k, v) ∨ y ∈ xs := by
  induction xs with
  | nil => simpa [put] using h
  | cons x xs ih =>
    unfold put at h
    split at h
    · simpa using h
    · split at h
      · rcases List.mem_cons.1 h with rfl | h
        · exact .inr (List.mem_cons_self ..)
        · exact (ih h).imp id (List.mem_cons_of_mem _)
      · rcases List.mem_cons.1 h with rfl | h
        · exact .inl rfl
        · exact .inr (List.mem_cons_of_mem _ h)
theorem asc_put (L : Lin lt) {xs : List (α × β)} {k : α} {v : β} (h : Asc lt xs) : Asc lt (put lt xs k v) := by
  induction xs with
  | nil => simp [put, Asc]
  | cons x xs ih =>
    unfold Asc at *
    obtain ⟨h1, h2⟩ := List.pairwise_cons.1 h
    unfold put
    split
    · rename_i hk
      refine List.pairwise_cons.2 ⟨fun y hy => ?_, h⟩
      rcases List.mem_cons.1 hy with rfl | hy
      · exact hk
      · exact L.tr hk (h1 y hy)
    · rename_i hk
      split
      · rename_i hk'
        refine List.pairwise_cons.2 ⟨fun y hy => ?_, ih h2⟩
        rcases mem_put hy with rfl | hy
        · exact hk'
        · exact h1 y hy
      · rename_i hk'
        have e : k = x.1 := L.tri (by simpa using hk) (by simpa using hk')
        subst e
        exact List.pairwise_cons.2 ⟨fun y hy => h1 y hy, h2⟩
theorem length_put {xs : List (α × β)} {k : α} {v : β} : (put lt xs k v).length = match get lt xs k with | some _ => xs.length | none => xs.length + 1 := by
  induction xs with
  | nil => simp [put, get]
  | cons x xs ih =>
    unfold put get
    split
    · simp
    · split
      · simp only [List.length_cons, ih]
        split <;> rfl
      · simp
theorem length_put_le {xs : List (α × β)} {k : α} {v : β} : (put lt xs k v).length ≤ xs.length + 1 := by
  induction xs with
  | nil => simp [put]
  | cons x xs ih =>
    unfold put
    split
    · simp
    · split
      · simp only [List.length_cons]; omega
      · simp

/-! ### del -/
theorem del_low {xs ys : List (α × β)} {n : α × β} {k : α} (h : lt k n.1 = true) : del lt (xs ++ n :: ys) k = del lt xs k ++ n :: ys := by
  induction xs with
  | nil => simp [del, h]
  | cons x xs ih =>
    simp only [List.cons_append, del]
    split
    · rfl
    · split
      · rw [ih]; rfl
      · rfl
theorem del_high (L : Lin lt) {xs ys : List (α × β)} {n : α × β} {k : α} (h : lt n.1 k = true) (hx : ∀ y ∈ xs, lt y.1 n.1 = true) : del lt (xs ++ n :: ys) k = xs ++ n :: del lt ys k := by
  induction xs with
  | nil => simp [del, h, L.asym h]
  | cons x xs ih =>
    have h1 := L.tr (hx x (List.mem_cons_self ..)) h
    simp only [List.cons_append, del, L.asym h1, h1, Bool.false_eq_true, if_false, if_true]
    rw [ih fun y hy => hx y (List.mem_cons_of_mem _ hy)]
theorem del_eq (L : Lin lt) {xs ys : List (α × β)} {n : α × β} {k : α} (h : k = n.1) (hx : ∀ y ∈ xs, lt y.1 n.1 = true) : del lt (xs ++ n :: ys) k = xs ++ ys := by
  subst h
  induction xs with
  | nil => simp [del, L.irr]
  | cons x xs ih =>
    have h1 := hx x (List.mem_cons_self ..)
    simp only [List.cons_append, del, L.asym h1, h1, Bool.false_eq_true, if_false, if_true]
    rw [ih fun y hy => hx y (List.mem_cons_of_mem _ hy)]
theorem del_sub {xs : List (α × β)} {k : α} : (del lt xs k).Sublist xs := by
  induction xs with
  | nil => exact List.Sublist.refl _
  | cons x xs ih =>
    unfold del
    split
    · exact List.Sublist.refl _
    · split
      · exact ih.cons_cons _
      · exact List.sublist_cons_self ..
theorem asc_del {xs : List (α × β)} {k : α} (h : Asc lt xs) : Asc lt (del lt xs k) := List.Pairwise.sublist del_sub h
theorem length_del {xs : List (α × β)} {k : α} : (del lt xs k).length = match get lt xs k with | some _ => xs.length - 1 | none => xs.length := by
  induction xs with
  | nil => simp [del, get]
  | cons x xs ih =>
    unfold del get
    split
    · simp
    · split
      · simp only [List.length_cons, ih]
        cases hg : get lt xs k with
        | none => rfl
        | some v =>
          simp only []
          cases xs with
          | nil => simp [get] at hg
          | cons y ys => simp
      · simp
theorem del_none {xs : List (α × β)} {k : α} (h : get lt xs k = none) : del lt xs k = xs := by
  induction xs with
  | nil => rfl
  | cons x xs ih =>
    unfold get at h
    unfold del
    split
    · rfl
    · rename_i h1
      rw [if_neg h1] at h
      split
      · rename_i h2
        rw [if_pos h2] at h
        rw [ih h]
      · rename_i h2
        rw [if_neg h2] at h
        cases h

/-! ### get -/
theorem get_low {xs ys : List (α × β)} {n : α × β} {k : α} (h : lt k n.1 = true) : get lt (xs ++ n :: ys) k = get lt xs k := by
  induction xs with
  | nil => simp [get, h]
  | cons x xs ih =>
    simp only [List.cons_append, get]
    split
    · rfl
    · split
      · exact ih
      · rfl
theorem get_high (L : Lin lt) {xs ys : List (α × β)} {n : α × β} {k : α} (h : lt n.1 k = true) (hx : ∀ y ∈ xs, lt y.1 n.1 = true) : get lt (xs ++ n :: ys) k = get lt ys k := by
  induction xs with
  | nil => simp [get, h, L.asym h]
  | cons x xs ih =>
    have h1 := L.tr (hx x (List.mem_cons_self ..)) h
    simp only [List.cons_append, get, L.asym h1, h1, Bool.false_eq_true, if_false, if_true]
    exact ih fun y hy => hx y (List.mem_cons_of_mem _ hy)
theorem get_eq (L : Lin lt) {xs ys : List (α × β)} {n : α × β} {k : α} (h : k = n.1) (hx : ∀ y ∈ xs, lt y.1 n.1 = true) : get lt (xs ++ n :: ys) k = some n.2 := by
  subst h
  induction xs with
  | nil => simp [get, L.irr]
  | cons x xs ih =>
    have h1 := hx x (List.mem_cons_self ..)
    simp only [List.cons_append, get, L.asym h1, h1, Bool.false_eq_true, if_false, if_true]
    exact ih fun y hy => hx y (List.mem_cons_of_mem _ hy)

/-! ### floor, ceil -/
theorem floor_low {xs ys : List (α × β)} {n : α × β} {k : α} (h : lt k n.1 = true) : floor lt (xs ++ n :: ys) k = floor lt xs k := by
  induction xs with
  | nil => simp [floor, h]
  | cons x xs ih => simp only [List.cons_append, floor, ih]
theorem floor_high (L : Lin lt) {xs ys : List (α × β)} {n : α × β} {k : α} (h : lt k n.1 = false) (hx : ∀ y ∈ xs, lt y.1 n.1 = true) : floor lt (xs ++ n :: ys) k = match floor lt ys k with | some y => some y | none => some n := by
  induction xs with
  | nil => simp [floor, h]
  | cons x xs ih =>
    have h0 := hx x (List.mem_cons_self ..)
    have h1 : lt k x.1 = false := by
      cases h' : lt k x.1 with
      | false => rfl
      | true =>
        have := L.tr h' h0
        rw [h] at this
        cases this
    simp only [List.cons_append, floor, h1, Bool.false_eq_true, if_false]
    rw [ih fun y hy => hx y (List.mem_cons_of_mem _ hy)]
    cases floor lt ys k <;> rfl
theorem ceil_low {xs ys : List (α × β)} {n : α × β} {k : α} (h : lt n.1 k = false) : ceil lt (xs ++ n :: ys) k = match ceil lt xs k with | some y => some y | none => some n := by
  induction xs with
  | nil => simp [ceil, h]
  | cons x xs ih =>
    simp only [List.cons_append, ceil]
    split
    · exact ih
    · rfl
theorem ceil_high (L : Lin lt) {xs ys : List (α × β)} {n : α × β} {k : α} (h : lt n.1 k = true) (hx : ∀ y ∈ xs, lt y.1 n.1 = true) : ceil lt (xs ++ n :: ys) k = ceil lt ys k := by
  induction xs with
  | nil => simp [ceil, h]
  | cons x xs ih =>
    have h1 := L.tr (hx x (List.mem_cons_self ..)) h
    simp only [List.cons_append, ceil, h1, if_true]
    exact ih fun y hy => hx y (List.mem_cons_of_mem _ hy)
end Go.Proofs.Ytgialpjdfeldeaa.Mp

/-! Maps in order as lists, at whole numbers: what floor, ceil and get tell, by what is in the list. No conditions beyond each theorem's own. -/
namespace Go.Proofs.Ytgialpjdfeldeaa.Mp
variable {β : Type}

theorem ltI_true {a b : Int} : ltI a b = true ↔ a < b := by simp [ltI]
theorem ltI_false {a b : Int} : ltI a b = false ↔ b ≤ a := by simp [ltI]

theorem floor_spec {xs : List (Int × β)} {k : Int} (h : Asc ltI xs) : match floor ltI xs k with
    | none => ∀ y ∈ xs, k < y.1
    | some p => p ∈ xs ∧ p.1 ≤ k ∧ ∀ y ∈ xs, y.1 ≤ k → y.1 ≤ p.1 := by
  induction xs with
  | nil => simp [floor]
  | cons x xs ih =>
    obtain ⟨h1, h2⟩ := List.pairwise_cons.1 h
    have ih := ih h2
    unfold floor
    by_cases hx : k < x.1
    · rw [if_pos (ltI_true.2 hx)]
      intro y hy
      rcases List.mem_cons.1 hy with rfl | hy
      · exact hx
      · have := ltI_true.1 (h1 y hy)
        omega
    · rw [if_neg (by rw [ltI_true]; exact hx)]
      cases hf : floor ltI xs k with
      | none =>
        rw [hf] at ih
        refine ⟨List.mem_cons_self .., by omega, fun y hy hk => ?_⟩
        rcases List.mem_cons.1 hy with rfl | hy
        · omega
        · have := ih y hy
          omega
      | some p =>
        rw [hf] at ih
        refine ⟨List.mem_cons_of_mem _ ih.1, ih.2.1, fun y hy hk => ?_⟩
        rcases List.mem_cons.1 hy with rfl | hy
        · have := ltI_true.1 (h1 p ih.1)
          omega
        · exact ih.2.2 y hy hk

theorem ceil_spec {xs : List (Int × β)} {k : Int} (h : Asc ltI xs) : match ceil ltI xs k with
    | none => ∀ y ∈ xs, y.1 < k
    | some p => p ∈ xs ∧ k ≤ p.1 ∧ ∀ y ∈ xs, k ≤ y.1 → p.1 ≤ y.1 := by
  induction xs with
  | nil => simp [ceil]
  | cons x xs ih =>
    obtain ⟨h1, h2⟩ := List.pairwise_cons.1 h
    have ih := ih h2
    unfold ceil
    by_cases hx : x.1 < k
    · rw [if_pos (ltI_true.2 hx)]
      cases hf : ceil ltI xs k with
      | none =>
        rw [hf] at ih
        intro y hy
        rcases List.mem_cons.1 hy with rfl | hy
        · exact hx
        · exact ih y hy
      | some p =>
        rw [hf] at ih
        refine ⟨List.mem_cons_of_mem _ ih.1, ih.2.1, fun y hy hk => ?_⟩
        rcases List.mem_cons.1 hy with rfl | hy
        · omega
        · exact ih.2.2 y hy hk
    · rw [if_neg (by rw [ltI_true]; exact hx)]
      refine ⟨List.mem_cons_self .., by omega, fun y hy hk => ?_⟩
      rcases List.mem_cons.1 hy with rfl | hy
      · omega
      · have := ltI_true.1 (h1 y hy)
        omega

theorem get_none {xs : List (Int × β)} {k : Int} (h : Asc ltI xs) (hg : get ltI xs k = none) : ∀ y ∈ xs, y.1 ≠ k := by
  induction xs with
  | nil => simp
  | cons x xs ih =>
    obtain ⟨h1, h2⟩ := List.pairwise_cons.1 h
    unfold get at hg
    by_cases hx : k < x.1
    · intro y hy
      rcases List.mem_cons.1 hy with rfl | hy
      · omega
      · have := ltI_true.1 (h1 y hy)
        omega
    · rw [if_neg (by rw [ltI_true]; exact hx)] at hg
      by_cases hx' : x.1 < k
      · rw [if_pos (ltI_true.2 hx')] at hg
        intro y hy
        rcases List.mem_cons.1 hy with rfl | hy
        · omega
        · exact ih h2 hg y hy
      · rw [if_neg (by rw [ltI_true]; exact hx')] at hg
        cases hg
theorem get_some {xs : List (Int × β)} {k : Int} {v : β} (hg : get ltI xs k = some v) : (k, v) ∈ xs := by
  induction xs with
  | nil => simp [get] at hg
  | cons x xs ih =>
    unfold get at hg
    by_cases hx : k < x.1
    · rw [if_pos (ltI_true.2 hx)] at hg
      cases hg
    · rw [if_neg (by rw [ltI_true]; exact hx)] at hg
      by_cases hx' : x.1 < k
      · rw [if_pos (ltI_true.2 hx')] at hg
        exact List.mem_cons_of_mem _ (ih hg)
      · rw [if_neg (by rw [ltI_true]; exact hx')] at hg
        cases hg
        have e : k = x.1 := by omega
        rw [e]
        exact List.mem_cons_self ..

/-- What lies near a key: the key itself; or what is below it, and what is above. -/
theorem near_cases {xs : List (Int × Int)} (k : Int) (h : Asc ltI xs) :
    (∃ v u t, get ltI xs k = some v ∧ floor ltI xs k = some (k, u) ∧ ceil ltI xs k = some (k, t)) ∨
    (get ltI xs k = none ∧ (∀ y ∈ xs, y.1 ≠ k) ∧ ((floor ltI xs k = none ∧ ∀ y ∈ xs, k < y.1) ∨ ∃ a u, floor ltI xs k = some (a, u) ∧ a < k ∧ ∀ y ∈ xs, y.1 ≤ k → y.1 ≤ a) ∧
      ((ceil ltI xs k = none ∧ ∀ y ∈ xs, y.1 < k) ∨ ∃ b t, ceil ltI xs k = some (b, t) ∧ k < b ∧ ∀ y ∈ xs, k ≤ y.1 → b ≤ y.1)) := by
  have hf := floor_spec (k := k) h
  have hc := ceil_spec (k := k) h
  cases hg : get ltI xs k with
  | some v =>
    have hm := get_some hg
    refine .inl ⟨v, ?_⟩
    cases hF : floor ltI xs k with
    | none =>
      rw [hF] at hf
      have := hf _ hm
      simp at this
    | some p =>
      rw [hF] at hf
      have e1 := hf.2.2 _ hm (Int.le_refl _)
      have e2 := hf.2.1
      cases hC : ceil ltI xs k with
      | none =>
        rw [hC] at hc
        have := hc _ hm
        simp at this
      | some q =>
        rw [hC] at hc
        have e3 := hc.2.2 _ hm (Int.le_refl _)
        have e4 := hc.2.1
        simp only at e1 e3
        exact ⟨p.2, q.2, rfl, by rw [show p = (k, p.2) from Prod.ext (by simp; omega) rfl], by rw [show q = (k, q.2) from Prod.ext (by simp; omega) rfl]⟩
  | none =>
    have hn := get_none h hg
    refine .inr ⟨rfl, hn, ?_, ?_⟩
    · cases hF : floor ltI xs k with
      | none =>
        rw [hF] at hf
        exact .inl ⟨rfl, hf⟩
      | some p =>
        rw [hF] at hf
        have := hn p hf.1
        exact .inr ⟨p.1, p.2, rfl, by have := hf.2.1; omega, hf.2.2⟩
    · cases hC : ceil ltI xs k with
      | none =>
        rw [hC] at hc
        exact .inl ⟨rfl, hc⟩
      | some q =>
        rw [hC] at hc
        have := hn q hc.1
        exact .inr ⟨q.1, q.2, rfl, by have := hc.2.1; omega, hc.2.2⟩
end Go.Proofs.Ytgialpjdfeldeaa.Mp

/-! Maps in order as lists, at whole numbers, by the place of a key: how many keys are below it. No conditions beyond each theorem's own. -/
namespace Go.Proofs.Ytgialpjdfeldeaa.Mp

/-- How many keys, from the first on, are below k. -/
def place (xs : List (Int × Int)) (k : Int) : Nat := (xs.takeWhile fun p => decide (p.1 < k)).length
theorem place_nil (k : Int) : place [] k = 0 := rfl
theorem place_cons (x : Int × Int) (xs : List (Int × Int)) (k : Int) : place (x :: xs) k = if x.1 < k then place xs k + 1 else 0 := by
  unfold place
  by_cases h : x.1 < k <;> simp [h]
theorem place_le : (xs : List (Int × Int)) → (k : Int) → place xs k ≤ xs.length
  | [], _ => Nat.le_refl _
  | x :: xs, k => by
    have := place_le xs k
    rw [place_cons]
    simp only [List.length_cons]
    split <;> omega
theorem place_below : {xs : List (Int × Int)} → {k : Int} → {j : Nat} → {p : Int × Int} → j < place xs k → xs[j]? = some p → p.1 < k
  | [], _, _, _, h, _ => by simp [place_nil] at h
  | x :: xs, k, j, p, h, hp => by
    rw [place_cons] at h
    split at h
    · rename_i hx
      cases j with
      | zero =>
        obtain rfl : x = p := by simpa using hp
        exact hx
      | succ j => exact place_below (xs := xs) (j := j) (by omega) (by simpa using hp)
    · omega
theorem place_stop : {xs : List (Int × Int)} → {k : Int} → {p : Int × Int} → xs[place xs k]? = some p → k ≤ p.1
  | [], _, _, h => by simp at h
  | x :: xs, k, p, h => by
    rw [place_cons] at h
    split at h
    · exact place_stop (xs := xs) (by simpa using h)
    · obtain rfl : x = p := by simpa using h
      omega

/-- Whether the key at its place is k. -/
def hit (xs : List (Int × Int)) (k : Int) : Bool := match xs[place xs k]? with | some p => p.1 == k | none => false

theorem get_place : (xs : List (Int × Int)) → (k : Int) → get ltI xs k = if hit xs k then (xs[place xs k]?).map Prod.snd else none
  | [], k => by simp [get, hit]
  | x :: xs, k => by
    have ih := get_place xs k
    unfold get
    by_cases h1 : k < x.1
    · have e : hit (x :: xs) k = false := by
        have : place (x :: xs) k = 0 := by rw [place_cons, if_neg (by omega)]
        simp only [hit, this, List.getElem?_cons_zero, beq_eq_false_iff_ne, ne_eq]
        omega
      rw [if_pos (ltI_true.2 h1), e]
      rfl
    · rw [if_neg (by rw [ltI_true]; exact h1)]
      by_cases h2 : x.1 < k
      · have : place (x :: xs) k = place xs k + 1 := by rw [place_cons, if_pos h2]
        have e : hit (x :: xs) k = hit xs k := by simp only [hit, this, List.getElem?_cons_succ]
        rw [if_pos (ltI_true.2 h2), ih, e, this, List.getElem?_cons_succ]
      · have : place (x :: xs) k = 0 := by rw [place_cons, if_neg h2]
        have e : x.1 = k := by omega
        rw [if_neg (by rw [ltI_true]; exact h2)]
        simp [hit, this, e]
theorem put_place : (xs : List (Int × Int)) → (k v : Int) → put ltI xs k v = xs.take (place xs k) ++ (k, v) :: xs.drop (if hit xs k then place xs k + 1 else place xs k)
  | [], k, v => by simp [put, place_nil]
  | x :: xs, k, v => by
    have ih := put_place xs k v
    unfold put
    by_cases h1 : k < x.1
    · have hp : place (x :: xs) k = 0 := by rw [place_cons, if_neg (by omega)]
      have e : hit (x :: xs) k = false := by
        simp only [hit, hp, List.getElem?_cons_zero, beq_eq_false_iff_ne, ne_eq]
        omega
      rw [if_pos (ltI_true.2 h1), e, hp]
      rfl
    · rw [if_neg (by rw [ltI_true]; exact h1)]
      by_cases h2 : x.1 < k
      · have hp : place (x :: xs) k = place xs k + 1 := by rw [place_cons, if_pos h2]
        have e : hit (x :: xs) k = hit xs k := by simp only [hit, hp, List.getElem?_cons_succ]
        rw [if_pos (ltI_true.2 h2), ih, e, hp]
        cases hit xs k <;> simp
      · have hp : place (x :: xs) k = 0 := by rw [place_cons, if_neg h2]
        have e : hit (x :: xs) k = true := by
          simp only [hit, hp, List.getElem?_cons_zero, beq_iff_eq]
          omega
        rw [if_neg (by rw [ltI_true]; exact h2), e, hp]
        simp
theorem del_place : (xs : List (Int × Int)) → (k : Int) → del ltI xs k = xs.take (place xs k) ++ xs.drop (if hit xs k then place xs k + 1 else place xs k)
  | [], k => by simp [del]
  | x :: xs, k => by
    have ih := del_place xs k
    unfold del
    by_cases h1 : k < x.1
    · have hp : place (x :: xs) k = 0 := by rw [place_cons, if_neg (by omega)]
      have e : hit (x :: xs) k = false := by
        simp only [hit, hp, List.getElem?_cons_zero, beq_eq_false_iff_ne, ne_eq]
        omega
      rw [if_pos (ltI_true.2 h1), e, hp]
      rfl
    · rw [if_neg (by rw [ltI_true]; exact h1)]
      by_cases h2 : x.1 < k
      · have hp : place (x :: xs) k = place xs k + 1 := by rw [place_cons, if_pos h2]
        have e : hit (x :: xs) k = hit xs k := by simp only [hit, hp, List.getElem?_cons_succ]
        rw [if_pos (ltI_true.2 h2), ih, e, hp]
        cases hit xs k <;> simp
      · have hp : place (x :: xs) k = 0 := by rw [place_cons, if_neg h2]
        have e : hit (x :: xs) k = true := by
          simp only [hit, hp, List.getElem?_cons_zero, beq_iff_eq]
          omega
        rw [if_neg (by rw [ltI_true]; exact h2), e, hp]
        simp
theorem ceil_place : (xs : List (Int × Int)) → (k : Int) → ceil ltI xs k = xs[place xs k]?
  | [], k => rfl
  | x :: xs, k => by
    have ih := ceil_place xs k
    unfold ceil
    by_cases h : x.1 < k
    · rw [if_pos (ltI_true.2 h), ih, place_cons, if_pos h]
      simp
    · rw [if_neg (by rw [ltI_true]; exact h), place_cons, if_neg h]
      simp
theorem floor_place {xs : List (Int × Int)} (k : Int) (ha : Asc ltI xs) : floor ltI xs k = if hit xs k then xs[place xs k]? else if place xs k = 0 then none else xs[place xs k - 1]? := by
  induction xs with
  | nil => simp [floor, hit, place_nil]
  | cons x xs ih =>
    obtain ⟨a1, a2⟩ := List.pairwise_cons.1 ha
    have ih := ih a2
    unfold floor
    by_cases h1 : k < x.1
    · have hp : place (x :: xs) k = 0 := by rw [place_cons, if_neg (by omega)]
      have e : hit (x :: xs) k = false := by
        simp only [hit, hp, List.getElem?_cons_zero, beq_eq_false_iff_ne, ne_eq]
        omega
      rw [if_pos (ltI_true.2 h1), e, hp]
      rfl
    · rw [if_neg (by rw [ltI_true]; exact h1)]
      by_cases h2 : x.1 < k
      · have hp : place (x :: xs) k = place xs k + 1 := by rw [place_cons, if_pos h2]
        have e : hit (x :: xs) k = hit xs k := by simp only [hit, hp, List.getElem?_cons_succ]
        rw [ih, e, hp]
        cases hh : hit xs k with
        | true =>
          simp only [if_true, List.getElem?_cons_succ]
          cases hg : xs[place xs k]? with
          | none => simp [hit, hg] at hh
          | some p => rfl
        | false =>
          simp only [Bool.false_eq_true, if_false, Nat.add_one_ne_zero, Nat.add_sub_cancel]
          by_cases h0 : place xs k = 0
          · rw [if_pos h0, h0]
            rfl
          · rw [if_neg h0]
            obtain ⟨q, hq⟩ : ∃ q, place xs k = q + 1 := ⟨place xs k - 1, by omega⟩
            have hl := place_le xs k
            rw [hq]
            simp only [Nat.add_sub_cancel, List.getElem?_cons_succ]
            rw [List.getElem?_eq_getElem (by omega)]
      · have hp : place (x :: xs) k = 0 := by rw [place_cons, if_neg h2]
        have e : hit (x :: xs) k = true := by
          simp only [hit, hp, List.getElem?_cons_zero, beq_iff_eq]
          omega
        have hf : floor ltI xs k = none := by
          cases xs with
          | nil => rfl
          | cons y ys =>
            unfold floor
            rw [if_pos (ltI_true.2 (by have := ltI_true.1 (a1 y (List.mem_cons_self ..)); omega))]
        rw [hf, e, hp]
        rfl
end Go.Proofs.Ytgialpjdfeldeaa.Mp

/-! Slices of pairs: how they read ('PReads'); what the document's Place and Put answer, of pairs in a slice that owns its row; nothing that lay is turned. -/
namespace Go.Proofs.Ytgialpjdfeldeaa.Mp
open Go.RowKit

/-- A slice value that reads as these pairs, from its block's beginning on. -/
def PReads (w : World) (a : Option Addr) (xs : List (Int × Int)) : Prop :=
  xs = [] ∨ ∃ bl, a = some ⟨bl, 0, none⟩ ∧ ∀ j p, xs[j]? = some p → w.cell? ⟨bl, j * 2, none⟩ = some (.int .i64 p.1) ∧ w.cell? ⟨bl, j * 2 + 1, none⟩ = some (.int .i64 p.2)
theorem PReads.turned {w w' : World} {a : Option Addr} {xs : List (Int × Int)} (h : PReads w a xs) {R : Nat → Prop} (ht : Turned R w w') (hR : ∀ k, (Value.slice a 0 0).ownBlock = some k → ¬ R k) : PReads w' a xs := by
  rcases h with h | ⟨bl, rfl, h⟩
  · exact .inl h
  · refine .inr ⟨bl, rfl, fun j p hp => ?_⟩
    have hn := hR bl rfl
    exact ⟨ht.cell (h j p hp).1 hn, ht.cell (h j p hp).2 hn⟩
theorem PReads.kept {w w' : World} {a : Option Addr} {xs : List (Int × Int)} (h : PReads w a xs) (ht : Kept w w') : PReads w' a xs := h.turned ht (fun _ _ e => e)
theorem PReads.at {w : World} {a : Option Addr} {xs : List (Int × Int)} (h : PReads w a xs) {j : Nat} {p : Int × Int} (hp : xs[j]? = some p) : ∃ bl, a = some ⟨bl, 0, none⟩ ∧ bl < w.heap.size ∧ w.cell? ⟨bl, j * 2, none⟩ = some (.int .i64 p.1) ∧ w.cell? ⟨bl, j * 2 + 1, none⟩ = some (.int .i64 p.2) := by
  rcases h with h | ⟨bl, ha, hc⟩
  · rw [h] at hp
    simp at hp
  · exact ⟨bl, ha, World.block_lt_of_cell? _ _ (hc j p hp).1, hc j p hp⟩

/-- A slice of pairs that owns its row reads as they are. -/
theorem preads_of_row {w : World} {n₀ : Nat} {v : Value} {xs : List (Int × Int)} (h : w.ownsRow n₀ 30 2 v xs.length (flat xs)) : ∃ a cap, v = .slice a xs.length cap ∧ PReads w a xs ∧ xs.length ≤ cap := by
  rcases h.2 with ⟨rfl, h0⟩ | ⟨g, cap, cur, rfl, _, _, hc, _⟩
  · obtain rfl := List.length_eq_zero_iff.1 h0
    exact ⟨none, 0, rfl, .inl rfl, Nat.le_refl _⟩
  · refine ⟨_, cap, rfl, .inr ⟨g, rfl, fun j p hp => ?_⟩, hc⟩
    have hj := (List.getElem?_eq_some_iff.1 hp).1
    rw [h.cellAt (j * 2) (by omega), h.cellAt (j * 2 + 1) (by omega)]
    exact flat_at hp

theorem info47 : (Try.prog.info? 30).map (fun i => (i.zero, i.size, i.bytes)) = some (some (.agg #[.int .i64 0, .int .i64 0]), 2, 16) := by kernel_rfl

/-- Behind an append to a row that is new since w, what lay at w lies as it lay. -/
theorem kept_append {w wr w1 : World} {v : Value} {xs : List (Int × Int)} {tmp : Obj} (k : Kept w wr) (hr : wr.ownsRow w.heap.size 30 2 v xs.length (flat xs)) (hg : (wr.alloc tmp).grownBy w1 v.ownBlock) : Kept w w1 :=
  Turned.trans (k.trans (Turned.alloc _ _ tmp)) (Turned.of_grownBy (R := fun j => v.ownBlock = some j) hg (fun _ h => h)) (fun _ h => h) (fun i hi h => by have := (hr.lt i h).1; omega)
theorem kept_append0 {w wr w1 : World} {v : Value} {xs : List (Int × Int)} (k : Kept w wr) (hr : wr.ownsRow w.heap.size 30 2 v xs.length (flat xs)) (hg : wr.grownBy w1 v.ownBlock) : Kept w w1 :=
  Turned.trans k (Turned.of_grownBy (R := fun j => v.ownBlock = some j) hg (fun _ h => h)) (fun _ h => h) (fun i hi h => by have := (hr.lt i h).1; omega)

/-- Two cells of a new block. -/
theorem two_newR (w : World) (x y : Int) : ∀ (j : Nat) (u : Value), [Value.int .i64 x, .int .i64 y][j]? = some u → (w.alloc (.cells #[.int .i64 x, .int .i64 y] 30)).cell? ((⟨w.heap.size, 0, none⟩ : Addr).add j) = some u := by
  intro j u h
  have hb : (w.alloc (.cells #[.int .i64 x, .int .i64 y] 30)).heap[w.heap.size]? = some (.cells #[.int .i64 x, .int .i64 y] 30) := heap_new w _
  have c : ∀ i, (w.alloc (.cells #[.int .i64 x, .int .i64 y] 30)).cell? ⟨w.heap.size, i, none⟩ = #[Value.int .i64 x, .int .i64 y][i]? := fun i => by
    unfold World.cell?
    rw [hb]
    rfl
  rcases j with _ | _ | j
  · simp at h
    subst h
    exact c 0
  · simp at h
    subst h
    exact c 1
  · simp at h

/-- A new slice of these pairs. -/
def PSliced (xs : List (Int × Int)) (w : World) (e : Ending) (w' : World) : Prop := ∃ v, e = .returned v ∧ w'.ownsRow w.heap.size 30 2 v xs.length (flat xs) ∧ Kept w w'

theorem wpList_append_none {P : Program} {w : World} {ops : Array Oper} {rest : List Oper} {o : Oper} {a : Act} {Q : Exit → Act → World → Prop} (hgd : o.guard = none) (s x : Operand) (t : TypeId)
    (ho : o.op = .call { callee := .builtin .append, args := #[s, x], argTypes := #[t, t] })
    (base : Nat) (e : TypeId) (i : TypeInfo) (size : Nat) (ht : P.underlying t = some (.slice e)) (hi : P.info? e = some i)
    (v : Value) (n : Nat) (xs : List Value) (hs : a.eval s = v) (hown : w.ownsRow base e size v n xs) (hx : a.eval x = .slice none 0 0)
    (h : wpList P ops Q rest (a.put o.dst v) w) : wpList P ops Q (o :: rest) a w := by
  refine wpList_plain hgd fun K hK => ?_
  have hr := run_append_owned_none (P := P) (w := w) base t o.type e i size ht hi v n xs hown
  unfold Oper.wp execOp
  simp only [ho, resolve, invoke, builtin, Sem.run_bind, Sem.run_pure, Result.andThen_ok, List.map_toArray, List.map_cons, List.map_nil, hs, hx, hr]
  exact hK _ _ h

/-- A new row without an element. -/
theorem prow_new (w : World) : (w.alloc (.cells #[] 30)).ownsRow w.heap.size 30 2 (.slice (some ⟨w.heap.size, 0, none⟩) 0 0) ([] : List (Int × Int)).length (flat []) :=
  ⟨rfl, .inr ⟨w.heap.size, 0, #[], rfl, Nat.le_refl _, heap_new w _, Nat.le_refl _, Nat.zero_le _, rfl, rfl⟩⟩

/-- The cells of a part of a row, where they lie. -/
theorem src_cells {w w' : World} {n₀ g cap : Nat} {xs : List (Int × Int)} (h : w.ownsRow n₀ 30 2 (.slice (some ⟨g, 0, none⟩) xs.length cap) xs.length (flat xs)) (k : Kept w w') (q m : Nat) :
    ∀ (j : Nat) (u : Value), (flat ((xs.drop q).take m))[j]? = some u → w'.cell? ((⟨g, q * 2, none⟩ : Addr).add j) = some u := by
  intro j u hu
  have hq : q ≤ xs.length := by
    by_cases hq : q ≤ xs.length
    · exact hq
    · rw [List.drop_eq_nil_of_le (by omega)] at hu
      simp [flat] at hu
  have e : flat xs = flat (xs.take q) ++ (flat ((xs.drop q).take m) ++ flat ((xs.drop q).drop m)) := by
    rw [← flat_append, List.take_append_drop, ← flat_append, List.take_append_drop]
  have hj := (List.getElem?_eq_some_iff.1 hu).1
  have l1 : (flat (xs.take q)).length = q * 2 := by rw [flat_length, List.length_take]; congr 1; omega
  have hx : (flat xs)[q * 2 + j]? = some u := by
    rw [e, List.getElem?_append_right (by omega), l1, Nat.add_sub_cancel_left, List.getElem?_append_left hj]
    exact hu
  have hlt : q * 2 + j < xs.length * 2 := by
    have := (List.getElem?_eq_some_iff.1 hx).1
    rwa [flat_length] at this
  have hc := h.cellAt (q * 2 + j) hlt
  rw [hx] at hc
  rw [Go.WideShapes.add_plain]
  exact k.cell hc id

set_option maxRecDepth 100000 in
theorem place_c (w : World) (a : Option Addr) (xs : List (Int × Int)) (cap : Nat) (k : Int) (hr : PReads w a xs) (hc : xs.length ≤ cap) (hl : xs.length ≤ 5000) :
    Calls Try.prog 78 #[.slice a xs.length cap, .int .i64 k] w fun e w' => e = .returned (.int .i64 (place xs k : Int)) ∧ w = w' := by
  have HR := hide hr
  have hpl := place_le xs k
  clear hr
  go_enter Try.func78, Try.ntmps78
  go_wp2
  go_loopw [5] (fun i wr => ∃ n : Nat, n ≤ place xs k ∧ i = .int .i64 n ∧ w = wr) (fun i _ => xs.length - (intOf i).toNat)
  case atStart => exact ⟨0, Nat.zero_le _, rfl, rfl⟩
  case round =>
    obtain ⟨n, hn, rfl, rfl⟩ := hrel
    by_cases hlt : n < xs.length
    · obtain ⟨⟨x, xv⟩, hp⟩ : ∃ p, xs[n]? = some p := ⟨_, List.getElem?_eq_getElem hlt⟩
      obtain ⟨bl, rfl, _, g1, _⟩ := HR.out.at hp
      simp only at g1
      have i3 : n < cap := by omega
      by_cases hnp : n < place xs k
      · have hx : x < k := place_below hnp hp
        clear hp
        go_wp2
        exact ⟨⟨n + 1, by omega, by simp, trivial⟩, by simp [intOf]; omega⟩
      · have e : n = place xs k := by omega
        have hx : k ≤ x := by
          rw [e] at hp
          exact place_stop hp
        have E := hide e
        clear hp e hnp
        go_wp2
        go_ret
        exact ⟨by rw [← E.out]; rfl, rfl⟩
    · have E : Hid (n = place xs k) := hide (by omega)
      go_wp2
      go_ret
      exact ⟨by rw [← E.out]; rfl, rfl⟩

/-- What is at the place, if anything. -/
theorem hit_true {xs : List (Int × Int)} {k : Int} (h : hit xs k = true) : ∃ v, xs[place xs k]? = some (k, v) ∧ place xs k < xs.length := by
  unfold hit at h
  cases hp : xs[place xs k]? with
  | none => simp [hp] at h
  | some p =>
    simp [hp] at h
    exact ⟨p.2, by rw [← h], (List.getElem?_eq_some_iff.1 hp).1⟩
theorem hit_false {xs : List (Int × Int)} {k : Int} (h : hit xs k = false) : xs.length = place xs k ∨ ∃ x v, xs[place xs k]? = some (x, v) ∧ place xs k < xs.length ∧ x ≠ k := by
  have hl := place_le xs k
  cases hp : xs[place xs k]? with
  | none =>
    rw [List.getElem?_eq_none_iff] at hp
    exact .inl (by omega)
  | some p =>
    unfold hit at h
    simp [hp] at h
    exact .inr ⟨p.1, p.2, rfl, (List.getElem?_eq_some_iff.1 hp).1, h⟩

theorem preads_of_own {w : World} {n₀ g cap : Nat} {xs : List (Int × Int)} (h : w.ownsRow n₀ 30 2 (.slice (some ⟨g, 0, none⟩) xs.length cap) xs.length (flat xs)) : PReads w (some ⟨g, 0, none⟩) xs := by
  obtain ⟨a, c, e, hp, _⟩ := preads_of_row h
  cases e
  exact hp

set_option maxRecDepth 100000 in
set_option maxHeartbeats 1000000 in
theorem refPut_c (w : World) (n₀ : Nat) (v : Value) (xs : List (Int × Int)) (k u : Int) (hv : w.ownsRow n₀ 30 2 v xs.length (flat xs)) (hl : xs.length ≤ 5000) :
    Calls Try.prog 49 #[v, .int .i64 k, .int .i64 u] w (PSliced (put ltI xs k u) w) := by
  obtain ⟨y0, hi', hz0, hz1, hz2⟩ := info_parts info47
  have hpp := put_place xs k u
  have r0 := prow_new w
  rcases hv.2 with ⟨rfl, h0⟩ | ⟨g, cap, cur, rfl, hg0, _, hcap, hmx, _⟩
  · obtain rfl := List.length_eq_zero_iff.1 h0
    have HP : Hid (Calls Try.prog 78 #[.slice none 0 0, .int .i64 k] w fun e w' => e = .returned (.int .i64 0) ∧ w = w') := hide (place_c w none [] 0 k (.inl rfl) (Nat.le_refl _) (by simp))
    clear hv hpp h0
    go_enter Try.func49, Try.ntmps49
    go_wp2_with (fail)
    refine HP.out.mono ?_
    rintro e w' ⟨rfl, rfl⟩
    go_wp2_with (at_builtin; refine Stop.out ?_)
    refine ⟨?_⟩
    refine wpList_append_none rfl _ _ 31 rfl w.heap.size 30 y0 2 Try.underlying31 hi' _ _ _ rfl r0 rfl ?_
    go_wp2_with (at_builtin; refine Stop.out ?_)
    refine ⟨?_⟩
    refine wpList_append_own_at _ rfl _ _ 31 rfl w.heap.size 30 y0 (.agg #[.int .i64 0, .int .i64 0]) 2 16 Try.underlying31 hi' hz0 hz1 hz2 rfl (by decide) _ _ _ rfl (r0.alloc (.cells #[.int .i64 k, .int .i64 u] 30)) ⟨w.heap.size + 1, 0, none⟩ 1 1 [.int .i64 k, .int .i64 u] rfl rfl (by have := two_newR (w.alloc (.cells #[] 30)) k u; rwa [World.size_alloc] at this) (by simp [Value.oneCell']) (by decide) (by decide) (by rw [World.size_alloc, World.size_alloc]; omega) ?_
    intro v2 w2 hown2 hg2 hni _
    clear hni
    have K2 := hide (kept_append (xs := []) (show Kept w (w.alloc (.cells #[] 30)) from Turned.alloc _ _ _) r0 hg2)
    clear hg2 r0
    go_wp2_with (at_builtin; refine Stop.out ?_)
    refine ⟨?_⟩
    refine wpList_append_none rfl _ _ 31 rfl w.heap.size 30 y0 2 Try.underlying31 hi' _ _ _ rfl hown2 rfl ?_
    go_wp2
    go_ret
    exact ⟨v2, rfl, by simpa [flat, put] using hown2, K2.out⟩
  · have hc5 : cap ≤ 9223372036854775807 := by unfold maxLen at hmx; omega
    have HP := hide (place_c w _ xs cap k (preads_of_own hv) hcap hl)
    have hpl := place_le xs k
    have HV := hide hv
    cases hh : hit xs k with
    | true =>
      obtain ⟨hv', hat, hlt⟩ := hit_true hh
      obtain ⟨_, he, _, g1, _⟩ := (preads_of_own hv).at hat
      obtain rfl := Option.some.inj he |> Addr.mk.inj |>.1
      simp only at g1
      rw [hh, if_pos rfl] at hpp
      obtain ⟨n, hn⟩ : ∃ n, place xs k = n := ⟨_, rfl⟩
      rw [hn] at HP g1 hlt hpp hpl
      have HPP := hide hpp
      have i3 : n < cap := by omega
      clear hv hpp hat hh hn he
      go_enter Try.func49, Try.ntmps49
      go_wp2_with (fail)
      refine HP.out.mono ?_
      rintro e w' ⟨rfl, rfl⟩
      have s1 := src_cells HV.out (show Kept w (w.alloc (.cells #[] 30)) from Turned.alloc _ _ _) 0 n
      simp only [Nat.zero_mul, List.drop_zero] at s1
      go_wp2_with (at_builtin; refine Stop.out ?_)
      refine ⟨?_⟩
      refine wpList_append_own_at _ rfl _ _ 31 rfl w.heap.size 30 y0 (.agg #[.int .i64 0, .int .i64 0]) 2 16 Try.underlying31 hi' hz0 hz1 hz2 rfl (by decide) _ _ _ rfl r0 ⟨g, 0, none⟩ n cap (flat (xs.take n)) rfl (by rw [flat_length, List.length_take]; congr 1; omega) s1 (flat_one _) (by simp; unfold maxLen; omega) (by simp; omega) (by simp) ?_
      intro v1 w1 hown1 hg1 hni _
      clear hni
      have K1 := hide (kept_append0 (xs := []) (show Kept w (w.alloc (.cells #[] 30)) from Turned.alloc _ _ _) r0 hg1)
      have r1 : w1.ownsRow w.heap.size 30 2 v1 (xs.take n).length (flat (xs.take n)) := (by rw [List.length_take, Nat.min_eq_left (by omega)]; simpa [flat] using hown1)
      have zz1 := K1.out.size
      have R1 := hide r1
      clear hown1 hg1 s1 r0 r1
      go_wp2_with (at_builtin; refine Stop.out ?_)
      refine ⟨?_⟩
      refine wpList_append_own_at _ rfl _ _ 31 rfl w.heap.size 30 y0 (.agg #[.int .i64 0, .int .i64 0]) 2 16 Try.underlying31 hi' hz0 hz1 hz2 rfl (by decide) _ _ _ rfl (R1.out.alloc (.cells #[.int .i64 k, .int .i64 u] 30)) ⟨w1.heap.size, 0, none⟩ 1 1 [.int .i64 k, .int .i64 u] rfl rfl (two_newR _ _ _) (by simp [Value.oneCell']) (by rw [List.length_take]; unfold maxLen; omega) (by rw [List.length_take]; omega) (by simp; omega) ?_
      intro v2 w2 hown2 hg2 hni _
      clear hni
      have K2 := hide (kept_append K1.out R1.out hg2)
      have r2 : w2.ownsRow w.heap.size 30 2 v2 (xs.take n ++ [(k, u)]).length (flat (xs.take n ++ [(k, u)])) := (by simpa [flat_append, flat] using hown2)
      have R2 := hide r2
      have s2 := src_cells HV.out K2.out (n + 1) (xs.length - (n + 1))
      have g1' := K2.out.cell g1 id
      have zz2 := K2.out.size
      clear hown2 hg2 r2 g1
      by_cases hcq : cap = n + 1
      · go_wp2_with (at_builtin; refine Stop.out ?_)
        refine ⟨?_⟩
        refine wpList_append_own_at _ rfl _ _ 31 rfl w.heap.size 30 y0 (.agg #[.int .i64 0, .int .i64 0]) 2 16 Try.underlying31 hi' hz0 hz1 hz2 rfl (by decide) _ _ _ rfl R2.out _ _ _ (flat []) rfl (by first | (simp [flat]; done) | (simp [flat]; omega)) (by simp [flat]) (flat_one _) (by simp only [List.length_append, List.length_take, List.length_singleton]; unfold maxLen; omega) (by simp only [List.length_append, List.length_take, List.length_singleton]; omega) (by omega) ?_
        intro v3 w3 hown3 hg3 hni _
        clear hni
        have KF := hide (kept_append0 K2.out R2.out hg3)
        go_wp2
        go_ret
        refine ⟨v3, rfl, ?_, KF.out⟩
        rw [HPP.out]
        have e0 : xs.drop (n + 1) = [] := List.drop_eq_nil_of_le (by omega)
        have e1 : (xs.take n ++ [(k, u)]).length + (xs.length - (n + 1)) = (xs.take n ++ [(k, u)]).length := by omega
        rw [e0]
        try rw [e1] at hown3
        simpa [flat] using hown3
      · go_wp2_with (at_builtin; refine Stop.out ?_)
        refine ⟨?_⟩
        refine wpList_append_own_at _ rfl _ _ 31 rfl w.heap.size 30 y0 (.agg #[.int .i64 0, .int .i64 0]) 2 16 Try.underlying31 hi' hz0 hz1 hz2 rfl (by decide) _ _ _ rfl R2.out ⟨g, (n + 1) * 2, none⟩ (xs.length - (n + 1)) (cap - (n + 1)) (flat ((xs.drop (n + 1)).take (xs.length - (n + 1)))) rfl (by rw [flat_length, List.length_take, List.length_drop]; congr 1; omega) s2 (flat_one _) (by simp only [List.length_append, List.length_take, List.length_singleton]; unfold maxLen; omega) (by simp only [List.length_append, List.length_take, List.length_singleton]; omega) (by omega) ?_
        intro v3 w3 hown3 hg3 hni _
        clear hni
        have KF := hide (kept_append0 K2.out R2.out hg3)
        go_wp2
        go_ret
        refine ⟨v3, rfl, ?_, KF.out⟩
        rw [HPP.out]
        have e1 : (xs.drop (n + 1)).take (xs.length - (n + 1)) = xs.drop (n + 1) := List.take_of_length_le (by rw [List.length_drop]; exact Nat.le_refl _)
        rw [e1, ← flat_append] at hown3
        have e2 : (xs.take n ++ [(k, u)]).length + (xs.length - (n + 1)) = (xs.take n ++ [(k, u)] ++ xs.drop (n + 1)).length := by simp only [List.length_append, List.length_drop]
        rw [e2] at hown3
        simpa using hown3
    | false =>
      rw [hh, if_neg (by simp)] at hpp
      rcases hit_false hh with he | ⟨x, xv, hat, hlt, hne⟩
      · obtain ⟨n, hn⟩ : ∃ n, place xs k = n := ⟨_, rfl⟩
        rw [hn] at HP hpp hpl he
        have HPP := hide hpp
        have hnl : ¬ ((n : Int) < (xs.length : Int)) := by omega
        have hnl' : ¬ (n < xs.length) := by omega
        have he' : xs.length ≤ n := by omega
        clear hv hpp hh hn he
        go_enter Try.func49, Try.ntmps49
        go_wp2_with (fail)
        refine HP.out.mono ?_
        rintro e w' ⟨rfl, rfl⟩
        have s1 := src_cells HV.out (show Kept w (w.alloc (.cells #[] 30)) from Turned.alloc _ _ _) 0 n
        simp only [Nat.zero_mul, List.drop_zero] at s1
        go_wp2_with (at_builtin; refine Stop.out ?_)
        refine ⟨?_⟩
        refine wpList_append_own_at _ rfl _ _ 31 rfl w.heap.size 30 y0 (.agg #[.int .i64 0, .int .i64 0]) 2 16 Try.underlying31 hi' hz0 hz1 hz2 rfl (by decide) _ _ _ rfl r0 ⟨g, 0, none⟩ n cap (flat (xs.take n)) rfl (by rw [flat_length, List.length_take]; congr 1; omega) s1 (flat_one _) (by simp; unfold maxLen; omega) (by simp; omega) (by simp) ?_
        intro v1 w1 hown1 hg1 hni _
        clear hni
        have K1 := hide (kept_append0 (xs := []) (show Kept w (w.alloc (.cells #[] 30)) from Turned.alloc _ _ _) r0 hg1)
        have r1 : w1.ownsRow w.heap.size 30 2 v1 (xs.take n).length (flat (xs.take n)) := (by rw [List.length_take, Nat.min_eq_left (by omega)]; simpa [flat] using hown1)
        have zz1 := K1.out.size
        have R1 := hide r1
        clear hown1 hg1 s1 r0 r1
        go_wp2_with (at_builtin; refine Stop.out ?_)
        refine ⟨?_⟩
        refine wpList_append_own_at _ rfl _ _ 31 rfl w.heap.size 30 y0 (.agg #[.int .i64 0, .int .i64 0]) 2 16 Try.underlying31 hi' hz0 hz1 hz2 rfl (by decide) _ _ _ rfl (R1.out.alloc (.cells #[.int .i64 k, .int .i64 u] 30)) ⟨w1.heap.size, 0, none⟩ 1 1 [.int .i64 k, .int .i64 u] rfl rfl (two_newR _ _ _) (by simp [Value.oneCell']) (by rw [List.length_take]; unfold maxLen; omega) (by rw [List.length_take]; omega) (by simp; omega) ?_
        intro v2 w2 hown2 hg2 hni _
        clear hni
        have K2 := hide (kept_append K1.out R1.out hg2)
        have r2 : w2.ownsRow w.heap.size 30 2 v2 (xs.take n ++ [(k, u)]).length (flat (xs.take n ++ [(k, u)])) := (by simpa [flat_append, flat] using hown2)
        have R2 := hide r2
        have s2 := src_cells HV.out K2.out (n) (xs.length - (n))
        have zz2 := K2.out.size
        clear hown2 hg2 r2
        by_cases hcq : cap = n
        · go_wp2_with (at_builtin; refine Stop.out ?_)
          refine ⟨?_⟩
          refine wpList_append_own_at _ rfl _ _ 31 rfl w.heap.size 30 y0 (.agg #[.int .i64 0, .int .i64 0]) 2 16 Try.underlying31 hi' hz0 hz1 hz2 rfl (by decide) _ _ _ rfl R2.out _ _ _ (flat []) rfl (by first | (simp [flat]; done) | (simp [flat]; omega)) (by simp [flat]) (flat_one _) (by simp only [List.length_append, List.length_take, List.length_singleton]; unfold maxLen; omega) (by simp only [List.length_append, List.length_take, List.length_singleton]; omega) (by omega) ?_
          intro v3 w3 hown3 hg3 hni _
          clear hni
          have KF := hide (kept_append0 K2.out R2.out hg3)
          go_wp2
          go_ret
          refine ⟨v3, rfl, ?_, KF.out⟩
          rw [HPP.out]
          have e0 : xs.drop (n) = [] := List.drop_eq_nil_of_le (by omega)
          have e1 : (xs.take n ++ [(k, u)]).length + (xs.length - (n)) = (xs.take n ++ [(k, u)]).length := by omega
          rw [e0]
          try rw [e1] at hown3
          simpa [flat] using hown3
        · go_wp2_with (at_builtin; refine Stop.out ?_)
          refine ⟨?_⟩
          refine wpList_append_own_at _ rfl _ _ 31 rfl w.heap.size 30 y0 (.agg #[.int .i64 0, .int .i64 0]) 2 16 Try.underlying31 hi' hz0 hz1 hz2 rfl (by decide) _ _ _ rfl R2.out _ _ _ (flat []) rfl (by first | (simp [flat]; done) | (simp [flat]; omega)) (by simp [flat]) (flat_one _) (by simp only [List.length_append, List.length_take, List.length_singleton]; unfold maxLen; omega) (by simp only [List.length_append, List.length_take, List.length_singleton]; omega) (by omega) ?_
          intro v3 w3 hown3 hg3 hni _
          clear hni
          have KF := hide (kept_append0 K2.out R2.out hg3)
          go_wp2
          go_ret
          refine ⟨v3, rfl, ?_, KF.out⟩
          rw [HPP.out]
          have e0 : xs.drop (n) = [] := List.drop_eq_nil_of_le (by omega)
          have e1 : (xs.take n ++ [(k, u)]).length + (xs.length - (n)) = (xs.take n ++ [(k, u)]).length := by omega
          rw [e0]
          try rw [e1] at hown3
          simpa [flat] using hown3
      · obtain ⟨_, he, _, g1, _⟩ := (preads_of_own hv).at hat
        obtain rfl := Option.some.inj he |> Addr.mk.inj |>.1
        simp only at g1
        obtain ⟨n, hn⟩ : ∃ n, place xs k = n := ⟨_, rfl⟩
        rw [hn] at HP g1 hlt hpp hpl
        have HPP := hide hpp
        have i3 : n < cap := by omega
        have hx : (x == k) = false := by simp only [beq_eq_false_iff_ne, ne_eq]; exact hne
        clear hv hpp hat hh hn he hne
        go_enter Try.func49, Try.ntmps49
        go_wp2_with (fail)
        refine HP.out.mono ?_
        rintro e w' ⟨rfl, rfl⟩
        have s1 := src_cells HV.out (show Kept w (w.alloc (.cells #[] 30)) from Turned.alloc _ _ _) 0 n
        simp only [Nat.zero_mul, List.drop_zero] at s1
        go_wp2_with (at_builtin; refine Stop.out ?_)
        refine ⟨?_⟩
        refine wpList_append_own_at _ rfl _ _ 31 rfl w.heap.size 30 y0 (.agg #[.int .i64 0, .int .i64 0]) 2 16 Try.underlying31 hi' hz0 hz1 hz2 rfl (by decide) _ _ _ rfl r0 ⟨g, 0, none⟩ n cap (flat (xs.take n)) rfl (by rw [flat_length, List.length_take]; congr 1; omega) s1 (flat_one _) (by simp; unfold maxLen; omega) (by simp; omega) (by simp) ?_
        intro v1 w1 hown1 hg1 hni _
        clear hni
        have K1 := hide (kept_append0 (xs := []) (show Kept w (w.alloc (.cells #[] 30)) from Turned.alloc _ _ _) r0 hg1)
        have r1 : w1.ownsRow w.heap.size 30 2 v1 (xs.take n).length (flat (xs.take n)) := (by rw [List.length_take, Nat.min_eq_left (by omega)]; simpa [flat] using hown1)
        have zz1 := K1.out.size
        have R1 := hide r1
        clear hown1 hg1 s1 r0 r1
        go_wp2_with (at_builtin; refine Stop.out ?_)
        refine ⟨?_⟩
        refine wpList_append_own_at _ rfl _ _ 31 rfl w.heap.size 30 y0 (.agg #[.int .i64 0, .int .i64 0]) 2 16 Try.underlying31 hi' hz0 hz1 hz2 rfl (by decide) _ _ _ rfl (R1.out.alloc (.cells #[.int .i64 k, .int .i64 u] 30)) ⟨w1.heap.size, 0, none⟩ 1 1 [.int .i64 k, .int .i64 u] rfl rfl (two_newR _ _ _) (by simp [Value.oneCell']) (by rw [List.length_take]; unfold maxLen; omega) (by rw [List.length_take]; omega) (by simp; omega) ?_
        intro v2 w2 hown2 hg2 hni _
        clear hni
        have K2 := hide (kept_append K1.out R1.out hg2)
        have r2 : w2.ownsRow w.heap.size 30 2 v2 (xs.take n ++ [(k, u)]).length (flat (xs.take n ++ [(k, u)])) := (by simpa [flat_append, flat] using hown2)
        have R2 := hide r2
        have s2 := src_cells HV.out K2.out (n) (xs.length - (n))
        have g1' := K2.out.cell g1 id
        have zz2 := K2.out.size
        clear hown2 hg2 r2 g1
        go_wp2_with (at_builtin; refine Stop.out ?_)
        refine ⟨?_⟩
        refine wpList_append_own_at _ rfl _ _ 31 rfl w.heap.size 30 y0 (.agg #[.int .i64 0, .int .i64 0]) 2 16 Try.underlying31 hi' hz0 hz1 hz2 rfl (by decide) _ _ _ rfl R2.out ⟨g, (n) * 2, none⟩ (xs.length - (n)) (cap - (n)) (flat ((xs.drop (n)).take (xs.length - (n)))) rfl (by rw [flat_length, List.length_take, List.length_drop]; congr 1; omega) s2 (flat_one _) (by simp only [List.length_append, List.length_take, List.length_singleton]; unfold maxLen; omega) (by simp only [List.length_append, List.length_take, List.length_singleton]; omega) (by omega) ?_
        intro v3 w3 hown3 hg3 hni _
        clear hni
        have KF := hide (kept_append0 K2.out R2.out hg3)
        go_wp2
        go_ret
        refine ⟨v3, rfl, ?_, KF.out⟩
        rw [HPP.out]
        have e1 : (xs.drop (n)).take (xs.length - (n)) = xs.drop (n) := List.take_of_length_le (by rw [List.length_drop]; exact Nat.le_refl _)
        rw [e1, ← flat_append] at hown3
        have e2 : (xs.take n ++ [(k, u)]).length + (xs.length - (n)) = (xs.take n ++ [(k, u)] ++ xs.drop (n)).length := by simp only [List.length_append, List.length_drop]
        rw [e2] at hown3
        simpa using hown3

end Go.Proofs.Ytgialpjdfeldeaa.Mp

/-! What ordinatehand's Wide answers (a contract): the keys of the first 80 numbers, strictly ascending, each once, in new memory; nothing that lay is turned. -/
namespace Go.Proofs.Ytgialpjdfeldeaa.Mp
open Go.RowKit

/-- What may be turned from n₀ on. -/
abbrev From (n₀ : Nat) (w w' : World) : Prop := Turned (fun g => n₀ ≤ g) w w'
theorem From.trans {n₀ : Nat} {a b c : World} (h : From n₀ a b) (k : From n₀ b c) : From n₀ a c := Turned.trans h k (fun _ e => e) (fun _ _ e => e)

/-- The map of the first t numbers. -/
def fillW (zs : List Int) : Nat → List (Int × Int)
  | 0 => []
  | t + 1 => match zs[t]? with
    | some z => put ltI (fillW zs t) z 0
    | none => fillW zs t
theorem fillW_step {zs : List Int} {t : Nat} {z : Int} (h : zs[t]? = some z) : fillW zs (t + 1) = put ltI (fillW zs t) z 0 := by
  rw [fillW, h]
theorem fillW_le (zs : List Int) : (t : Nat) → (fillW zs t).length ≤ t
  | 0 => Nat.le_refl _
  | t + 1 => by
    have := fillW_le zs t
    unfold fillW
    split
    · rename_i z _
      have := length_put_le (lt := ltI) (xs := fillW zs t) (k := z) (v := (0 : Int))
      omega
    · omega
theorem fillW_asc (zs : List Int) : (t : Nat) → Asc ltI (fillW zs t)
  | 0 => List.Pairwise.nil
  | t + 1 => by
    unfold fillW
    split
    · exact asc_put linI (fillW_asc zs t)
    · exact fillW_asc zs t
theorem fillW_mem (zs : List Int) : (t : Nat) → ∀ p ∈ fillW zs t, p.1 ∈ zs
  | 0 => by simp [fillW]
  | t + 1 => by
    intro p hp
    unfold fillW at hp
    split at hp
    · rename_i z hz
      rcases mem_put hp with rfl | hp
      · exact List.mem_of_getElem? hz
      · exact fillW_mem zs t p hp
    · exact fillW_mem zs t p hp
/-- The keys of the first 80 numbers. -/
def wideP (zs : List Int) : List Int := (fillW zs (min zs.length 80)).map Prod.fst
theorem wide_up (zs : List Int) : (wideP zs).Pairwise (· < ·) := by
  have := fillW_asc zs (min zs.length 80)
  unfold wideP
  rw [List.pairwise_map]
  exact List.Pairwise.imp (fun h => ltI_true.1 h) this
theorem wide_le (zs : List Int) : (wideP zs).length ≤ 80 := by
  have := fillW_le zs (min zs.length 80)
  unfold wideP
  rw [List.length_map]
  omega
theorem wide_mem {zs : List Int} {z : Int} (h : z ∈ wideP zs) : z ∈ zs := by
  unfold wideP at h
  obtain ⟨p, hp, rfl⟩ := List.mem_map.1 h
  exact fillW_mem zs _ p hp

/-- A new slice of these int64s. -/
def Sliced2 (xs : List Int) (w : World) (e : Ending) (w' : World) : Prop := ∃ v, e = .returned v ∧ Row w' w.heap.size 2 v xs ∧ Kept w w'
theorem info2 : (Try.prog.info? 2).map (fun i => (i.zero, i.size, i.bytes)) = some (some (.int .i64 0), 1, 8) := by kernel_rfl

theorem row_base {w : World} {b b' : Nat} {e : TypeId} {size : Nat} {v : Value} {n : Nat} {xs : List Value} (h : w.ownsRow b e size v n xs) (hb : b' ≤ b) : w.ownsRow b' e size v n xs := by
  obtain ⟨h1, h2⟩ := h
  refine ⟨h1, ?_⟩
  rcases h2 with h2 | ⟨g, cap, cur, rfl, hg, r⟩
  · exact .inl h2
  · exact .inr ⟨g, cap, cur, rfl, by omega, r⟩
theorem row_append2 {w : World} {n₀ g gc : Nat} {zs : List Int} {x : Int} (h : w.ownsRow n₀ 2 1 (.slice (some ⟨g, 0, none⟩) (zs.length + 1) gc) (zs.length + 1) (cellsOf zs ++ [.int .i64 x])) : Row w n₀ 2 (.slice (some ⟨g, 0, none⟩) (zs.length + 1) gc) (zs ++ [x]) := by
  unfold Row
  rw [List.length_append, List.length_singleton]
  rw [show cellsOf (zs ++ [x]) = cellsOf zs ++ [.int .i64 x] by simp [cellsOf]]
  exact h
theorem pread_old {w w' : World} {a : Option Addr} {L : List (Int × Int)} (h : PReads w a L) (ht : From w.heap.size w w') : PReads w' a L := by
  rcases h with h | ⟨bl, rfl, h⟩
  · exact .inl h
  · refine .inr ⟨bl, rfl, fun j p hp => ?_⟩
    have h1 := h j p hp
    have hb := World.block_lt_of_cell? _ _ h1.1
    exact ⟨ht.cell h1.1 (by simp only at hb ⊢; omega), ht.cell h1.2 (by simp only at hb ⊢; omega)⟩
theorem map_take {L : List (Int × Int)} {t : Nat} {p : Int × Int} (h : L[t]? = some p) : (L.take (t + 1)).map Prod.fst = (L.take t).map Prod.fst ++ [p.1] := by
  obtain ⟨h1, rfl⟩ := List.getElem?_eq_some_iff.1 h
  rw [List.take_succ_eq_append_getElem h1, List.map_append]
  rfl

set_option maxRecDepth 100000 in
set_option maxHeartbeats 1000000 in
theorem wide_c (w : World) (a : Option Addr) (zs : List Int) (cap : Nat) (hr : Reads w a zs) (hc : zs.length ≤ cap) (hm : cap ≤ maxLen) :
    Calls Try.prog 38 #[.slice a zs.length cap] w (Sliced2 (wideP zs) w) := by
  obtain ⟨y0, hi', hz0, hz1, hz2⟩ := info_parts info2
  have hm' : (zs.length : Int) ≤ 9223372036854775807 := by unfold maxLen at hm; omega
  have HR := hide hr
  clear hr hm
  go_enter Try.func38, Try.ntmps38
  go_wp2
  go_loopw [3, 4] (fun v i wr => ∃ t : Nat, t ≤ zs.length ∧ t ≤ 80 ∧ i = .int .i64 t ∧ Hid (wr.ownsRow w.heap.size 30 2 v (fillW zs t).length (flat (fillW zs t))) ∧ Hid (Kept w wr)) (fun _ i _ => 80 - (intOf i).toNat)
  case atStart => exact ⟨0, Nat.zero_le _, by omega, rfl, hide (World.ownsRow_nil _ _ _ _), hide (Kept.refl _)⟩
  case round =>
    obtain ⟨t, ht1, ht2, rfl, HV, HK⟩ := hrel
    by_cases hlt : t < zs.length ∧ t < 80
    · obtain ⟨hlt1, hlt2⟩ := hlt
      obtain ⟨z, hz⟩ : ∃ z, zs[t]? = some z := ⟨_, List.getElem?_eq_getElem hlt1⟩
      obtain ⟨bl, off, rfl, _, hrow⟩ := (HR.out.kept HK.out).at hz
      have HZ := hide (fillW_step hz)
      have i1 : (t : Int) < (zs.length : Int) := by omega
      have i2 : (t : Int) < 80 := by omega
      have i3 : t < cap := by omega
      have zr := HK.out.size
      clear hz
      go_wp2_with (fail)
      refine (refPut_c _ _ _ (fillW zs t) z 0 HV.out (by have := fillW_le zs t; omega)).mono ?_
      rintro e w1 ⟨v1, rfl, hrow1, hk1⟩
      have V1 : Hid (w1.ownsRow w.heap.size 30 2 v1 (fillW zs (t + 1)).length (flat (fillW zs (t + 1)))) := hide (by rw [HZ.out]; exact row_base hrow1 zr)
      have K1 := hide (HK.out.trans hk1)
      clear hrow1 hk1
      go_wp2
      exact ⟨⟨t + 1, by omega, by omega, by simp, V1, K1⟩, by simp [intOf]; omega⟩
    · have e : min zs.length 80 = t := by omega
      have E : Hid (wideP zs = (fillW zs t).map Prod.fst) := hide (by unfold wideP; rw [e])
      have hL : (fillW zs t).length ≤ 80 := by have := fillW_le zs t; omega
      obtain ⟨L, eL⟩ : ∃ L, fillW zs t = L := ⟨_, rfl⟩
      rw [eL] at HV E hL
      obtain ⟨pa, pc, rfl, hp, hpc⟩ := preads_of_row HV.out
      have HP := hide hp
      have zr := HK.out.size
      have hex : ¬ ((t : Int) < (zs.length : Int)) ∨ ((t : Int) < (zs.length : Int) ∧ ¬ ((t : Int) < 80)) := by omega
      clear eL e hlt HV hp ht1
      rename World => W1
      rcases hex with hx | ⟨hx1, hx2⟩
      · go_wp2
        go_loopw [5, 6] (fun u vi wt => ∃ (s : Nat) (ys : List Int), s ≤ L.length ∧ ys.length ≤ s ∧ vi = .int .i64 s ∧ Hid (ys = (L.take s).map Prod.fst) ∧ Hid (Row wt W1.heap.size 2 u ys) ∧ Hid (From W1.heap.size W1 wt)) (fun _ vi _ => L.length - (intOf vi).toNat)
        case atStart => exact ⟨0, [], Nat.zero_le _, Nat.le_refl _, rfl, hide rfl, hide (World.ownsRow_nil _ _ _ _), hide (Turned.refl _ _)⟩
        case round =>
          obtain ⟨s, ys, hs, hys, rfl, HY, HW, HT⟩ := hrel
          by_cases hsl : s < L.length
          · obtain ⟨⟨x, xv⟩, hx⟩ : ∃ p, L[s]? = some p := ⟨_, List.getElem?_eq_getElem hsl⟩
            obtain ⟨bl, rfl, hbl, g1, g2⟩ := (pread_old HP.out HT.out).at hx
            have HX := hide (map_take hx)
            have j1 : (s : Int) < (L.length : Int) := by omega
            have j2 : s < pc := by omega
            have zt := HT.out.size
            have hrow := HW.out.alloc (.cells #[.int .i64 x] 2)
            simp only at g1 g2
            have hyl : ys.length ≤ 80 := by omega
            clear hx
            go_wp2_with (at_builtin; refine Stop.out ?_)
            refine ⟨?_⟩
            refine wpList_append_lies _ rfl _ _ 35 rfl W1.heap.size 2 y0 (.int .i64 0) 1 8 Try.underlying35 hi' hz0 hz1 hz2 rfl (by decide) _ _ _ rfl hrow ⟨wr.heap.size, 0, none⟩ 1 1 [.int .i64 x] rfl rfl (one_new _ _ _) (by simp [Value.oneCell']) (by decide) (by unfold maxLen; omega) (by omega) (by simp; omega) (wr.heap.size + 1) (by simp) ?_
            intro g gc A1 hown hgrow hat hlt2
            have T1 := hide (HT.out.trans (turned_append HW.out hgrow))
            have R1 := hide (row_append2 hown)
            have HY1 : Hid (ys ++ [x] = (L.take (s + 1)).map Prod.fst) := hide (by rw [HX.out, HY.out])
            have HYL : Hid ((ys ++ [x]).length ≤ s + 1) := hide (by simp; omega)
            clear hown hgrow hat hlt2 hrow HW HT HX HY
            go_wp2
            exact ⟨⟨s + 1, ys ++ [x], by omega, HYL.out, by simp, HY1, R1, T1⟩, by simp [intOf]; omega⟩
          · have j1 : ¬ ((s : Int) < (L.length : Int)) := by omega
            have HY1 : Hid (ys = L.map Prod.fst) := hide (by have := HY.out; rwa [List.take_of_length_le (by omega)] at this)
            clear HY
            go_wp2
            go_ret
            exact ⟨_, rfl, by rw [E.out, ← HY1.out]; exact row_base HW.out zr, HK.out.own (fun i hi => by omega) HT.out⟩
      · go_wp2
        go_loopw [5, 6] (fun u vi wt => ∃ (s : Nat) (ys : List Int), s ≤ L.length ∧ ys.length ≤ s ∧ vi = .int .i64 s ∧ Hid (ys = (L.take s).map Prod.fst) ∧ Hid (Row wt W1.heap.size 2 u ys) ∧ Hid (From W1.heap.size W1 wt)) (fun _ vi _ => L.length - (intOf vi).toNat)
        case atStart => exact ⟨0, [], Nat.zero_le _, Nat.le_refl _, rfl, hide rfl, hide (World.ownsRow_nil _ _ _ _), hide (Turned.refl _ _)⟩
        case round =>
          obtain ⟨s, ys, hs, hys, rfl, HY, HW, HT⟩ := hrel
          by_cases hsl : s < L.length
          · obtain ⟨⟨x, xv⟩, hx⟩ : ∃ p, L[s]? = some p := ⟨_, List.getElem?_eq_getElem hsl⟩
            obtain ⟨bl, rfl, hbl, g1, g2⟩ := (pread_old HP.out HT.out).at hx
            have HX := hide (map_take hx)
            have j1 : (s : Int) < (L.length : Int) := by omega
            have j2 : s < pc := by omega
            have zt := HT.out.size
            have hrow := HW.out.alloc (.cells #[.int .i64 x] 2)
            simp only at g1 g2
            have hyl : ys.length ≤ 80 := by omega
            clear hx
            go_wp2_with (at_builtin; refine Stop.out ?_)
            refine ⟨?_⟩
            refine wpList_append_lies _ rfl _ _ 35 rfl W1.heap.size 2 y0 (.int .i64 0) 1 8 Try.underlying35 hi' hz0 hz1 hz2 rfl (by decide) _ _ _ rfl hrow ⟨wr.heap.size, 0, none⟩ 1 1 [.int .i64 x] rfl rfl (one_new _ _ _) (by simp [Value.oneCell']) (by decide) (by unfold maxLen; omega) (by omega) (by simp; omega) (wr.heap.size + 1) (by simp) ?_
            intro g gc A1 hown hgrow hat hlt2
            have T1 := hide (HT.out.trans (turned_append HW.out hgrow))
            have R1 := hide (row_append2 hown)
            have HY1 : Hid (ys ++ [x] = (L.take (s + 1)).map Prod.fst) := hide (by rw [HX.out, HY.out])
            have HYL : Hid ((ys ++ [x]).length ≤ s + 1) := hide (by simp; omega)
            clear hown hgrow hat hlt2 hrow HW HT HX HY
            go_wp2
            exact ⟨⟨s + 1, ys ++ [x], by omega, HYL.out, by simp, HY1, R1, T1⟩, by simp [intOf]; omega⟩
          · have j1 : ¬ ((s : Int) < (L.length : Int)) := by omega
            have HY1 : Hid (ys = L.map Prod.fst) := hide (by have := HY.out; rwa [List.take_of_length_le (by omega)] at this)
            clear HY
            go_wp2
            go_ret
            exact ⟨_, rfl, by rw [E.out, ← HY1.out]; exact row_base HW.out zr, HK.out.own (fun i hi => by omega) HT.out⟩
end Go.Proofs.Ytgialpjdfeldeaa.Mp

/-! What ordinatehand's Pairs answers: strictly ascending pairs of the first 60 numbers, in new memory; nothing that lay is turned. -/
namespace Go.Proofs.Ytgialpjdfeldeaa.Mp
open Go.RowKit

/-- The pairs of the first t numbers. -/
def fillP (zs : List Int) : Nat → List (Int × Int)
  | 0 => []
  | t + 1 => match zs[t]? with
    | some z => put ltI (fillP zs t) (z % 97 - 40) (t : Int)
    | none => fillP zs t
theorem fillP_step {zs : List Int} {t : Nat} {z : Int} (h : zs[t]? = some z) : fillP zs (t + 1) = put ltI (fillP zs t) (z % 97 - 40) (t : Int) := by simp [fillP, h]
theorem fillP_le (zs : List Int) : (t : Nat) → (fillP zs t).length ≤ t
  | 0 => Nat.le_refl _
  | t + 1 => by
    have := fillP_le zs t
    unfold fillP
    split
    · rename_i z _
      have := length_put_le (lt := ltI) (xs := fillP zs t) (k := z % 97 - 40) (v := (t : Int))
      omega
    · omega
theorem fillP_asc (zs : List Int) : (t : Nat) → Asc ltI (fillP zs t)
  | 0 => List.Pairwise.nil
  | t + 1 => by
    unfold fillP
    split
    · exact asc_put linI (fillP_asc zs t)
    · exact fillP_asc zs t
theorem fillP_mem (zs : List Int) : (t : Nat) → ∀ p ∈ fillP zs t, -40 ≤ p.1 ∧ p.1 ≤ 56 ∧ 0 ≤ p.2 ∧ p.2 ≤ t
  | 0 => by simp [fillP]
  | t + 1 => by
    intro p hp
    unfold fillP at hp
    split at hp
    · rcases mem_put hp with rfl | hp
      · simp only
        omega
      · have := fillP_mem zs t p hp
        omega
    · have := fillP_mem zs t p hp
      omega
def pairsP (zs : List Int) : List (Int × Int) := fillP zs (min zs.length 60)
theorem pairsP_up (zs : List Int) : ((pairsP zs).map Prod.fst).Pairwise (· < ·) := by
  have := fillP_asc zs (min zs.length 60)
  unfold pairsP
  rw [List.pairwise_map]
  exact List.Pairwise.imp (fun h => ltI_true.1 h) this
theorem pairsP_le (zs : List Int) : (pairsP zs).length ≤ 60 := by
  have := fillP_le zs (min zs.length 60)
  unfold pairsP
  omega
theorem pairsP_i64 (zs : List Int) : ∀ p ∈ pairsP zs, I64 p.1 ∧ I64 p.2 := by
  intro p hp
  have := fillP_mem zs _ p hp
  unfold I64
  omega

set_option maxRecDepth 100000 in
set_option maxHeartbeats 1000000 in
theorem pairs_c (w : World) (a : Option Addr) (zs : List Int) (M cap : Nat) (hM : zs.length = M) (hr : Reads w a zs) (hc : M ≤ cap) (hm : cap ≤ maxLen) :
    Calls Try.prog 26 #[.slice a M cap] w (PSliced (pairsP zs) w) := by
  subst hM
  have hm' : (zs.length : Int) ≤ 9223372036854775807 := by unfold maxLen at hm; omega
  have HR := hide hr
  clear hr hm
  go_enter Try.func26, Try.ntmps26
  go_wp2
  go_loopw [3, 4, 5] (fun v i _ wr => ∃ t : Nat, t ≤ zs.length ∧ t ≤ 60 ∧ i = .int .i64 t ∧ Hid (wr.ownsRow w.heap.size 30 2 v (fillP zs t).length (flat (fillP zs t))) ∧ Hid (Kept w wr)) (fun _ i _ _ => 60 - (intOf i).toNat)
  case atStart => exact ⟨0, Nat.zero_le _, by omega, rfl, hide (World.ownsRow_nil _ _ _ _), hide (Kept.refl _)⟩
  case round =>
    obtain ⟨t, ht1, ht2, rfl, HV, HK⟩ := hrel
    by_cases hlt : t < zs.length ∧ t < 60
    · obtain ⟨hlt1, hlt2⟩ := hlt
      obtain ⟨z, hz⟩ : ∃ z, zs[t]? = some z := ⟨_, List.getElem?_eq_getElem hlt1⟩
      obtain ⟨bl, off, rfl, _, hrow⟩ := (HR.out.kept HK.out).at hz
      have HZ := hide (fillP_step hz)
      have i1 : (t : Int) < (zs.length : Int) := by omega
      have i2 : (t : Int) < 60 := by omega
      have i3 : t < cap := by omega
      have zr := HK.out.size
      obtain ⟨y, hy⟩ : ∃ y, z % 97 = y := ⟨_, rfl⟩
      have y1 : 0 ≤ y := by omega
      have y2 : y < 97 := by omega
      have HY := hide hy
      rw [hy] at HZ
      clear hz hy
      go_wp2_with (fail)
      refine (cut_g _ z 97 (by decide) (by decide)).mono ?_
      rw [HY.out]
      rintro e w0 ⟨rfl, rfl⟩
      go_wp2_with (fail)
      refine (refPut_c _ _ _ (fillP zs t) (y - 40) t HV.out (by have := fillP_le zs t; omega)).mono ?_
      rintro e w1 ⟨v1, rfl, hrow1, hk1⟩
      have V1 : Hid (w1.ownsRow w.heap.size 30 2 v1 (fillP zs (t + 1)).length (flat (fillP zs (t + 1)))) := hide (by rw [HZ.out]; exact row_base hrow1 zr)
      have K1 := hide (HK.out.trans hk1)
      clear hrow1 hk1
      go_wp2
      exact ⟨⟨t + 1, by omega, by omega, by simp, V1, K1⟩, by simp [intOf]; omega⟩
    · have e : min zs.length 60 = t := by omega
      have E : Hid (pairsP zs = fillP zs t) := hide (by unfold pairsP; rw [e])
      have hex : ¬ ((t : Int) < (zs.length : Int)) ∨ ((t : Int) < (zs.length : Int) ∧ ¬ ((t : Int) < 60)) := by omega
      clear e hlt
      rcases hex with hx | ⟨hx1, hx2⟩
      · go_wp2
        go_ret
        exact ⟨_, rfl, by rw [E.out]; exact HV.out, HK.out⟩
      · go_wp2
        go_ret
        exact ⟨_, rfl, by rw [E.out]; exact HV.out, HK.out⟩
end Go.Proofs.Ytgialpjdfeldeaa.Mp

/-! Chapter 10 in plain: where the records of a tree laid at once lie ('Laid'), that 'layF' lays them so where there is room, and how many cells they are. No conditions beyond each theorem's own. -/
namespace Go.Proofs.Ytgialpjdfeldeaa
open Go.RowKit

/-- An Inner and its kids. -/
structure LaidI (s : Mst) (K : Nat → Nat → Int → List (Int × Int) → Prop) (A B : Nat) (x : Int) (ps : List (Int × Int)) (D : Nat) (E : Nat → Nat) : Prop where
  deg : Pt.degZ ps.length = (D : Int)
  two : 2 ≤ D
  e0 : E 0 = A
  kids : ∀ i, i < D → K (E i) (E (i + 1)) (s.look (childS (E D + 1) D i)) (partL ps (i : Int))
  b : B = E D + 4 + 2 * D
  word : x = 8 * ((E D : Int) + 1) + 3
  l0 : s.look ((E D : Int) + 1) = (D : Int)
  l1 : s.look ((E D : Int) + 2) = (ps.length : Int)
  l2 : s.look ((E D : Int) + 3) = 0
  l3 : s.look ((E D : Int) + 4) = 0
  l4 : s.look ((E D : Int) + 5) = 0
  lk : ∀ i : Nat, 1 ≤ i → i < D → s.look ((E D : Int) + 5 + i) = ((partL ps (i : Int)).headD (0, 0)).1
/-- x is the word of an ideal tree of ps, whose records have just the cells from A + 1 to B. -/
def Laid (s : Mst) : Nat → Nat → Nat → Int → List (Int × Int) → Prop
  | 0 => fun _ _ _ _ => False
  | f + 1 => fun A B x ps =>
    if ps.length = 0 then x = 8 * ((A : Int) + 1) + 1 ∧ B = A + 1
    else if ps.length = 1 then x = 8 * ((A : Int) + 1) + 2 ∧ B = A + 2 ∧ s.look ((A : Int) + 1) = (ps.headD (0, 0)).1 ∧ s.look ((A : Int) + 2) = (ps.headD (0, 0)).2
    else ∃ D E, LaidI s (Laid s f) A B x ps D E
theorem Laid_succ (s : Mst) (f A B : Nat) (x : Int) (ps : List (Int × Int)) : Laid s (f + 1) A B x ps = (if ps.length = 0 then x = 8 * ((A : Int) + 1) + 1 ∧ B = A + 1
    else if ps.length = 1 then x = 8 * ((A : Int) + 1) + 2 ∧ B = A + 2 ∧ s.look ((A : Int) + 1) = (ps.headD (0, 0)).1 ∧ s.look ((A : Int) + 2) = (ps.headD (0, 0)).2
    else ∃ D E, LaidI s (Laid s f) A B x ps D E) := rfl
/-- The three ways. -/
theorem Laid.cases {s : Mst} {f A B : Nat} {x : Int} {ps : List (Int × Int)} (h : Laid s f A B x ps) : ∃ g, f = g + 1 ∧
    ((ps = [] ∧ x = 8 * ((A : Int) + 1) + 1 ∧ B = A + 1) ∨
     (∃ p, ps = [p] ∧ x = 8 * ((A : Int) + 1) + 2 ∧ B = A + 2 ∧ s.look ((A : Int) + 1) = p.1 ∧ s.look ((A : Int) + 2) = p.2) ∨
     (2 ≤ ps.length ∧ ∃ D E, LaidI s (Laid s g) A B x ps D E)) := by
  cases f with
  | zero => exact h.elim
  | succ f =>
    refine ⟨f, rfl, ?_⟩
    rw [Laid_succ] at h
    split at h
    · rename_i h0
      exact .inl ⟨List.length_eq_zero_iff.1 h0, h⟩
    · split at h
      · rename_i h1
        obtain ⟨p, rfl⟩ := List.length_eq_one_iff.1 h1
        exact .inr (.inl ⟨p, rfl, h⟩)
      · exact .inr (.inr ⟨by omega, h⟩)
theorem Laid.inner {s : Mst} {g A B D : Nat} {E : Nat → Nat} {x : Int} {ps : List (Int × Int)} (h2 : 2 ≤ ps.length) (h : LaidI s (Laid s g) A B x ps D E) : Laid s (g + 1) A B x ps := by
  rw [Laid_succ, if_neg (by omega), if_neg (by omega)]
  exact ⟨D, E, h⟩
/-- The cells of each kid lie within. -/
theorem steps_mono {D : Nat} {E : Nat → Nat} (hK : ∀ i, i < D → E i < E (i + 1)) : ∀ j, j ≤ D → ∀ i, i ≤ j → E i ≤ E j := by
  intro j
  induction j with
  | zero => intro _ i hi; have := Nat.le_zero.1 hi; subst this; exact Nat.le_refl _
  | succ j ih =>
    intro hj i hi
    by_cases e : i = j + 1
    · subst e; exact Nat.le_refl _
    · have h1 := ih (by omega) i (by omega)
      have h2 := hK j (by omega)
      omega
theorem laid_lt {s : Mst} : ∀ {f A B : Nat} {x : Int} {ps : List (Int × Int)}, Laid s f A B x ps → A < B ∧ 8 * ((A : Int) + 1) < x ∧ x < 8 * ((B : Int) + 1)
  | 0, _, _, _, _, h => h.elim
  | f + 1, A, B, x, ps, h => by
    obtain ⟨g, e, h⟩ := h.cases
    cases e
    rcases h with ⟨rfl, rfl, rfl⟩ | ⟨p, rfl, rfl, rfl, _⟩ | ⟨h2, D, E, h⟩
    · omega
    · omega
    · have hm := steps_mono (fun i hi => (laid_lt (h.kids i hi)).1) D (Nat.le_refl _) 0 (Nat.zero_le _)
      rw [h.e0] at hm
      have := h.b
      have := h.word
      omega
theorem LaidI.up {s : Mst} {g A B D : Nat} {E : Nat → Nat} {x : Int} {ps : List (Int × Int)} (h : LaidI s (Laid s g) A B x ps D E) : ∀ i, i ≤ D → A ≤ E i ∧ E i ≤ E D ∧ E D < B := by
  intro i hi
  have hm := steps_mono (fun i hi => (laid_lt (h.kids i hi)).1)
  have h1 := hm i hi 0 (Nat.zero_le _)
  have h2 := hm D (Nat.le_refl _) i hi
  rw [h.e0] at h1
  have := h.b
  omega
/-- What is laid is laid in each memory that holds the same there. -/
theorem laid_same {s s' : Mst} : ∀ {f A B : Nat} {x : Int} {ps : List (Int × Int)}, Laid s f A B x ps → (∀ j : Int, (A : Int) < j → j ≤ (B : Int) → s'.look j = s.look j) → Laid s' f A B x ps
  | 0, _, _, _, _, h, _ => h.elim
  | f + 1, A, B, x, ps, h, hs => by
    obtain ⟨g, e, h⟩ := h.cases
    cases e
    rcases h with ⟨rfl, rfl, rfl⟩ | ⟨p, rfl, rfl, rfl, h1, h2⟩ | ⟨h2, D, E, h⟩
    · rw [Laid_succ, if_pos (by simp)]; exact ⟨rfl, rfl⟩
    · rw [Laid_succ, if_neg (by simp), if_pos (by simp)]
      exact ⟨rfl, rfl, by rw [hs _ (by omega) (by omega), h1]; rfl, by rw [hs _ (by omega) (by omega), h2]; rfl⟩
    · have hu := h.up D (Nat.le_refl _)
      have hb := h.b
      have d1 := h.two
      refine Laid.inner h2 ⟨h.deg, h.two, h.e0, fun i hi => ?_, h.b, h.word, ?_, ?_, ?_, ?_, ?_, fun i h1 hi => ?_⟩
      · have h3 := h.up i (by omega)
        have h4 := h.up (i + 1) (by omega)
        rw [hs _ (by unfold childS; omega) (by unfold childS; omega)]
        exact laid_same (h.kids i hi) (fun j hj1 hj2 => hs j (by omega) (by omega))
      · rw [hs _ (by omega) (by omega)]; exact h.l0
      · rw [hs _ (by omega) (by omega)]; exact h.l1
      · rw [hs _ (by omega) (by omega)]; exact h.l2
      · rw [hs _ (by omega) (by omega)]; exact h.l3
      · rw [hs _ (by omega) (by omega)]; exact h.l4
      · rw [hs _ (by omega) (by omega)]; exact h.lk i h1 hi

theorem ofZ_in {k t : Int} (h1 : 1 ≤ k) (h2 : k ≤ 5) (h3 : 1 ≤ t) (h4 : t ≤ 65536) : Rf.ofZ k t = 8 * t + k := by
  simp [Rf.ofZ, Rf.may, h1, h2, h3, h4]
/-- A record that fits. -/
theorem rec_in {s : Mst} {k : Int} {ws : List Int} (h0 : 0 < ws.length) (hf : (s.xs.length : Int) + ws.length ≤ s.size) (ht : s.size ≤ 65536) (k1 : 1 ≤ k) (k5 : k ≤ 5) :
    recS s k ws = (8 * ((s.xs.length : Int) + 1) + k, { s with xs := s.xs ++ ws, count := wrap64 (s.count + 1) }) := by
  have hfit : s.fits ws.length = true := by simp [Mst.fits, h0, hf]
  rw [recS, Mst.next, if_pos hfit, Mst.make, if_pos hfit, ofZ_in k1 k5 (by omega) (by omega)]
theorem look_new {s s' : Mst} {ws : List Int} (h : s'.xs = s.xs ++ ws) {i : Nat} {z : Int} (hz : ws[i]? = some z) {j : Int} (hj : j = (s.xs.length : Int) + 1 + i) : s'.look j = z := by
  have : s'.xs[s.xs.length + i]? = some z := by rw [h, List.getElem?_append_right (by omega), Nat.add_sub_cancel_left]; exact hz
  have h2 := Mst.look_succ (s := s') this
  rw [hj, ← h2]
  congr 1
  omega
theorem look_old {s s' : Mst} {ws : List Int} (h : s'.xs = s.xs ++ ws) {j : Int} (h1 : 1 ≤ j) (h2 : j ≤ (s.xs.length : Int)) : s'.look j = s.look j := by
  obtain ⟨i, rfl⟩ : ∃ i : Nat, j = (i : Int) + 1 := ⟨(j - 1).toNat, by omega⟩
  have hi : i < s.xs.length := by omega
  have e : s.xs[i]? = some s.xs[i] := List.getElem?_eq_getElem hi
  rw [Mst.look_succ e, Mst.look_succ (z := s.xs[i])]
  rw [h, List.getElem?_append_left hi]
  exact e
theorem lowL_at (ps : List (Int × Int)) : ∀ (n i : Nat), 1 ≤ i → i < n → (lowL ps n)[i - 1]? = some ((partL ps (i : Int)).headD (0, 0)).1
  | 0, _, _, h => by omega
  | n + 1, i, h1, h => by
    rw [lowL]
    rw [if_neg (by omega)]
    have hl := lowL_len ps n
    by_cases e : i = n
    · subst e
      rw [List.getElem?_append_right (by omega), hl, Nat.sub_self]
      rfl
    · rw [List.getElem?_append_left (by omega)]
      exact lowL_at ps n i h1 (by omega)
theorem cs_le {n : Int} : ∀ (k i : Nat), (i : Int) + k ≤ Pt.degZ n → Pt.csZ n i ≤ Pt.csZ n ((i + k : Nat) : Int)
  | 0, i, _ => Int.le_refl _
  | k + 1, i, h => by
    have h1 := cs_le (n := n) k i (by omega)
    have h2 := Pt.cs_step (n := n) (i := ((i + k : Nat) : Int)) (by omega) (by omega)
    have h3 := Pt.cel_nat (Pt.sizeZ n ((i + k : Nat) : Int))
    rw [show ((i + (k + 1) : Nat) : Int) = ((i + k : Nat) : Int) + 1 by omega, h2]
    omega

/-- What laying leaves, where there is room. -/
def Lays (s : Mst) (f : Nat) (ps : List (Int × Int)) (r : Int × Mst) : Prop :=
  ∃ ws c, r.2 = { s with xs := s.xs ++ ws, count := c } ∧ (ws.length : Int) = Pt.celZ ps.length ∧ Laid r.2 f s.xs.length r.2.xs.length r.1 ps
theorem lay_laid : ∀ (f : Nat) (s : Mst) (ps : List (Int × Int)), ps.length < f → ps.length ≤ 16384 → (s.xs.length : Int) + Pt.celZ ps.length ≤ s.size → s.size ≤ 65536 → Lays s f ps (layF f s ps)
  | 0, _, _, h, _, _, _ => by omega
  | f + 1, s, ps, hf, hm, hr, ht => by
    rw [layF_succ]
    by_cases h0 : ps.length = 0
    · rw [if_pos h0]
      obtain rfl := List.length_eq_zero_iff.1 h0
      rw [show (([] : List (Int × Int)).length : Int) = 0 from rfl, Pt.cel_is_0] at hr
      rw [rec_in (by simp) (by simpa using hr) ht (by decide) (by decide)]
      refine ⟨[0], _, rfl, by rfl, ?_⟩
      rw [Laid_succ, if_pos (by simp)]
      exact ⟨rfl, by simp⟩
    · rw [if_neg h0]
      by_cases h1 : ps.length = 1
      · rw [if_pos h1]
        obtain ⟨p, rfl⟩ := List.length_eq_one_iff.1 h1
        rw [show (([p] : List (Int × Int)).length : Int) = 1 from rfl, Pt.cel_is_1] at hr
        rw [rec_in (by simp) (by simpa using hr) ht (by decide) (by decide)]
        refine ⟨[p.1, p.2], _, rfl, by rfl, ?_⟩
        rw [Laid_succ, if_neg (by simp), if_pos (by simp)]
        refine ⟨rfl, by simp, ?_, ?_⟩
        · exact look_new (s := s) (ws := [p.1, p.2]) rfl (i := 0) rfl (by omega)
        · exact look_new (s := s) (ws := [p.1, p.2]) rfl (i := 1) rfl (by omega)
      · rw [if_neg h1]
        have db := Pt.deg_bound (n := (ps.length : Int)) (by omega) (by omega)
        obtain ⟨D, hD⟩ : ∃ D : Nat, Pt.degZ (ps.length : Int) = (D : Int) := ⟨(Pt.degZ ps.length).toNat, by omega⟩
        have ce := Pt.cs_end (n := (ps.length : Int)) (by omega)
        rw [hD] at db ce
        rw [hD, show ((D : Int)).toNat = D from rfl]
        have kids : ∀ i, i ≤ D → ∃ ws c, (kidF (layF f) ps s i).2 = { s with xs := s.xs ++ ws, count := c } ∧ (ws.length : Int) = Pt.csZ (ps.length : Int) i ∧ (∀ j, j ≤ i → (kidF (layF f) ps s j).2.xs.length ≤ (kidF (layF f) ps s i).2.xs.length) ∧
            ∀ j, j < i → ∃ z, (kidF (layF f) ps s i).1[j]? = some z ∧ Laid (kidF (layF f) ps s i).2 f (kidF (layF f) ps s j).2.xs.length (kidF (layF f) ps s (j + 1)).2.xs.length z (partL ps (j : Int)) := by
          intro i
          induction i with
          | zero =>
            intro _
            exact ⟨[], s.count, by rw [kidF, List.append_nil], by rw [show ((0 : Nat) : Int) = 0 from rfl, Pt.cs_zero (by omega)]; rfl, fun j hj => (by have := Nat.le_zero.1 hj; subst this; exact Nat.le_refl _), fun j hj => by omega⟩
          | succ i ih =>
            intro hi
            obtain ⟨ws, c, e1, e2, e4, e3⟩ := ih (by omega)
            have pl := partL_len (ps := ps) (i := (i : Int)) (by omega) (by omega)
            have sb := Pt.size_bound (n := (ps.length : Int)) (i := (i : Int)) (by omega) (by omega)
            have st := Pt.cs_step (n := (ps.length : Int)) (i := (i : Int)) (by omega) (by omega)
            have le := cs_le (n := (ps.length : Int)) (D - (i + 1)) (i + 1) (by omega)
            rw [show (i + 1 + (D - (i + 1)) : Nat) = D by omega] at le
            have xl : ((kidF (layF f) ps s i).2.xs.length : Int) = s.xs.length + Pt.csZ (ps.length : Int) i := by rw [e1]; simp [e2]
            have zl : (kidF (layF f) ps s i).2.size = s.size := by rw [e1]
            have L := lay_laid f (kidF (layF f) ps s i).2 (partL ps (i : Int)) (by omega) (by omega) (by rw [pl, xl, zl]; rw [show ((i + 1 : Nat) : Int) = (i : Int) + 1 by omega, st] at le; omega) (by rw [zl]; exact ht)
            obtain ⟨ws', c', g1, g2, g3⟩ := L
            have k2 : (kidF (layF f) ps s (i + 1)).2 = (layF f (kidF (layF f) ps s i).2 (partL ps (i : Int))).2 := rfl
            have k1 : (kidF (layF f) ps s (i + 1)).1 = (kidF (layF f) ps s i).1 ++ [(layF f (kidF (layF f) ps s i).2 (partL ps (i : Int))).1] := rfl
            have kl := kidF_len (layF f) ps s i
            have hx : (kidF (layF f) ps s (i + 1)).2.xs = (kidF (layF f) ps s i).2.xs ++ ws' := by rw [k2, g1]
            have hxl : (kidF (layF f) ps s i).2.xs.length ≤ (kidF (layF f) ps s (i + 1)).2.xs.length := by rw [hx, List.length_append]; omega
            refine ⟨ws ++ ws', c', ?_, ?_, ?_, ?_⟩
            · rw [k2, g1, e1, List.append_assoc]
            · rw [List.length_append, show ((i + 1 : Nat) : Int) = (i : Int) + 1 by omega, st, Int.natCast_add, e2, g2, pl]
            · intro j hj
              by_cases e : j = i + 1
              · subst e; exact Nat.le_refl _
              · exact Nat.le_trans (e4 j (by omega)) hxl
            · intro j hj
              by_cases e : j = i
              · subst e
                refine ⟨_, by rw [k1, List.getElem?_append_right (by omega), kl, Nat.sub_self]; rfl, ?_⟩
                rw [k2]
                exact g3
              · obtain ⟨z, h3, h4⟩ := e3 j (by omega)
                refine ⟨z, by rw [k1, List.getElem?_append_left (by omega)]; exact h3, ?_⟩
                refine laid_same h4 (fun q hq1 hq2 => look_old hx (by omega) ?_)
                have := e4 (j + 1) (by omega)
                omega
        obtain ⟨ws, c, e1, e2, e4, e3⟩ := kids D (Nat.le_refl _)
        have kl := kidF_len (layF f) ps s D
        have ql := lowL_len ps D
        have il := innerL_length (ps.length : Int) (lowL ps D) (kidF (layF f) ps s D).1
        rw [kl, ql] at il
        have xl : ((kidF (layF f) ps s D).2.xs.length : Int) = s.xs.length + Pt.csZ (ps.length : Int) D := by rw [e1]; simp [e2]
        have zl : (kidF (layF f) ps s D).2.size = s.size := by rw [e1]
        rw [rec_in (by omega) (by rw [xl, il, zl]; omega) (by rw [zl]; exact ht) (by decide) (by decide)]
        obtain ⟨s1, hs1⟩ : ∃ s1, (kidF (layF f) ps s D).2 = s1 := ⟨_, rfl⟩
        obtain ⟨cs, hcs⟩ : ∃ cs, (kidF (layF f) ps s D).1 = cs := ⟨_, rfl⟩
        rw [hs1, hcs]
        rw [hs1] at e1 e3 xl
        rw [hcs] at e3 kl il
        obtain ⟨s2, hs2⟩ : ∃ s2 : Mst, { s1 with xs := s1.xs ++ innerL (ps.length : Int) (lowL ps D) cs, count := wrap64 (s1.count + 1) } = s2 := ⟨_, rfl⟩
        have hx2 : s2.xs = s1.xs ++ innerL (ps.length : Int) (lowL ps D) cs := by rw [← hs2]
        have ED : (kidF (layF f) ps s D).2.xs.length = s1.xs.length := by rw [hs1]
        have look : ∀ (i : Nat) (z : Int), (innerL (ps.length : Int) (lowL ps D) cs)[i]? = some z → s2.look ((s1.xs.length : Int) + 1 + i) = z := fun i z hz => look_new hx2 hz rfl
        rw [hs2]
        refine ⟨ws ++ innerL (ps.length : Int) (lowL ps D) cs, wrap64 (s1.count + 1), ?_, ?_, ?_⟩
        · rw [← hs2, e1]
          simp
        · rw [List.length_append, Int.natCast_add, e2, il]
          omega
        · refine Laid.inner (by omega) (D := D) (E := fun j => (kidF (layF f) ps s j).2.xs.length) ⟨hD, by omega, rfl, ?_, ?_, ?_, ?_, ?_, ?_, ?_, ?_, ?_⟩
          · intro i hi
            obtain ⟨z, h3, h4⟩ := e3 i hi
            have hz : s2.look (childS ((kidF (layF f) ps s D).2.xs.length + 1) D i) = z := by
              have := look (4 + D + i) z (by
                unfold innerL
                rw [List.getElem?_append_right (by simp; omega), List.getElem?_append_right (by simp [ql]; omega), ← h3]
                congr 1
                simp [ql]
                omega)
              rw [← this, ED]
              unfold childS
              congr 1
              omega
            show Laid s2 f _ _ (s2.look (childS ((kidF (layF f) ps s D).2.xs.length + 1) D i)) _
            rw [hz]
            refine laid_same h4 (fun q hq1 hq2 => look_old hx2 (by omega) ?_)
            have := e4 (i + 1) (by omega)
            rw [ED] at this
            omega
          · show s2.xs.length = (kidF (layF f) ps s D).2.xs.length + 4 + 2 * D
            rw [ED, hx2, List.length_append, il]
            omega
          · show 8 * ((s1.xs.length : Int) + 1) + 3 = 8 * (((kidF (layF f) ps s D).2.xs.length : Int) + 1) + 3
            rw [ED]
          · show s2.look (((kidF (layF f) ps s D).2.xs.length : Int) + 1) = _
            rw [ED, ← look 0 (D : Int) (by simp [innerL, kl])]
            congr 1
          · show s2.look (((kidF (layF f) ps s D).2.xs.length : Int) + 2) = _
            rw [ED, ← look 1 (ps.length : Int) (by simp [innerL])]
            congr 1
          · show s2.look (((kidF (layF f) ps s D).2.xs.length : Int) + 3) = _
            rw [ED, ← look 2 0 (by simp [innerL])]
            congr 1
          · show s2.look (((kidF (layF f) ps s D).2.xs.length : Int) + 4) = _
            rw [ED, ← look 3 0 (by simp [innerL])]
            congr 1
          · show s2.look (((kidF (layF f) ps s D).2.xs.length : Int) + 5) = _
            rw [ED, ← look 4 0 (by simp [innerL])]
            congr 1
          · intro i h1 hi
            show s2.look (((kidF (layF f) ps s D).2.xs.length : Int) + 5 + i) = _
            rw [ED, ← look (4 + i) ((partL ps (i : Int)).headD (0, 0)).1 (by
              unfold innerL
              rw [List.getElem?_append_right (by simp; omega), List.getElem?_append_left (by simp [ql]; omega), ← lowL_at ps D i h1 hi]
              congr 1
              simp
              omega)]
            congr 1
            omega
end Go.Proofs.Ytgialpjdfeldeaa

/-! PlantRoom's walk: a tree is built just if there are as many cells left as it needs. No conditions beyond each theorem's own. -/
namespace Go.Proofs.Ytgialpjdfeldeaa
open Go.RowKit
set_option maxRecDepth 20000

/-- A slice of pairs that was told, where it lies. -/
theorem PRow.form {w : World} {n₀ : Nat} {E : TypeId} {v : Value} {xs : List (Int × Int)} (h : PRow w n₀ E v xs) : ∃ a cap, v = .slice a xs.length cap ∧ PReads w a xs ∧ xs.length ≤ cap ∧ cap ≤ maxLen ∧ (a = none → cap = 0) ∧ ∀ ad, a = some ad → n₀ ≤ ad.block ∧ ad.block < w.heap.size := by
  obtain ⟨a, cap, rfl, h1, h2, h3, h4, h5⟩ := h.reads
  refine ⟨a, cap, rfl, h1, h2, h3, h4, fun ad e => ⟨h5 ad e, ?_⟩⟩
  subst e
  rcases h.2 with ⟨e, _⟩ | ⟨g, cap', cur, e, hg, hh, _⟩
  · cases e
  · cases e
    exact (Array.getElem?_eq_some_iff.1 hh).1
/-- Build of a list that lay ahead of the memory. -/
theorem now_bfar (w W : World) (b : Nat) (s : Mst) (a : Option Addr) (ps : List (Int × Int)) (M cap : Nat) (h : Now w W b s) (hr : PReads w a ps) (hM : ps.length = M) (hc : M ≤ cap) (hcm : cap ≤ maxLen) (ha : ∀ ad, a = some ad → ad.block < w.heap.size) (z : Int) (r : Bool) (s' : Mst) (e1 : buildS s ps = ((z, r), s')) :
    Calls Try.prog 11 #[.pointer (some ⟨b, 0, none⟩), .slice a M cap] W fun e W' => e = .returned (.tuple #[.int .i64 z, .bool r]) ∧ Now w W' b s' :=
  now_build w W b s a ps M cap h (hr.kept h.2) hM hc hcm (fun v hv ad e hf => by have h1 := ha ad e; have h2 := (hv.lt _ hf).1; omega) z r s' e1
theorem ascB_up {ps : List (Int × Int)} (h : (ps.map Prod.fst).Pairwise (· < ·)) (hl : ps.length ≤ 16384) : ascB ps = true := ascB_iff.2 ⟨hl, h⟩
/-- Where there is room. -/
theorem buildS_in {s : Mst} {ps : List (Int × Int)} (h : ascB ps = true) (hr : (s.xs.length : Int) + Pt.celZ ps.length ≤ s.size) (ht : s.size ≤ 65536) : ∃ z s' ws c, buildS s ps = ((z, true), s') ∧ s' = { s with xs := s.xs ++ ws, count := c } ∧ (ws.length : Int) = Pt.celZ ps.length ∧ Laid s' (ps.length + 1) s.xs.length s'.xs.length z ps := by
  obtain ⟨ws, c, h1, h2, h3⟩ := lay_laid (ps.length + 1) s ps (by omega) (ascB_iff.1 h).1 hr ht
  exact ⟨_, _, ws, c, by rw [buildS, if_pos ⟨h, by omega⟩], h1, h2, h3⟩

set_option maxHeartbeats 4000000 in
theorem plantRoom_c (w : World) (a : Option Addr) (zs : List Int) (cap : Nat) (more : Int) (hr : Reads w a zs) (hc : zs.length ≤ cap) (hm : cap ≤ maxLen) :
    Calls Try.prog 6 #[.slice a zs.length cap, .int .i64 more] w fun e w' => e = .returned (.bool true) ∧ Kept w w' := by
  have HP := hide (Mp.pairs_c w a zs zs.length cap rfl hr hc hm)
  have up := Mp.pairsP_up zs
  have le := Mp.pairsP_le zs
  obtain ⟨ps, hps⟩ : ∃ ps, Mp.pairsP zs = ps := ⟨_, rfl⟩
  rw [hps] at HP up le
  obtain ⟨M, hM⟩ : ∃ M, ps.length = M := ⟨_, rfl⟩
  have hb := ascB_up up (by omega)
  have cb := Pt.cel_nat (M : Int)
  have cb2 : Pt.celZ (M : Int) ≤ 592 := by
    by_cases h0 : M = 0
    · subst h0; decide
    · have := Pt.cel_bound (n := (M : Int)) (by omega)
      omega
  have HC : Hid (∀ W : World, Calls Try.prog 30 #[.int .i64 (M : Int)] W fun e W' => e = .returned (.int .i64 (Pt.celZ (M : Int))) ∧ Kept W W') := hide (fun W => (Pt.cells_c (M : Int) (I64.wf ⟨by omega, by omega⟩) W).mono fun _ _ ⟨h1, k, h2⟩ => ⟨h1, by rw [h2]; exact Kept.drewN _ _⟩)
  obtain ⟨C, hC⟩ : ∃ C, Pt.celZ (M : Int) = C := ⟨_, rfl⟩
  rw [hC] at HC cb cb2
  obtain ⟨y, hy⟩ : ∃ y, more % 5 = y := ⟨_, rfl⟩
  have y1 : 0 ≤ y := by omega
  have y2 : y < 5 := by omega
  have HY := hide hy
  have HMM := hide hM
  have m60 : (M : Int) ≤ 60 := by omega
  have BN : Hid (∀ n : Int, C ≤ n → n ≤ 65536 → ∃ z s', buildS (Mst.new n) ps = ((z, true), s') ∧ (s'.xs.length : Int) = C ∧ s'.ref = 0 ∧ s'.odd = 0) := hide (fun n h1 h2 => by
    obtain ⟨z, s', ws, c, e1, e2, e3, _⟩ := buildS_in (s := Mst.new n) hb (by rw [hM, hC]; simpa [Mst.new] using h1) (by simpa [Mst.new] using h2)
    exact ⟨z, s', e1, by rw [e2, ← hC, ← hM, ← e3]; simp [Mst.new], by rw [e2]; rfl, by rw [e2]; rfl⟩)
  have BO : Hid (∀ n : Int, n < C → buildS (Mst.new n) ps = ((0, false), Mst.new n)) := hide (fun n h1 => by
    rw [buildS, if_neg (by rw [hM, hC]; simp [Mst.new]; omega)])
  clear hr hm up hps hb hC hy le hM
  go_enter Try.func6, Try.ntmps6
  go_wp2_with (fail)
  refine HP.out.mono ?_
  rintro e W1 ⟨v1, rfl, row1, k1⟩
  obtain ⟨a1, c1, rfl, pr1, l1, m1, -, b1⟩ := PRow.form row1
  rw [HMM.out] at l1 ⊢
  have K1 := hide k1
  have PR1 := hide pr1
  have M1 := hide m1
  have B1 := hide (fun ad e => (b1 ad e).2)
  clear k1 row1 pr1 m1 b1 HP
  go_wp2_with (fail)
  refine (HC.out W1).mono ?_
  rintro e W2 ⟨rfl, k2⟩
  have K2 := hide k2
  clear k2
  go_wp2_with (fail)
  refine (cut_g _ more 5 (by decide) (by decide)).mono ?_
  rw [HY.out]
  rintro e W3 ⟨rfl, rfl⟩
  by_cases hn : C + y - 2 < 1
  · go_wp2_with (fail)
    refine (known_c _).mono ?_
    rintro e W4 ⟨rfl, k4⟩
    have K4 := hide ((K1.out.trans K2.out).trans k4)
    clear k4
    go_wp2
    go_ret
    exact ⟨rfl, K4.out⟩
  · obtain ⟨n, hn2⟩ : ∃ n, C + y - 2 = n := ⟨_, rfl⟩
    have n1 : 1 ≤ n := by omega
    have n2 : n ≤ 65536 := by omega
    have n3 : ¬ n < 1 := by omega
    go_wp2_with (fail)
    refine (now_new W1 _ n K2.out n1 n2).mono ?_
    rintro e W4 ⟨rfl, h4, -⟩
    have H4 := hide h4
    clear h4
    by_cases hfit : C ≤ n
    · obtain ⟨z, s', e1, e2, e3, e4⟩ := BN.out n hfit n2
      have E1 := hide e1
      have E2 := hide e2
      have E3 := hide e3
      have E4 := hide e4
      clear e1 e2 e3 e4
      go_wp2_with (fail)
      refine (now_bfar W1 W4 _ _ a1 ps M c1 H4.out PR1.out HMM.out l1 M1.out B1.out z true s' E1.out).mono ?_
      rintro e W5 ⟨rfl, h5⟩
      have H5 := hide h5
      clear h5 H4
      go_wp2_with (fail)
      refine (known_c _).mono ?_
      rintro e W6 ⟨rfl, k6⟩
      have H6 := hide (H5.out.on k6)
      clear k6 H5
      go_wp2_with (fail)
      refine (HC.out _).mono ?_
      rintro e W7 ⟨rfl, k7⟩
      have H7 := hide (H6.out.on k7)
      clear H6 k7
      go_wp2_with (fail)
      refine (now_used W1 _ _ s' C H7.out E2.out).mono ?_
      rintro e W8 ⟨rfl, rfl⟩
      go_wp2_with (fail)
      refine (HC.out _).mono ?_
      rintro e W9 ⟨rfl, k9⟩
      have H9 := hide (H7.out.on k9)
      clear H7 k9
      go_wp2_with (fail)
      refine (refused_n W1 _ _ s' 0 H9.out E3.out).mono ?_
      rintro e W8 ⟨rfl, rfl⟩
      go_wp2_with (fail)
      refine (odd_n W1 _ _ s' 0 H9.out E4.out).mono ?_
      rintro e W8 ⟨rfl, rfl⟩
      have K9 := hide (K1.out.trans H9.out.2)
      go_wp2
      go_ret
      exact ⟨rfl, K9.out⟩
    · have g1 : n < C := by omega
      have E1 := hide (BO.out n g1)
      go_wp2_with (fail)
      refine (now_bfar W1 W4 _ _ a1 ps M c1 H4.out PR1.out HMM.out l1 M1.out B1.out 0 false _ E1.out).mono ?_
      rintro e W5 ⟨rfl, h5⟩
      have H5 := hide h5
      clear h5 H4
      go_wp2_with (fail)
      refine (known_c _).mono ?_
      rintro e W6 ⟨rfl, k6⟩
      have H6 := hide (H5.out.on k6)
      clear k6 H5
      go_wp2_with (fail)
      refine (HC.out _).mono ?_
      rintro e W7 ⟨rfl, k7⟩
      have H7 := hide (H6.out.on k7)
      clear H6 k7
      go_wp2_with (fail)
      refine (now_used W1 _ _ _ 0 H7.out rfl).mono ?_
      rintro e W8 ⟨rfl, rfl⟩
      go_wp2_with (fail)
      refine (count_n W1 _ _ _ 0 H7.out rfl).mono ?_
      rintro e W8 ⟨rfl, rfl⟩
      have K9 := hide (K1.out.trans H7.out.2)
      go_wp2
      go_ret
      exact ⟨rfl, K9.out⟩
end Go.Proofs.Ytgialpjdfeldeaa

/-! PlantTwo's walk: what is built one behind the other does not touch what was built ahead. No conditions beyond each theorem's own. -/
namespace Go.Proofs.Ytgialpjdfeldeaa
open Go.RowKit
set_option maxRecDepth 20000

theorem make_same {s s' : Mst} (h1 : s.xs = s'.xs) (h2 : s.size = s'.size) (ws : List Int) : (s.make ws).xs = (s'.make ws).xs ∧ (s.make ws).size = (s'.make ws).size ∧ s.next ws = s'.next ws := by
  unfold Mst.make Mst.next Mst.fits
  rw [h1, h2]
  split <;> exact ⟨rfl, rfl, rfl⟩
theorem rec_same {s s' : Mst} (h1 : s.xs = s'.xs) (h2 : s.size = s'.size) (k : Int) (ws : List Int) : (recS s k ws).1 = (recS s' k ws).1 ∧ (recS s k ws).2.xs = (recS s' k ws).2.xs ∧ (recS s k ws).2.size = (recS s' k ws).2.size := by
  obtain ⟨h3, h4, h5⟩ := make_same h1 h2 ws
  exact ⟨by show Rf.ofZ k (s.next ws) = Rf.ofZ k (s'.next ws); rw [h5], h3, h4⟩
/-- What is laid hangs on what is held, and on how much room there is, alone. -/
theorem lay_same : ∀ (f : Nat) (s s' : Mst) (ps : List (Int × Int)), s.xs = s'.xs → s.size = s'.size → (layF f s ps).1 = (layF f s' ps).1 ∧ (layF f s ps).2.xs = (layF f s' ps).2.xs ∧ (layF f s ps).2.size = (layF f s' ps).2.size
  | 0, _, _, _, h1, h2 => ⟨rfl, h1, h2⟩
  | f + 1, s, s', ps, h1, h2 => by
    rw [layF_succ, layF_succ]
    split
    · exact rec_same h1 h2 _ _
    · split
      · exact rec_same h1 h2 _ _
      · have kids : ∀ i, (kidF (layF f) ps s i).1 = (kidF (layF f) ps s' i).1 ∧ (kidF (layF f) ps s i).2.xs = (kidF (layF f) ps s' i).2.xs ∧ (kidF (layF f) ps s i).2.size = (kidF (layF f) ps s' i).2.size := by
          intro i
          induction i with
          | zero => exact ⟨rfl, h1, h2⟩
          | succ i ih =>
            obtain ⟨g1, g2, g3⟩ := ih
            obtain ⟨l1, l2, l3⟩ := lay_same f _ _ (partL ps (i : Int)) g2 g3
            refine ⟨?_, l2, l3⟩
            show (kidF (layF f) ps s i).1 ++ [_] = (kidF (layF f) ps s' i).1 ++ [_]
            rw [g1, l1]
        obtain ⟨g1, g2, g3⟩ := kids (Pt.degZ ps.length).toNat
        rw [g1]
        exact rec_same g2 g3 _ _

/-- Two memories that lie apart, and blocks that are neither's. -/
def PX (X : Nat → Prop) (w W : World) (b1 : Nat) (s1 : Mst) (b2 : Nat) (s2 : Mst) : Prop :=
  ∃ v1 v2, PMem W w.heap.size b1 v1 s1 ∧ PMem W w.heap.size b2 v2 s2 ∧ (∀ k, Foot b1 v1 k → ¬ Foot b2 v2 k) ∧ (∀ k, X k → ¬ Foot b1 v1 k ∧ ¬ Foot b2 v2 k ∧ k < W.heap.size) ∧ Kept w W
namespace PX
variable {X : Nat → Prop} {w W W' : World} {b1 b2 : Nat} {s1 s2 : Mst}
theorem swap (h : PX X w W b1 s1 b2 s2) : PX X w W b2 s2 b1 s1 := by
  obtain ⟨v1, v2, h1, h2, h3, h4, h5⟩ := h
  exact ⟨v2, v1, h2, h1, fun k hk e => h3 k e hk, fun k hk => ⟨(h4 k hk).2.1, (h4 k hk).1, (h4 k hk).2.2⟩, h5⟩
theorem on (h : PX X w W b1 s1 b2 s2) (k : Kept W W') : PX X w W' b1 s1 b2 s2 := by
  obtain ⟨v1, v2, h1, h2, h3, h4, h5⟩ := h
  exact ⟨v1, v2, h1.kept k, h2.kept k, h3, fun j hj => ⟨(h4 j hj).1, (h4 j hj).2.1, Nat.lt_of_lt_of_le (h4 j hj).2.2 k.size⟩, h5.trans k⟩
theorem fst (h : PX X w W b1 s1 b2 s2) : ∃ v1, PMem W w.heap.size b1 v1 s1 ∧ (∀ k, X k → ¬ Foot b1 v1 k) ∧ ∀ W' s', Does 66 layP w.heap.size b1 v1 s' W W' → PX X w W' b1 s' b2 s2 ∧ Turned (fun k => ¬ X k) W W' := by
  obtain ⟨v1, v2, h1, h2, h3, h4, h5⟩ := h
  refine ⟨v1, h1, fun k hk => (h4 k hk).1, fun W' s' d => ?_⟩
  obtain ⟨v', g1, g2, g3⟩ := d
  have t1 : Turned (fun k => ¬ X k) W W' := g2.mono (fun k _ hk hx => (h4 k hx).1 hk)
  refine ⟨⟨v', v2, g1, h2.turned g2 (fun k hk e => h3 k e hk), ?_, ?_, h5.own (fun i hi => (h1.lt i hi).1) g2⟩, t1⟩
  · intro k hk hf
    rcases g3 k hk with e | e
    · exact h3 k e hf
    · have := (h2.lt k hf).2; omega
  · intro k hk
    obtain ⟨e1, e2, e3⟩ := h4 k hk
    refine ⟨fun hf => ?_, e2, Nat.lt_of_lt_of_le e3 g2.size⟩
    rcases g3 k hf with e | e
    · exact e1 e
    · omega
theorem now (h : PX X w W b1 s1 b2 s2) : Now w W b1 s1 := by
  obtain ⟨v1, v2, h1, h2, h3, h4, h5⟩ := h
  exact ⟨⟨v1, h1⟩, h5⟩
/-- Of two memories, with new blocks. -/
theorem more {Y : Nat → Prop} (h : PX X w W b1 s1 b2 s2) (k : Kept W W') (hY : ∀ j, Y j → W.heap.size ≤ j ∧ j < W'.heap.size) : PX Y w W' b1 s1 b2 s2 := by
  obtain ⟨v1, v2, h1, h2, h3, h4, h5⟩ := h
  refine ⟨v1, v2, h1.kept k, h2.kept k, h3, fun j hj => ⟨fun hf => ?_, fun hf => ?_, (hY j hj).2⟩, h5.trans k⟩
  · have := (h1.lt j hf).2; have := (hY j hj).1; omega
  · have := (h2.lt j hf).2; have := (hY j hj).1; omega
theorem of (h1 : Now w W b1 s1) (h2 : Now W W' b2 s2) : PX (fun _ => False) w W' b1 s1 b2 s2 := by
  obtain ⟨⟨v1, m1⟩, k1⟩ := h1
  obtain ⟨⟨v2, m2⟩, k2⟩ := h2
  refine ⟨v1, v2, m1.kept k2, m2.low k1.size, fun k hk hf => ?_, fun _ e => e.elim, k1.trans k2⟩
  have := (m1.lt k hk).2
  have := (m2.lt k hf).1
  omega
end PX
theorem px_build (X : Nat → Prop) (w W : World) (b1 b2 : Nat) (s1 s2 : Mst) (a : Option Addr) (ps : List (Int × Int)) (M cap : Nat) (h : PX X w W b1 s1 b2 s2) (hr : PReads w a ps) (hM : ps.length = M) (hc : M ≤ cap) (hcm : cap ≤ maxLen) (ha : ∀ ad, a = some ad → ad.block < w.heap.size) (z : Int) (r : Bool) (s' : Mst) (e1 : buildS s1 ps = ((z, r), s')) :
    Calls Try.prog 11 #[.pointer (some ⟨b1, 0, none⟩), .slice a M cap] W fun e W' => e = .returned (.tuple #[.int .i64 z, .bool r]) ∧ PX X w W' b1 s' b2 s2 ∧ Turned (fun k => ¬ X k) W W' := by
  obtain ⟨v1, m1, _, hd⟩ := h.fst
  exact (build_p W w.heap.size b1 v1 s1 a ps M cap m1 h.now.2.size (hr.kept h.now.2) hM hc hcm (fun _ ad e hf => by have h1 := ha ad e; have h2 := (m1.lt _ hf).1; omega) z r s' e1).mono fun _ _ ⟨h1, h2⟩ => ⟨h1, hd _ _ h2⟩
theorem px_make (X : Nat → Prop) (w W : World) (b1 b2 : Nat) (s1 s2 : Mst) (a : Option Addr) (ws : List Int) (M cw : Nat) (h : PX X w W b1 s1 b2 s2) (hr : Reads W a ws) (hM : ws.length = M) (hl : M ≤ 100000) (hx : ∀ ad, a = some ad → X ad.block) :
    Calls Try.prog 40 #[.pointer (some ⟨b1, 0, none⟩), .slice a M cw] W fun e W' => e = .returned (.tuple #[.int .i64 (s1.next ws), .bool (s1.fits ws.length)]) ∧ PX X w W' b1 (s1.make ws) b2 s2 ∧ Turned (fun k => ¬ X k) W W' := by
  subst hM
  obtain ⟨v1, m1, hn, hd⟩ := h.fst
  exact (make_p W w.heap.size b1 v1 s1 a ws cw m1 h.now.2.size hr (by unfold maxLen; omega) (fun _ ad e hb => hn _ (hx ad e) (.inl hb))).mono fun _ _ ⟨h1, h2⟩ => ⟨h1, hd _ _ h2⟩

/-- The plain side. -/
theorem two_plain {ps qs : List (Int × Int)} (hp : ascB ps = true) (hq : ascB qs = true) (lp : ps.length ≤ 60) (lq : qs.length ≤ 60) : ∃ za zb sa sb sc, buildS (Mst.new 3000) ps = ((za, true), sa) ∧ buildS sa qs = ((zb, true), sb) ∧ buildS ((Mst.new 3000).make sa.xs) qs = ((zb, true), sc) ∧ za ≠ zb ∧ sc.xs = sb.xs ∧ (∃ ws, sb.xs = sa.xs ++ ws) ∧ sb.xs.length ≤ 3000 := by
  have cb : ∀ {n : Nat}, n ≤ 60 → Pt.celZ (n : Int) ≤ 592 := fun {n} h => by
    by_cases h0 : n = 0
    · subst h0; decide
    · have := Pt.cel_bound (n := (n : Int)) (by omega)
      omega
  have c1 := cb lp
  have c2 := cb lq
  obtain ⟨za, sa, wa, ca, e1, e2, e3, l1⟩ := buildS_in (s := Mst.new 3000) hp (by simp [Mst.new]; omega) (by simp [Mst.new])
  have xa : sa.xs = wa := by rw [e2]; simp [Mst.new]
  have xal : sa.xs.length = wa.length := by rw [xa]
  have za' : sa.size = 3000 := by rw [e2]; rfl
  obtain ⟨zb, sb, wb, cb', f1, f2, f3, l2⟩ := buildS_in (s := sa) hq (by rw [xa, za', e3]; omega) (by rw [za']; decide)
  have hl1 := laid_lt l1
  have hl2 := laid_lt l2
  have hm : (Mst.new 3000).make sa.xs = { (Mst.new 3000) with xs := sa.xs, count := wrap64 (0 + 1) } := by
    rw [Mst.make, if_pos (by simp [Mst.fits, Mst.new]; simp [Mst.new] at hl1; omega)]
    simp [Mst.new]
  have sx := lay_same (qs.length + 1) ((Mst.new 3000).make sa.xs) sa qs (by rw [hm]) (by rw [hm, za']; rfl)
  have fit : Pt.celZ qs.length ≤ sa.size - (sa.xs.length : Int) := by rw [xa, za', e3]; omega
  have f1' := f1
  rw [buildS, if_pos ⟨hq, fit⟩] at f1
  simp only [Prod.mk.injEq] at f1
  obtain ⟨⟨g1, -⟩, g2⟩ := f1
  refine ⟨za, zb, sa, sb, (layF (qs.length + 1) ((Mst.new 3000).make sa.xs) qs).2, e1, f1', ?_, ?_, ?_, ⟨wb, by rw [f2]⟩, ?_⟩
  · rw [buildS, if_pos ⟨hq, by rw [hm]; simp only [Mst.new]; rw [za'] at fit; exact fit⟩, sx.1, g1]
  · omega
  · rw [sx.2.1, g2]
  · have : sb.xs = sa.xs ++ wb := by rw [f2]
    rw [this, List.length_append, xa]
    omega

set_option maxHeartbeats 4000000 in
theorem plantTwo_c (w : World) (a : Option Addr) (zs : List Int) (cap : Nat) (a' : Option Addr) (zs' : List Int) (cap' : Nat) (hr : Reads w a zs) (hc : zs.length ≤ cap) (hm : cap ≤ maxLen) (hr' : Reads w a' zs') (hc' : zs'.length ≤ cap') (hm' : cap' ≤ maxLen) :
    Calls Try.prog 8 #[.slice a zs.length cap, .slice a' zs'.length cap'] w fun e w' => e = .returned (.bool true) ∧ Kept w w' := by
  have HP := hide (Mp.pairs_c w a zs zs.length cap rfl hr hc hm)
  have HQ : Hid (∀ W, Kept w W → Calls Try.prog 26 #[.slice a' zs'.length cap'] W (Mp.PSliced (Mp.pairsP zs') W)) := hide (fun W k => Mp.pairs_c W a' zs' zs'.length cap' rfl (hr'.kept k) hc' hm')
  have le := Mp.pairsP_le zs
  have le' := Mp.pairsP_le zs'
  have PL := hide (two_plain (ascB_up (Mp.pairsP_up zs) (by omega)) (ascB_up (Mp.pairsP_up zs') (by omega)) le le')
  obtain ⟨ps, hps⟩ : ∃ ps, Mp.pairsP zs = ps := ⟨_, rfl⟩
  obtain ⟨qs, hqs⟩ : ∃ qs, Mp.pairsP zs' = qs := ⟨_, rfl⟩
  rw [hps] at HP PL
  rw [hqs] at HQ PL
  obtain ⟨M, hM⟩ : ∃ M, ps.length = M := ⟨_, rfl⟩
  obtain ⟨M', hM'⟩ : ∃ M, qs.length = M := ⟨_, rfl⟩
  have HMM := hide hM
  have HMM' := hide hM'
  obtain ⟨za, zb, sa, sb, sc, e1, e2, e3, e4, e5, ⟨ws, e6⟩, e7⟩ := PL.out
  have E1 := hide e1
  have E2 := hide e2
  have E3 := hide e3
  have g1 : (za == zb) = false := by simp [e4]
  have g2 : (za != zb) = true := by simp [e4]
  have g3 : (zb == zb) = true := by simp
  have E5 := hide e5
  have E6 := hide e6
  obtain ⟨na, hna⟩ : ∃ n, sa.xs.length = n := ⟨_, rfl⟩
  obtain ⟨nb, hnb⟩ : ∃ n, sb.xs.length = n := ⟨_, rfl⟩
  have NA := hide hna
  have NB := hide hnb
  have nab : na ≤ nb := by rw [← hna, ← hnb, e6, List.length_append]; omega
  have nb3 : nb ≤ 3000 := by omega
  clear hr hm hr' hm' hps hqs le le' PL hM hM' e1 e2 e3 e4 e5 e6 e7 hna hnb
  go_enter Try.func8, Try.ntmps8
  go_wp2_with (fail)
  refine HP.out.mono ?_
  rintro e W1 ⟨v1, rfl, row1, k1⟩
  obtain ⟨a1, c1, rfl, pr1, l1, m1, -, b1⟩ := PRow.form row1
  rw [HMM.out] at l1 ⊢
  have K1 := hide k1
  have PR1 := hide pr1
  have M1 := hide m1
  have B1 := hide (fun ad e => (b1 ad e).2)
  clear k1 row1 pr1 m1 b1 HP
  go_wp2_with (fail)
  refine (HQ.out W1 K1.out).mono ?_
  rintro e W2 ⟨v2, rfl, row2, k2⟩
  obtain ⟨a2, c2, rfl, pr2, l2, m2, -, b2⟩ := PRow.form row2
  rw [HMM'.out] at l2 ⊢
  have K2 := hide (K1.out.trans k2)
  have PR1' := hide (PR1.out.kept k2)
  have B1' : Hid (∀ ad, a1 = some ad → ad.block < W2.heap.size) := hide (fun ad e => Nat.lt_of_lt_of_le (B1.out ad e) k2.size)
  have PR2 := hide pr2
  have M2 := hide m2
  have B2 := hide (fun ad e => (b2 ad e).2)
  clear k2 row2 pr2 m2 b2 HQ PR1 B1 K1
  go_wp2_with (fail)
  refine (now_new W2 W2 3000 (Kept.refl _) (by decide) (by decide)).mono ?_
  rintro e W3 ⟨rfl, h3, -⟩
  have H3 := hide h3
  clear h3
  go_wp2_with (fail)
  refine (now_new W3 W3 3000 (Kept.refl _) (by decide) (by decide)).mono ?_
  rintro e W4 ⟨rfl, h4, -⟩
  have H4 := hide (PX.of H3.out h4)
  clear h4 H3
  generalize W2.heap.size = b1 at H4 ⊢
  generalize W3.heap.size = b2 at H4 ⊢
  go_wp2_with (fail)
  refine (px_build _ W2 W4 b1 b2 _ _ a1 ps M c1 H4.out PR1'.out HMM.out l1 M1.out B1'.out za true sa E1.out).mono ?_
  rintro e W5 ⟨rfl, h5, -⟩
  have H5 := hide h5
  clear h5 H4
  go_wp2_with (fail)
  refine (now_cells W2 W5 b1 sa H5.out.now).mono ?_
  rintro e W6 ⟨aw, cw, rfl, rw6, lw, mw, bw, roww, k6⟩
  have BX : Hid (∀ ad, aw = some ad → W5.heap.size ≤ ad.block ∧ ad.block < W6.heap.size) := hide (fun ad e => by
    subst e
    rcases roww.2 with ⟨e, _⟩ | ⟨g, cap', cur, e, hg, hh, _⟩
    · cases e
    · cases e
      exact ⟨hg, (Array.getElem?_eq_some_iff.1 hh).1⟩)
  have H6 : Hid (PX (fun k => ∃ ad, aw = some ad ∧ ad.block = k) W2 W6 b1 sa b2 (Mst.new 3000)) := hide (H5.out.more k6 (fun j ⟨ad, e1, e2⟩ => by rw [← e2]; exact BX.out ad e1))
  have RW6 := hide rw6
  rw [NA.out] at lw ⊢
  have MW := hide mw
  clear rw6 mw bw roww k6 H5
  go_wp2_with (fail)
  refine (px_build _ W2 W6 b1 b2 _ _ a2 qs M' c2 H6.out PR2.out HMM'.out l2 M2.out B2.out zb true sb E2.out).mono ?_
  rintro e W7 ⟨rfl, h7, t7⟩
  have H7 := hide h7.swap
  have RW7 := hide (RW6.out.turned t7 (fun k _ hk hn => hn hk))
  clear h7 t7 H6 RW6
  go_wp2_with (fail)
  refine (px_make _ W2 W7 b2 b1 _ _ aw sa.xs na cw H7.out RW7.out NA.out (by omega) (fun ad e => ⟨ad, e, rfl⟩)).mono ?_
  rintro e W8 ⟨rfl, h8, t8⟩
  have H8 := hide h8
  have RW8 := hide (RW7.out.turned t8 (fun k _ hk hn => hn hk))
  clear h8 t8 H7 RW7
  go_wp2_with (fail)
  refine (px_build _ W2 W8 b2 b1 _ _ a2 qs M' c2 H8.out PR2.out HMM'.out l2 M2.out B2.out zb true sc E3.out).mono ?_
  rintro e W9 ⟨rfl, h9, t9⟩
  have H9 := hide h9
  have RW9 := hide (RW8.out.turned t9 (fun k _ hk hn => hn hk))
  clear h9 t9 H8 RW8
  go_wp2_with (fail)
  refine (now_cells W2 W9 b1 sb H9.out.swap.now).mono ?_
  rintro e WA ⟨aa, ca, rfl, ra, la, ma, -, -, ka⟩
  have HA := hide (H9.out.on ka)
  have RWA := hide (RW9.out.kept ka)
  have RA := hide ra
  have MA := hide ma
  rw [NB.out] at la ⊢
  clear ra ma ka H9 RW9
  go_wp2_with (fail)
  refine (known_c _).mono ?_
  rintro e WB ⟨rfl, kb⟩
  have HB := hide (HA.out.on kb)
  have RWB := hide (RWA.out.kept kb)
  have RB := hide (RA.out.kept kb)
  clear kb HA RWA RA
  have RT : Hid (Reads WB aa sa.xs) := hide (by
    rcases RB.out with e | ⟨bl, off, e, hcell⟩
    · have := E6.out
      rw [e] at this
      exact .inl (List.append_eq_nil_iff.1 this.symm).1
    · exact .inr ⟨bl, off, e, fun j z hz => hcell j z (by rw [E6.out, List.getElem?_append_left (List.getElem?_eq_some_iff.1 hz).1]; exact hz)⟩)
  have W1' := hide (words_k WB aa aw sa.xs ca cw RT.out RWB.out (by rw [NA.out]; omega) (by rw [NA.out]; exact lw) MA.out)
  rw [NA.out] at W1'
  have ina : (na : Int) ≤ (nb : Int) := by omega
  have inb : na ≤ ca := by omega
  have inc : (ca : Int) ≤ 9223372036854775807 := by have := MA.out; unfold maxLen at this; omega
  go_wp2_with (fail)
  refine W1'.out.mono ?_
  rintro e WC ⟨rfl, kc⟩
  have HC := hide (HB.out.on kc)
  have RC := hide (RB.out.kept kc)
  clear kc HB RWB RB RT W1'
  go_wp2_with (fail)
  refine (now_cells W2 WC b2 sc HC.out.now).mono ?_
  rintro e WD ⟨ad, cd, rfl, rd, ld, md, -, -, kd⟩
  have W2' := hide (words_k WD aa ad sb.xs ca cd (RC.out.kept kd) (by rw [← E5.out]; exact rd) (by rw [NB.out]; exact la) (by rw [← E5.out]; exact ld) MA.out)
  rw [NB.out] at W2'
  rw [E5.out, NB.out]
  have KD := hide (HC.out.now.2.trans kd)
  clear rd ld md kd HC
  go_wp2_with (fail)
  refine W2'.out.mono ?_
  rintro e WE ⟨rfl, ke⟩
  have KE := hide ((K2.out.trans KD.out).trans ke)
  clear ke
  go_wp2
  go_ret
  exact ⟨rfl, KE.out⟩
end Go.Proofs.Ytgialpjdfeldeaa

/-! What the document's Root, Degree, Size and From answer, for every number; no world is turned. -/
namespace Go.Proofs.Ytgialpjdfeldeaa.Pt
open Go.ChangeShapes Go.WideShapes Go.ChangeAt Go.RowKit

theorem root_r (n : Int) (hn : (Lit.int .i64 n).wf = true) (w : World) :
    Calls Try.prog 100 #[.int .i64 n] w fun e w' => e = .returned (.int .i64 (rootZ n)) ∧ w = w' := by
  have hn' := bounds_i64 hn
  by_cases c : n < 1
  · rw [root_none c]
    go_enter Try.func100, Try.ntmps100
    go_wp2
    go_ret
    exact ⟨rfl, rfl⟩
  · obtain ⟨z, ez⟩ : ∃ z, rootZ n = z := ⟨_, rfl⟩
    have HE := hide ez
    rw [ez]
    clear ez hn
    go_enter Try.func100, Try.ntmps100
    go_wp2
    go_loop [3, 4, 5] (fun r b _ => ∃ (x : Int) (k : Nat), k ≤ 32 ∧ 0 ≤ x ∧ x ≤ 3037000499 ∧ Hid (x * x ≤ n ∧ n < (x + ((2 ^ k : Nat) : Int)) * (x + ((2 ^ k : Nat) : Int))) ∧ r = .int .i64 x ∧ b = .int .i64 ((k : Int) - 1)) (fun _ b _ => (intOf b + 1).toNat)
    case atStart => exact ⟨0, 32, by omega, by omega, by omega, hide ⟨by omega, by omega⟩, rfl, rfl⟩
    case round =>
      obtain ⟨x, k, k1, x0, x1, H, rfl, rfl⟩ := hrel
      cases k with
      | zero =>
        have e : x = z := by rw [← HE.out]; exact (root_unique x0 H.out.1 H.out.2).symm
        subst e
        clear H HE
        go_wp2
        go_ret
        exact ⟨rfl, rfl⟩
      | succ k =>
        have ep := pow_wrap (k := k) (by omega)
        have e2 : ((2 ^ (k + 1) : Nat) : Int) = 2 * ((2 ^ k : Nat) : Int) := by rw [Nat.pow_succ]; omega
        have d1 : 1 ≤ 2 ^ k := Nat.one_le_two_pow
        have d2 : 2 ^ k ≤ 2 ^ 31 := Nat.pow_le_pow_right (by omega) (by omega)
        obtain ⟨h1, h2⟩ := H.out
        rw [e2] at h2
        have HK : ∀ x : Int, x * x ≤ n → n < (x + ((2 ^ k : Nat) : Int)) * (x + ((2 ^ k : Nat) : Int)) → Hid (x * x ≤ n ∧ n < (x + ((2 ^ k : Nat) : Int)) * (x + ((2 ^ k : Nat) : Int))) := fun _ a b => hide ⟨a, b⟩
        obtain ⟨d, hd⟩ : ∃ d : Int, ((2 ^ k : Nat) : Int) = d := ⟨_, rfl⟩
        have d1' : 1 ≤ d := by omega
        have d2' : d ≤ 2147483648 := by omega
        rw [hd] at h2 ep HK
        have HD := hide hd
        clear H HE hd d1 d2 e2
        have q := le_quo (n := n) (t := x + d) (by omega)
        by_cases g : (x + d) * (x + d) ≤ n
        · have g' := q.mpr g
          have x1' : x + d ≤ 3037000499 := by
            have := lt_of_self (a := x + d) (b := 3037000500) (by omega) (by omega)
            omega
          have H2 := HK (x + d) g (by have e : x + d + d = x + 2 * d := by omega
                                      rw [e]; exact h2)
          clear q g h1 h2 HK
          go_wp2
          go_round
          case rel => exact ⟨x + d, k, by omega, by omega, by omega, (by rw [← HD.out] at H2 ⊢; exact H2), rfl, rfl⟩
          case measure => simp [intOf]
        · have g' : ¬ x + d ≤ n / (x + d) := fun h => g (q.mp h)
          have H2 := HK x h1 (by omega)
          clear q g h1 h2 HK
          go_wp2
          go_round
          case rel => exact ⟨x, k, by omega, by omega, by omega, (by rw [← HD.out] at H2; exact H2), rfl, rfl⟩
          case measure => simp [intOf]
theorem deg_r (n : Int) (hn : (Lit.int .i64 n).wf = true) (w : World) :
    Calls Try.prog 72 #[.int .i64 n] w fun e w' => e = .returned (.int .i64 (degZ n)) ∧ w = w' := by
  have hn' := bounds_i64 hn
  by_cases c : n < 2
  · rw [deg_none (by omega)]
    clear hn
    go_enter Try.func72, Try.ntmps72
    go_wp2
    go_ret
    exact ⟨rfl, rfl⟩
  · by_cases c2 : 16384 < n
    · rw [deg_none (by omega)]
      clear hn
      go_enter Try.func72, Try.ntmps72
      go_wp2
      go_ret
      exact ⟨rfl, rfl⟩
    · have hr := root_r n hn
      have b := root_bound (n := n) (by omega) (by omega)
      rw [deg_some (by omega) (by omega)]
      obtain ⟨r, er⟩ : ∃ r, rootZ n = r := ⟨_, rfl⟩
      rw [er] at hr b ⊢
      clear hn er
      go_enter Try.func72, Try.ntmps72
      go_wp2_with (go_at_call 100; refine (hr _).mono ?_; rintro e w' ⟨rfl, rfl⟩)
      go_ret
      exact ⟨rfl, rfl⟩

theorem size_r (n i : Int) (hn : (Lit.int .i64 n).wf = true) (w : World) :
    Calls Try.prog 73 #[.int .i64 n, .int .i64 i] w fun e w' => e = .returned (.int .i64 (sizeZ n i)) ∧ w = w' := by
  have hd := deg_r n hn
  have d := deg_nat n
  by_cases c : i < 0
  · rw [size_none (by omega)]
    generalize degZ n = z at *
    clear hn
    go_enter Try.func73, Try.ntmps73
    go_wp2_with (go_at_call 72; refine (hd _).mono ?_; rintro e w' ⟨rfl, rfl⟩)
    go_ret
    exact ⟨rfl, rfl⟩
  · by_cases c0 : degZ n ≤ i
    · rw [size_none (by omega)]
      generalize degZ n = z at *
      clear hn
      go_enter Try.func73, Try.ntmps73
      go_wp2_with (go_at_call 72; refine (hd _).mono ?_; rintro e w' ⟨rfl, rfl⟩)
      go_ret
      exact ⟨rfl, rfl⟩
    · have p := deg_pos (n := n) (by omega)
      have eb := each_bound (n := n) (by omega)
      have sp := split_eq (n := n) (by omega)
      have e1 : n / degZ n = eachZ n := rfl
      have e2 : n % degZ n = moreZ n := rfl
      by_cases c2 : i < moreZ n
      · rw [size_more (by omega) (by omega) c2]
        generalize eachZ n = q at *
        generalize moreZ n = m at *
        generalize degZ n = z at *
        clear sp hn
        go_enter Try.func73, Try.ntmps73
        go_wp2_with (go_at_call 72; refine (hd _).mono ?_; rintro e w' ⟨rfl, rfl⟩)
        go_ret
        exact ⟨rfl, rfl⟩
      · rw [size_each (by omega) (by omega) (by omega)]
        generalize eachZ n = q at *
        generalize moreZ n = m at *
        generalize degZ n = z at *
        clear sp hn
        go_enter Try.func73, Try.ntmps73
        go_wp2_with (go_at_call 72; refine (hd _).mono ?_; rintro e w' ⟨rfl, rfl⟩)
        go_ret
        exact ⟨ret_int e1, rfl⟩
end Go.Proofs.Ytgialpjdfeldeaa.Pt

/-! What the accesses of the document's memory answer, and what they turn, at a memory as it lies (DMem). -/
namespace Go.Proofs.Ytgialpjdfeldeaa
open Go.RowKit

/-- The box behind a count. -/
theorem count_d {w : World} {n₀ b : Nat} {v : Value} {s : Mst} (h : DMem w n₀ b v s) (c : Int) : DMem (w.setCell ⟨b, 2, none⟩ (.int .i64 c)) n₀ b v { s with count := c } :=
  h.boxed (by decide) (Turned.setCell _ _ _ rfl) (by rw [box_set _ h.box]; rfl) rfl rfl
theorem odd_d {w : World} {n₀ b : Nat} {v : Value} {s : Mst} (h : DMem w n₀ b v s) (c : Int) : DMem (w.setCell ⟨b, 3, none⟩ (.int .i64 c)) n₀ b v { s with odd := c } :=
  h.boxed (by decide) (Turned.setCell _ _ _ rfl) (by rw [box_set _ h.box]; rfl) rfl rfl
theorem ref_d {w : World} {n₀ b : Nat} {v : Value} {s : Mst} (h : DMem w n₀ b v s) (c : Int) : DMem (w.setCell ⟨b, 4, none⟩ (.int .i64 c)) n₀ b v { s with ref := c } :=
  h.boxed (by decide) (Turned.setCell _ _ _ rfl) (by rw [box_set _ h.box]; rfl) rfl rfl


/-- What a store into the row leaves. -/
theorem put_d {w w1 : World} {n₀ b g cap j : Nat} {s : Mst} (hj : j < s.xs.length) (h : DMem w1 n₀ b (.slice (some ⟨g, 0, none⟩) s.xs.length cap) (s.touch ((j : Int) + 1))) (t : Turned (fun k => k = b) w w1) (x : Int) :
    DMem (w1.setCell ⟨g, j, none⟩ (.int .i64 x)) n₀ b (.slice (some ⟨g, 0, none⟩) s.xs.length cap) (s.write ((j : Int) + 1) x) ∧ Turned (Foot b (.slice (some ⟨g, 0, none⟩) s.xs.length cap)) w (w1.setCell ⟨g, j, none⟩ (.int .i64 x)) := by
  rw [Mst.write_in hj]
  rw [Mst.touch_in (Mst.used_succ hj)] at h
  exact ⟨MemAt.stored (T := 70) (s := { s with count := wrap64 (s.count + 1) }) h (by decide) x, t.trans (Turned.setCell (R := Foot b (.slice (some ⟨g, 0, none⟩) s.xs.length cap)) w1 ⟨g, j, none⟩ _ (.inr rfl)) (fun _ e => .inl e) (fun _ _ e => e)⟩
theorem touched_d {w w1 : World} {b : Nat} {v : Value} (t : Turned (fun k => k = b) w w1) : Turned (Foot b v) w w1 := t.mono (fun _ _ e => .inl e)

/-- New, of a size that may be. -/
theorem new_d (w : World) (n : Int) (h0 : 1 ≤ n) (h1 : n ≤ 65536) :
    Calls Try.prog 18 #[.int .i64 n] w fun e w' => e = .returned (.tuple #[.pointer (some ⟨w.heap.size, 0, none⟩), .int .i64 0]) ∧ DMem w' w.heap.size w.heap.size (.slice none 0 0) (Mst.new n) ∧ Kept w w' ∧ w.heap.size < w'.heap.size := by
  have HN : Hid (DMem (w.alloc (.cells (layD (.slice none 0 0) n 0 0 0) 70)) w.heap.size w.heap.size (.slice none 0 0) (Mst.new n)) := hide ⟨Nat.le_refl _, heap_new w _, World.ownsRow_nil _ _ _ _, by show (0 : Int) ≤ n; omega, h1⟩
  go_enter Try.func18, Try.ntmps18
  go_wp2
  go_ret2
  exact ⟨rfl, HN.out, Turned.alloc _ _ _, by simp⟩
/-- New, of one that may not. -/
theorem new0_d (w : World) (n : Int) (h : ¬ (1 ≤ n ∧ n ≤ 65536)) :
    Calls Try.prog 18 #[.int .i64 n] w fun e w' => e = .returned (.tuple #[.pointer none, .int .i64 1]) ∧ w = w' := by
  by_cases h0 : 1 ≤ n
  · have h1 : 65536 < n := by omega
    clear h
    go_enter Try.func18, Try.ntmps18
    go_wp2
    go_ret2
    exact ⟨rfl, rfl⟩
  · have h1 : n < 1 := by omega
    clear h
    go_enter Try.func18, Try.ntmps18
    go_wp2
    go_ret2
    exact ⟨rfl, rfl⟩
end Go.Proofs.Ytgialpjdfeldeaa

/-! What Make of the document's memory answers, and what it turns, at a memory as it lies (DMem). -/
namespace Go.Proofs.Ytgialpjdfeldeaa
open Go.RowKit

theorem info2_d : (Try.prog.info? 2).map (fun i => (i.zero, i.size, i.bytes)) = some (some (.int .i64 0), 1, 8) := by kernel_rfl

/-- The store of the longer slice into the box. -/
theorem slice_d {w : World} {n₀ b : Nat} {v v' : Value} {s : Mst} {ys : List Int} (hle : n₀ ≤ b) (hb : w.heap[b]? = some (.cells (layD v s.size s.count s.odd s.ref) 70)) (hr : Row w n₀ 2 v' ys) (hne : v'.ownBlock ≠ some b) (h1 : (ys.length : Int) ≤ s.size) (h2 : s.size ≤ 65536) :
    DMem (w.setCell ⟨b, 1, none⟩ v') n₀ b v' { s with xs := ys } := by
  refine ⟨hle, by rw [box_set _ hb]; rfl, ?_, h1, h2⟩
  obtain ⟨r1, r2⟩ := hr
  refine ⟨r1, ?_⟩
  rcases r2 with r2 | ⟨g, cap, cur, rfl, hg, hh, r⟩
  · exact .inl r2
  · exact .inr ⟨g, cap, cur, rfl, hg, (Below.heap_setCell w ⟨b, 1, none⟩ _ g (fun e => hne (by rw [e]; rfl))).trans hh, r⟩

/-- What a Make leaves, behind its append. -/
theorem made_d {w w0 w1 : World} {n₀ b g cap m : Nat} {v : Value} {s : Mst} {ws : List Int} (h : DMem w0 n₀ b v s) (t : Turned (fun k => k = b) w w0) (hm : ws.length = m) (hfit : (s.xs.length : Int) + m ≤ s.size)
    (hown : w1.ownsRow n₀ 2 1 (.slice (some ⟨g, 0, none⟩) (s.xs.length + m) cap) (s.xs.length + m) (cellsOf s.xs ++ cellsOf ws)) (hg : w0.grownBy w1 v.ownBlock) (hat : v.ownBlock = some g ∨ g = w0.heap.size) :
    Does 70 layD n₀ b v { s with xs := s.xs ++ ws } w (w1.setCell ⟨b, 1, none⟩ (.slice (some ⟨g, 0, none⟩) (s.xs.length + m) cap)) := by
  obtain ⟨hb, hne, hr⟩ := h.appended (by decide) hm hown hg
  refine ⟨_, slice_d h.le hb hr (fun e => hne (by simpa [Value.ownBlock] using e)) (by rw [List.length_append, hm]; exact_mod_cast hfit) h.top, ?_, ?_⟩
  · exact (t.trans (Turned.of_grownBy (R := Foot b v) hg (fun k hk => .inr hk)) (fun _ e => .inl e) (fun _ _ e => e)).trans (Turned.setCell (R := Foot b v) w1 ⟨b, 1, none⟩ _ (.inl rfl)) (fun _ e => e) (fun _ _ e => e)
  · rintro k (rfl | hk)
    · exact .inl (.inl rfl)
    · obtain rfl : g = k := by simpa [Value.ownBlock] using hk
      rcases hat with e | e
      · exact .inl (.inr e)
      · exact .inr (by have := t.size; omega)

/-- The cells of a slice that reads as these numbers. -/
theorem news_d {w : World} {bl off : Nat} {ws : List Int} (h : ∀ j z, ws[j]? = some z → w.cell? ⟨bl, off + j, none⟩ = some (.int .i64 z)) : ∀ (j : Nat) (u : Value), (cellsOf ws)[j]? = some u → w.cell? ((⟨bl, off, none⟩ : Addr).add j) = some u := by
  intro j u hu
  have hadd : (⟨bl, off, none⟩ : Addr).add j = ⟨bl, off + j, none⟩ := by unfold Addr.add; split <;> simp_all
  rw [hadd]
  rw [cellsOf, List.getElem?_map] at hu
  cases hz : ws[j]? with
  | none => rw [hz] at hu; cases hu
  | some z =>
    rw [hz] at hu
    obtain rfl : Value.int .i64 z = u := by simpa using hu
    exact h j z hz

set_option maxRecDepth 4000 in
/-- Make -/
theorem make_d (w : World) (n₀ b : Nat) (v : Value) (s : Mst) (a : Option Addr) (ws : List Int) (cw : Nat) (h : DMem w n₀ b v s) (hn : n₀ ≤ w.heap.size) (hr : Reads w a ws) (hlw : ws.length ≤ maxLen) (hs : ws ≠ [] → ∀ ad, a = some ad → ad.block ≠ b) :
    Calls Try.prog 20 #[.pointer (some ⟨b, 0, none⟩), .slice a ws.length cw] w fun e w' => e = .returned (.tuple #[.int .i64 (s.next ws), .bool (s.fits ws.length)]) ∧ Does 70 layD n₀ b v (s.make ws) w w' := by
  obtain ⟨⟨c0, c1, c2, c3, c4⟩, f⟩ := h.opened
  have f2 := f 2
  have f4 := f 4
  have fc := f 1
  have hl := h.len
  have hroom := h.room
  have htop := h.top
  unfold maxLen at hlw
  have h1 := count_d h (wrap64 (s.count + 1))
  have H1 := hide h1
  have H2 := hide (ref_d h1 (wrap64 (s.ref + 1)))
  have T1 := hide (Turned.setCell (R := fun k => k = b) w ⟨b, 2, none⟩ (.int .i64 (wrap64 (s.count + 1))) rfl)
  obtain ⟨a0, cap, rfl, _⟩ := h.form
  rw [Mst.next, Mst.make]
  cases hf : s.fits ws.length with
  | false =>
    rw [if_neg (by simp), if_neg (by simp)]
    have HN : ¬ (0 < ws.length ∧ (s.xs.length : Int) + ws.length ≤ s.size) := fun e => by simp [Mst.fits, e.1, e.2] at hf
    have HD : Hid (∀ k, Does 70 layD n₀ b (.slice a0 s.xs.length cap) { s with count := wrap64 (s.count + 1), ref := wrap64 (s.ref + 1) } w (((w.setCell ⟨b, 2, none⟩ (.int .i64 (wrap64 (s.count + 1)))).drewN k).setCell ⟨b, 4, none⟩ (.int .i64 (wrap64 (s.ref + 1))))) := hide (fun k => Does.same (ref_d (h1.kept (Kept.drewN _ k)) (wrap64 (s.ref + 1)))
      ((T1.out.trans (Turned.drewN (fun _ => False) _ k) (fun _ e => e) (fun _ _ e => e.elim)).trans (Turned.setCell (R := fun k => k = b) _ ⟨b, 4, none⟩ _ rfl) (fun _ e => .inl e) (fun _ _ e => .inl e)))
    by_cases h0 : ws.length = 0
    · have n0 : ((ws.length : Int) == 0) = true := by simp [h0]
      clear h h1 f hr hs hf HN
      go_enter Try.func20, Try.ntmps20
      go_wp2
      go_quiet (fail)
      go_wp2
      go_ret2
      exact ⟨rfl, HD.out _⟩
    · have n0 : ((ws.length : Int) == 0) = false := by simp only [beq_eq_false_iff_ne, ne_eq]; omega
      have n1 : s.size - (s.xs.length : Int) < (ws.length : Int) := by omega
      clear h h1 f hr hs hf HN
      go_enter Try.func20, Try.ntmps20
      go_wp2
      go_quiet (fail)
      go_wp2
      go_ret2
      exact ⟨rfl, HD.out _⟩
  | true =>
    rw [if_pos rfl, if_pos rfl]
    obtain ⟨h0, h5⟩ : 0 < ws.length ∧ (s.xs.length : Int) + ws.length ≤ s.size := by simpa [Mst.fits] using hf
    have n0 : ((ws.length : Int) == 0) = false := by simp only [beq_eq_false_iff_ne, ne_eq]; omega
    have n1 : (ws.length : Int) ≤ s.size - (s.xs.length : Int) := by omega
    obtain ⟨bl, off, rfl, hrow⟩ : ∃ bl off, a = some ⟨bl, off, none⟩ ∧ ∀ j z, ws[j]? = some z → w.cell? ⟨bl, off + j, none⟩ = some (.int .i64 z) := by
      rcases hr with e | ⟨bl, off, e, hc⟩
      · rw [e] at h0
        simp at h0
      · exact ⟨bl, off, e, hc⟩
    have hbb : bl ≠ b := hs (List.length_pos_iff.1 h0) _ rfl
    have hrow1 : ∀ k, ∀ j z, ws[j]? = some z → ((w.setCell ⟨b, 2, none⟩ (.int .i64 (wrap64 (s.count + 1)))).drewN k).cell? ⟨bl, off + j, none⟩ = some (.int .i64 z) := fun k j z hz => T1.out.cell (hrow j z hz) hbb
    have HR := hide hrow1
    obtain ⟨i0, hi, hz0, hz1, hz2⟩ := info_parts info2_d
    obtain ⟨W, hW⟩ : ∃ W, w.setCell ⟨b, 2, none⟩ (.int .i64 (wrap64 (s.count + 1))) = W := ⟨_, rfl⟩
    rw [hW] at h1 T1 HR H1
    have d0 := h1.opened.1
    have g0 := h1.opened.2 1
    have d1 := d0.1
    have d2 := d0.2.1
    have HN := hide hn
    have HW := hide hW
    have zW := T1.out.size
    clear h f hr hs hf H2 hrow hrow1 d0 hn hW
    go_enter Try.func20, Try.ntmps20
    go_wp2_with (fail)
    rw [HW.out]
    go_quiet (fail)
    go_wp2_with (at_builtin; refine Stop.out ?_)
    refine ⟨?_⟩
    refine wpList_append_lies _ rfl _ _ 35 rfl n₀ 2 i0 (.int .i64 0) 1 8 Try.underlying35 hi hz0 hz1 hz2 rfl (by decide) (.slice a0 s.xs.length cap) s.xs.length (cellsOf s.xs) rfl h1.row ⟨bl, off, none⟩ ws.length cw (cellsOf ws) rfl (by simp) (news_d (HR.out _)) (ints_oneCell _ _) h0 (by unfold maxLen; omega) (by omega) (Nat.le_trans HN.out zW) W.heap.size rfl ?_
    intro g cap1 w1 hown hgrow' hat hlt
    have hgrow : W.grownBy w1 (Value.slice a0 s.xs.length cap).ownBlock := ⟨hgrow'.os, hgrow'.tape, hgrow'.output, hgrow'.size, hgrow'.block⟩
    clear hgrow'
    have HM := hide (made_d h1 T1.out rfl h5 hown hgrow hat)
    have hb1 := (h1.appended (by decide) rfl hown hgrow).1
    have e0 : w1.cell? ⟨b, 1, none⟩ = some (.slice a0 s.xs.length cap) := by simp [World.cell?, hb1, layD]
    have e1 : w1.frozen? ⟨b, 1, none⟩ = false := by simp [World.frozen?, hb1, layD]
    clear hown hgrow hat hb1 d1 d2 g0 h1
    go_wp2
    go_ret2
    exact ⟨rfl, HM.out⟩
end Go.Proofs.Ytgialpjdfeldeaa
