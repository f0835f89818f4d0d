/-
  What the proof of YtgialpjdfeldeaaPlantKnownProof goes by, part 3 of 3: contracts and plain facts; each part begins with its own sentence. No conditions beyond each theorem's own.
-/
import Derived.Test.YtgialpjdfeldeaaKa2
/-! What plant.Build answers at a memory that was made since w ('now_build'); the counts; what known answers, and PlantKnown. No conditions beyond each theorem's own. -/
namespace Go.Proofs.Ytgialpjdfeldeaa
open Go.RowKit
set_option maxRecDepth 20000

theorem count_n (w W : World) (b : Nat) (s : Mst) (r : Int) (h : Now w W b s) (e1 : s.count = r) : Calls Try.prog 13 #[.pointer (some ⟨b, 0, none⟩)] W fun e W' => e = .returned (.int .i64 r) ∧ W = W' := by
  obtain ⟨⟨v, h⟩, hk⟩ := h
  subst e1
  obtain ⟨⟨c0, c1, c2, c3, c4⟩, _⟩ := PMem.opened h
  clear h
  go_enter Try.func13, Try.ntmps13
  go_wp2
  go_ret
  exact ⟨rfl, rfl⟩
theorem refused_n (w W : World) (b : Nat) (s : Mst) (r : Int) (h : Now w W b s) (e1 : s.ref = r) : Calls Try.prog 12 #[.pointer (some ⟨b, 0, none⟩)] W fun e W' => e = .returned (.int .i64 r) ∧ W = W' := by
  obtain ⟨⟨v, h⟩, hk⟩ := h
  subst e1
  obtain ⟨⟨c0, c1, c2, c3, c4⟩, _⟩ := PMem.opened h
  clear h
  go_enter Try.func12, Try.ntmps12
  go_wp2
  go_ret
  exact ⟨rfl, rfl⟩
theorem odd_n (w W : World) (b : Nat) (s : Mst) (r : Int) (h : Now w W b s) (e1 : s.odd = r) : Calls Try.prog 37 #[.pointer (some ⟨b, 0, none⟩)] W fun e W' => e = .returned (.int .i64 r) ∧ W = W' := by
  obtain ⟨⟨v, h⟩, hk⟩ := h
  subst e1
  obtain ⟨⟨c0, c1, c2, c3, c4⟩, _⟩ := PMem.opened h
  clear h
  go_enter Try.func37, Try.ntmps37
  go_wp2
  go_ret
  exact ⟨rfl, rfl⟩
/-- A new block of these pairs. -/
theorem preads_lit (W : World) (ps : List (Int × Int)) (T : TypeId) : PReads (W.alloc (.cells (flat ps).toArray T)) (some ⟨W.heap.size, 0, none⟩) ps := by
  refine .inr ⟨_, 0, rfl, fun j p hp => ?_⟩
  have hb : (W.alloc (.cells (flat ps).toArray T)).heap[W.heap.size]? = some (.cells (flat ps).toArray T) := heap_new W _
  obtain ⟨h1, h2⟩ := flat_at hp
  unfold World.cell?
  rw [hb]
  simp [h1, h2]
/-- Build, at a memory made since w. -/
theorem now_build (w W : World) (b : Nat) (s : Mst) (a : Option Addr) (ps : List (Int × Int)) (M cap : Nat) (h : Now w W b s) (hr : PReads W a ps) (hM : ps.length = M) (hc : M ≤ cap) (hcm : cap ≤ maxLen) (ha : ∀ v, PMem W w.heap.size b v s → ∀ ad, a = some ad → ¬ Foot b v ad.block) (z : Int) (r : Bool) (s' : Mst) (e1 : buildS s ps = ((z, r), s')) :
    Calls Try.prog 11 #[.pointer (some ⟨b, 0, none⟩), .slice a M cap] W fun e W' => e = .returned (.tuple #[.int .i64 z, .bool r]) ∧ Now w W' b s' := by
  obtain ⟨⟨v, h⟩, hk⟩ := h
  exact (build_p W w.heap.size b v s a ps M cap h hk.size hr hM hc hcm (ha v h) z r s' e1).mono fun _ _ ⟨h1, h2⟩ => ⟨h1, Now.did h hk h2⟩
/-- .. of a literal. -/
theorem now_blit (w W : World) (b : Nat) (s : Mst) (ps : List (Int × Int)) (M : Nat) (h : Now w W b s) (hM : ps.length = M) (hl : M ≤ 100) (z : Int) (r : Bool) (s' : Mst) (e1 : buildS s ps = ((z, r), s')) :
    Calls Try.prog 11 #[.pointer (some ⟨b, 0, none⟩), .slice (some ⟨W.heap.size, 0, none⟩) M M] (W.alloc (.cells (flat ps).toArray 30)) fun e W' => e = .returned (.tuple #[.int .i64 z, .bool r]) ∧ Now w W' b s' := by
  obtain ⟨⟨v, h0⟩, hk⟩ := id h
  refine now_build w _ b s _ ps M M (h.on (Turned.alloc _ _ _)) (preads_lit W ps 30) hM (Nat.le_refl _) (by unfold maxLen; omega) (fun v' h' ad e hf => ?_) z r s' e1
  cases e
  have e1 := PMem.opened h0
  have e2 := PMem.opened (h0.kept (Turned.alloc (fun _ => False) W (.cells (flat ps).toArray 30)))
  have e3 := PMem.opened h'
  have : v = v' := by
    have := e2.1.1.symm.trans e3.1.1
    exact Option.some.inj this
  subst this
  have := (h0.lt _ hf).2
  simp only at this
  omega

theorem kn_1 : buildS (Mst.new 64) [(1, 10), (2, 20), (3, 30)] = ((123, true), ⟨[1, 10, 2, 20, 2, 2, 0, 0, 0, 2, 10, 26, 3, 30, 2, 3, 0, 0, 0, 3, 43, 106], 64, 5, 0, 0⟩) := by kernel_rfl
theorem known_c (w : World) : Calls Try.prog 10 #[] w fun e w' => e = .returned (.bool true) ∧ Kept w w' := by
  go_enter Try.func10, Try.ntmps10
  go_wp2_with (fail)
  refine (now_new w w 64 (Kept.refl w) (by decide) (by decide)).mono ?_
  rintro e W1 ⟨rfl, h1, -⟩
  have H1 := hide h1
  clear h1
  go_wp2_with (fail)
  refine (now_blit w W1 _ _ [(1, 10), (2, 20), (3, 30)] 3 H1.out rfl (by decide) _ _ _ kn_1).mono ?_
  rintro e W2 ⟨rfl, h2⟩
  have H2 := hide h2
  clear h2 H1
  go_wp2_with (fail)
  refine (now_used w W2 _ _ 22 H2.out rfl).mono ?_
  rintro e W3 ⟨rfl, rfl⟩
  go_wp2_with (fail)
  refine (now_cells w W2 _ _ H2.out).mono ?_
  rintro e W3 ⟨a, cap, rfl, hr, hc, hm, -, -, hk⟩
  have HW := hide (words_lit W3 a _ cap hr hc hm)
  have HK := hide (H2.out.2.trans hk)
  clear hr hc hm hk H2
  go_wp2_with (fail)
  refine HW.out.mono ?_
  rintro e W4 ⟨rfl, k4⟩
  have K4 := hide (HK.out.trans k4)
  clear k4
  go_wp2
  go_ret
  exact ⟨rfl, K4.out⟩

theorem kn_2 : buildS (Mst.new 3) [(1, 0), (1, 0)] = ((0, false), ⟨[], 3, 0, 0, 0⟩) := by kernel_rfl
theorem kn_3 : buildS ⟨[], 3, 0, 0, 0⟩ [(1, 0), (2, 0)] = ((0, false), ⟨[], 3, 0, 0, 0⟩) := by kernel_rfl
theorem kn_4 : buildS ⟨[], 3, 0, 0, 0⟩ [(-9223372036854775808, 4)] = ((10, true), ⟨[-9223372036854775808, 4], 3, 1, 0, 0⟩) := by kernel_rfl
theorem kn_5 : buildS ⟨[-9223372036854775808, 4], 3, 1, 0, 0⟩ [] = ((25, true), ⟨[-9223372036854775808, 4, 0], 3, 2, 0, 0⟩) := by kernel_rfl
theorem kn_6 : buildS ⟨[-9223372036854775808, 4, 0], 3, 2, 0, 0⟩ [] = ((0, false), ⟨[-9223372036854775808, 4, 0], 3, 2, 0, 0⟩) := by kernel_rfl
theorem now_bnil (w W : World) (b : Nat) (s : Mst) (h : Now w W b s) (z : Int) (r : Bool) (s' : Mst) (e1 : buildS s [] = ((z, r), s')) :
    Calls Try.prog 11 #[.pointer (some ⟨b, 0, none⟩), .slice none 0 0] W fun e W' => e = .returned (.tuple #[.int .i64 z, .bool r]) ∧ Now w W' b s' :=
  now_build w W b s none [] 0 0 h (.inl rfl) rfl (Nat.le_refl _) (Nat.zero_le _) (fun _ _ _ e => by cases e) z r s' e1
theorem plantKnown_c (w : World) : Calls Try.prog 3 #[] w fun e w' => e = .returned (.bool true) ∧ Kept w w' := by
  go_enter Try.func3, Try.ntmps3
  go_wp2_with (fail)
  refine (now_new w w 3 (Kept.refl w) (by decide) (by decide)).mono ?_
  rintro e W1 ⟨rfl, h1, -⟩
  have H1 := hide h1
  clear h1
  go_wp2_with (fail)
  refine (known_c _).mono ?_
  rintro e W2 ⟨rfl, k2⟩
  have H2 := hide (H1.out.on k2)
  clear k2 H1
  go_wp2_with (fail)
  refine (now_blit w W2 _ _ [(1, 0), (1, 0)] 2 H2.out rfl (by decide) _ _ _ kn_2).mono ?_
  rintro e W3 ⟨rfl, h3⟩
  have H3 := hide h3
  clear h3 H2
  go_wp2_with (fail)
  refine (now_blit w W3 _ _ [(1, 0), (2, 0)] 2 H3.out rfl (by decide) _ _ _ kn_3).mono ?_
  rintro e W4 ⟨rfl, h4⟩
  have H4 := hide h4
  clear h4 H3
  go_wp2_with (fail)
  refine (now_blit w W4 _ _ [(-9223372036854775808, 4)] 1 H4.out rfl (by decide) _ _ _ kn_4).mono ?_
  rintro e W5 ⟨rfl, h5⟩
  have H5 := hide h5
  clear h5 H4
  go_wp2_with (fail)
  refine (now_bnil w W5 _ _ H5.out _ _ _ kn_5).mono ?_
  rintro e W6 ⟨rfl, h6⟩
  have H6 := hide h6
  clear h6 H5
  go_wp2_with (fail)
  refine (now_bnil w W6 _ _ H6.out _ _ _ kn_6).mono ?_
  rintro e W7 ⟨rfl, h7⟩
  have H7 := hide h7
  clear h7 H6
  go_wp2_with (fail)
  refine (refused_n w W7 _ _ 0 H7.out rfl).mono ?_
  rintro e W ⟨rfl, rfl⟩
  go_wp2_with (fail)
  refine (count_n w W7 _ _ 2 H7.out rfl).mono ?_
  rintro e W ⟨rfl, rfl⟩
  go_wp2_with (fail)
  refine (right_p W7 none [] 0 0 (.inl rfl) rfl (Nat.le_refl _) (Nat.zero_le _) true (by kernel_rfl)).mono ?_
  rintro e W8 ⟨rfl, k8⟩
  have H8 := hide (H7.out.on k8)
  clear k8 H7
  go_wp2_with (fail)
  refine (right_p _ _ [(2, 0), (1, 0)] 2 2 (preads_lit W8 [(2, 0), (1, 0)] 30) rfl (Nat.le_refl _) (by decide) false (by kernel_rfl)).mono ?_
  rintro e W9 ⟨rfl, k9⟩
  have H9 := hide (H8.out.on (((Kept.refl W8).alloc _).trans k9))
  clear k9 H8
  go_wp2_with (fail)
  refine (now_cells w W9 _ _ H9.out).mono ?_
  rintro e WA ⟨a, cap, rfl, hr, hc, hm, -, -, hk⟩
  have HW := hide (words_lit WA a _ cap hr hc hm)
  have HK := hide (H9.out.2.trans hk)
  clear hr hc hm hk H9
  go_wp2_with (fail)
  refine HW.out.mono ?_
  rintro e WB ⟨rfl, k4⟩
  have K4 := hide (HK.out.trans k4)
  clear k4
  go_wp2
  go_ret
  exact ⟨rfl, K4.out⟩
end Go.Proofs.Ytgialpjdfeldeaa
