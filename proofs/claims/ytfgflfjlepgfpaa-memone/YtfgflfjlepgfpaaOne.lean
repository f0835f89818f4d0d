/-
  What MemOne answers: true; nothing that lay is turned.
-/
import Derived.Test.YtfgflfjlepgfpaaFrame
import Derived.Test.YtfgflfjlepgfpaaApart
namespace Go.Proofs.Ytfgflfjlepgfpaa
open Go.RowKit

/-- The states behind one access. -/
theorem one_write {zs : List Int} {j : Nat} (hj : j < zs.length) (x : Int) : (Mst.mk zs 300 1 0 0).write (1 + (j : Int)) x = ⟨zs.set j x, 300, 2, 0, 0⟩ := by rw [Int.add_comm, Mst.write_in hj]; simp [wrap64]
theorem one_look {zs : List Int} {j : Nat} {z : Int} (hz : zs[j]? = some z) : (Mst.mk zs 300 1 0 0).look (1 + (j : Int)) = z := by rw [Int.add_comm]; exact Mst.look_succ hz
theorem one_did {zs : List Int} {j : Nat} {z : Int} (hz : zs[j]? = some z) (y : Int) : (Mst.mk zs 300 1 0 0).did (1 + (j : Int)) y = (z == y) := by rw [Int.add_comm]; exact Mst.did_in hz y
theorem set_same {zs : List Int} {j : Nat} {z : Int} (hz : zs[j]? = some z) : zs.set j z = zs := by
  obtain ⟨h, e⟩ := List.getElem?_eq_some_iff.1 hz
  rw [← e]
  exact List.set_getElem_self h
theorem one_cas {zs : List Int} {j : Nat} {z : Int} (hz : zs[j]? = some z) (y x u : Int) (hu : u = if (z == y) = true then x else z) : (Mst.mk zs 300 1 0 0).cas (1 + (j : Int)) y x = ⟨zs.set j u, 300, 2, 0, 0⟩ := by
  have hj := (List.getElem?_eq_some_iff.1 hz).1
  rw [Mst.cas, one_did hz, hu]
  cases h : z == y with
  | true => rw [if_pos rfl, if_pos rfl]; exact one_write hj x
  | false =>
    rw [if_neg (by simp), if_neg (by simp), set_same hz, Int.add_comm, Mst.touch_in (Mst.used_succ hj)]
    simp [wrap64]

set_option maxRecDepth 100000 in
set_option maxHeartbeats 4000000 in
theorem memOne_c (w : World) (a0 : Option Addr) (zs : List Int) (cap : Nat) (kind A : Int) (near : Bool) (X Y : Int) (aw : Option Addr) (ws : List Int) (cw : Nat) (hr : Reads w a0 zs) (hc : zs.length ≤ cap) (hm : cap ≤ maxLen) (hcw : ws.length ≤ cw) (hmw : cw ≤ maxLen) :
    Calls Try.prog 7 #[.slice a0 zs.length cap, .agg #[.int .i64 kind, .int .i64 A, .bool near, .int .i64 X, .int .i64 Y, .slice aw ws.length cw]] w fun e w' => e = .returned (.bool true) ∧ Kept w w' := by
  have hlm : (zs.length : Int) ≤ 9223372036854775807 := by unfold maxLen at hm; omega
  have hlw : (ws.length : Int) ≤ 9223372036854775807 := by unfold maxLen at hmw; omega
  obtain ⟨W, hW⟩ : ∃ W, w.alloc (.cells #[.int .i64 kind, .int .i64 A, .bool near, .int .i64 X, .int .i64 Y, .slice aw ws.length cw] 39) = W := ⟨_, rfl⟩
  have k0 : Kept w W := by rw [← hW]; exact Turned.alloc _ _ _
  have hbox : W.heap[w.heap.size]? = some (.cells #[.int .i64 kind, .int .i64 A, .bool near, .int .i64 X, .int .i64 Y, .slice aw ws.length cw] 39) := by rw [← hW]; exact heap_new w _
  have zW : W.heap.size = w.heap.size + 1 := by rw [← hW]; simp
  have HW := hide hW
  have K0 := hide k0
  clear hW
  by_cases hbad : zs = [] ∨ 100 < zs.length ∨ 100 < ws.length
  · clear hbox zW hr hc hm hcw hmw
    have fin : Calls Try.prog 12 #[] W fun e w' => e = .returned (.bool true) ∧ Kept w w' := (known_c W).mono fun _ _ h => ⟨h.1, k0.trans h.2⟩
    clear k0
    by_cases h0 : zs = []
    · have n0 : ((zs.length : Int) == 0) = true := by simp [h0]
      clear hbad
      go_enter Try.func7, Try.ntmps7
      go_wp2_with (fail)
      rw [HW.out]
      refine fin.mono ?_
      rintro e W1 ⟨rfl, hk⟩
      have HK := hide hk
      clear hk
      go_wp2
      go_ret
      exact ⟨rfl, HK.out⟩
    · have n0 : ((zs.length : Int) == 0) = false := by simp only [beq_eq_false_iff_ne, ne_eq]; have := List.length_pos_iff.2 h0; omega
      by_cases h1 : 100 < zs.length
      · have n1 : (100 : Int) < (zs.length : Int) := by omega
        clear hbad
        go_enter Try.func7, Try.ntmps7
        go_wp2_with (fail)
        rw [HW.out]
        refine fin.mono ?_
        rintro e W1 ⟨rfl, hk⟩
        have HK := hide hk
        clear hk
        go_wp2
        go_ret
        exact ⟨rfl, HK.out⟩
      · have n1 : (zs.length : Int) ≤ 100 := by omega
        have n3 : 100 < ws.length := (hbad.resolve_left h0).resolve_left h1
        have n2 : (100 : Int) < (ws.length : Int) := by omega
        clear hbad h1
        go_enter Try.func7, Try.ntmps7
        go_wp2_with (fail)
        rw [HW.out]
        refine fin.mono ?_
        rintro e W1 ⟨rfl, hk⟩
        have HK := hide hk
        clear hk
        go_wp2
        go_ret
        exact ⟨rfl, HK.out⟩
  have h0 : zs ≠ [] := fun e => hbad (.inl e)
  have hp : 0 < zs.length := List.length_pos_iff.2 h0
  have i1 : (zs.length : Int) ≤ 100 := by have : ¬ 100 < zs.length := fun e => hbad (.inr (.inl e)); omega
  have i2 : (ws.length : Int) ≤ 100 := by have : ¬ 100 < ws.length := fun e => hbad (.inr (.inr e)); omega
  have n0 : ((zs.length : Int) == 0) = false := by simp only [beq_eq_false_iff_ne, ne_eq]; omega
  clear hbad
  obtain ⟨hmk, -⟩ := make_full zs 300 h0 (by omega)
  obtain ⟨j, hj, -, HJ⟩ := cut_k A zs.length (by omega) (by omega)
  obtain ⟨q, hq, -, HQ⟩ := cut_k kind 4 (by omega) (by omega)
  have hj' : j < zs.length := by omega
  obtain ⟨z, hz⟩ : ∃ z, zs[j]? = some z := ⟨_, List.getElem?_eq_getElem hj'⟩
  have box : ∀ V, Kept W V → V.cell? ⟨w.heap.size, 0, none⟩ = some (.int .i64 kind) ∧ V.cell? ⟨w.heap.size, 1, none⟩ = some (.int .i64 A) ∧ V.cell? ⟨w.heap.size, 3, none⟩ = some (.int .i64 X) ∧ V.cell? ⟨w.heap.size, 4, none⟩ = some (.int .i64 Y) := fun V k => by
    have := k.heap hbox id
    simp [World.cell?, this]
  have HB := hide box
  have HR := hide (hr.kept K0.out)
  have HMK := hide hmk
  have HC := hide hc
  have HM := hide hm
  have HZ := hide hz
  clear hr hmk hc hm hz h0 box hbox hcw hmw zW k0
  have wj : IntKind.i64.wrap (1 + (j : Int) - 1) = (j : Int) := by
    rw [IntKind.wrap_i64]
    omega
  have e4 : q = 0 ∨ q = 1 ∨ q = 2 ∨ q = 3 := by omega
  clear hq
  rcases e4 with rfl | rfl | rfl | rfl
  · skip
    go_enter Try.func7, Try.ntmps7
    go_wp2_with (fail)
    rw [HW.out]
    refine (now_new W W 300 (Kept.refl W) (by decide) (by decide)).mono ?_
    rintro e W1 ⟨rfl, h1, -⟩
    have H1 := hide h1
    clear h1
    go_wp2_with (fail)
    refine (now_put W W1 W.heap.size _ _ zs cap _ _ ⟨zs, 300, 1, 0, 0⟩ H1.out HR.out (by have := HC.out; have := HM.out; omega) rfl rfl HMK.out).mono ?_
    rintro e W2 ⟨rfl, h2⟩
    obtain ⟨c0, c1, c3, c4⟩ := HB.out W2 h2.2
    have H2 := hide h2
    clear h2 H1
    go_wp2_with (fail)
    refine (HJ _).mono ?_
    rintro e w' ⟨rfl, rfl⟩
    go_wp2_with (fail)
    refine (now_look W W2 W.heap.size _ (1 + (j : Int)) z H2.out (one_look HZ.out)).mono ?_
    rintro e w' ⟨rfl, rfl⟩
    go_wp2_with (fail)
    refine (HQ _).mono ?_
    rintro e w' ⟨rfl, rfl⟩
    go_wp2_with (fail)
    refine (now_write W W2 W.heap.size _ (1 + (j : Int)) X _ H2.out (one_write hj' X)).mono ?_
    rintro e W3 ⟨rfl, h3⟩
    have H3 := hide h3
    clear h3
    obtain ⟨b0, b1, b3, b4⟩ := HB.out W3 H3.out.2
    clear H2 c0 c1 c3 c4
    go_wp2_with (fail)
    refine (now_cells W W3 W.heap.size _ H3.out).mono ?_
    rintro e W4 ⟨a4, cap4, rfl, hr4, hc4, hm4, -, -, hk⟩
    have H4 := hide (H3.out.on hk)
    have hl4 : (Mst.mk (zs.set j (X)) 300 2 0 0).xs.length = zs.length := by simp
    rw [hl4]
    have HR4 : Hid (Reads W4 a4 (zs.set j (X))) := hide hr4
    have hc5 : zs.length ≤ cap4 := by rw [← hl4]; exact hc4
    clear hr4 hc4 hm4 hl4 hk H3 b0 b1 b3 b4
    go_wp2
    go_loopw [12] (fun i wr => ∃ (t d : Nat), t ≤ zs.length ∧ i = .int .i64 (t : Int) ∧ wr = W4.drewN d) (fun i _ => zs.length - (intOf i).toNat)
    case atStart => exact ⟨0, 0, Nat.zero_le _, rfl, rfl⟩
    case round =>
      obtain ⟨t, d, ht, rfl, rfl⟩ := hrel
      by_cases hlt : t < zs.length
      · obtain ⟨x, hx⟩ : ∃ x, zs[t]? = some x := ⟨_, List.getElem?_eq_getElem hlt⟩
        have i3 : (t : Int) < (zs.length : Int) := by omega
        have i4 : t < cap := by have := HC.out; omega
        have i5 : t < cap4 := by omega
        by_cases htj : t = j
        · subst htj
          obtain ⟨bl, off, rfl, _, g1⟩ := HR4.out.at (show (zs.set t (X))[t]? = some (X) by simp [hj'])
          have n1 : ((t : Int) == (t : Int)) = true := by simp
          clear hx
          go_wp2
          go_quiet (fail)
          go_wp2
          exact ⟨⟨t + 1, _, by omega, by simp, rfl⟩, by simp [intOf]; omega⟩
        · obtain ⟨bl, off, rfl, _, g1⟩ := HR4.out.at (show (zs.set j (X))[t]? = some x by rw [List.getElem?_set_ne (by omega)]; exact hx)
          obtain ⟨bl', off', rfl, _, g2⟩ := (HR.out.kept H4.out.2).at hx
          have n1 : ((t : Int) == (j : Int)) = false := by simp only [beq_eq_false_iff_ne, ne_eq]; omega
          have n2 : ((t : Int) != (j : Int)) = true := by simp only [bne, n1]; rfl
          have n3 : (t == j) = false := by simp only [beq_eq_false_iff_ne, ne_eq]; exact htj
          have n4 : decide ((t : Int) = (j : Int)) = false := by simp only [decide_eq_false_iff_not]; omega
          have n5 : decide (t = j) = false := by simp only [decide_eq_false_iff_not]; exact htj
          clear hx
          go_wp2
          go_quiet (fail)
          go_wp2
          exact ⟨⟨t + 1, _, by omega, by simp, rfl⟩, by simp [intOf]; omega⟩
      · have i3 : ¬ ((t : Int) < (zs.length : Int)) := by omega
        go_wp2_with (fail)
        refine (known_c _).mono ?_
        rintro e W5 ⟨rfl, hk⟩
        have H5 := hide (H4.out.on ((Kept.drewN W4 d).trans hk))
        clear hk
        go_wp2_with (fail)
        refine (now_count W W5 W.heap.size _ 2 H5.out rfl).mono ?_
        rintro e w' ⟨rfl, rfl⟩
        go_wp2
        go_ret
        exact ⟨rfl, K0.out.trans H5.out.2⟩
  · cases hoo : z == Y with
    | true =>
      have ho : (z == Y) = true := hoo
      go_enter Try.func7, Try.ntmps7
      go_wp2_with (fail)
      rw [HW.out]
      refine (now_new W W 300 (Kept.refl W) (by decide) (by decide)).mono ?_
      rintro e W1 ⟨rfl, h1, -⟩
      have H1 := hide h1
      clear h1
      go_wp2_with (fail)
      refine (now_put W W1 W.heap.size _ _ zs cap _ _ ⟨zs, 300, 1, 0, 0⟩ H1.out HR.out (by have := HC.out; have := HM.out; omega) rfl rfl HMK.out).mono ?_
      rintro e W2 ⟨rfl, h2⟩
      obtain ⟨c0, c1, c3, c4⟩ := HB.out W2 h2.2
      have H2 := hide h2
      clear h2 H1
      go_wp2_with (fail)
      refine (HJ _).mono ?_
      rintro e w' ⟨rfl, rfl⟩
      go_wp2_with (fail)
      refine (now_look W W2 W.heap.size _ (1 + (j : Int)) z H2.out (one_look HZ.out)).mono ?_
      rintro e w' ⟨rfl, rfl⟩
      go_wp2_with (fail)
      refine (HQ _).mono ?_
      rintro e w' ⟨rfl, rfl⟩
      go_wp2_with (fail)
      refine (now_cas W W2 W.heap.size _ (1 + (j : Int)) Y X true _ H2.out ((one_did HZ.out Y).trans ho) (one_cas HZ.out Y X X (by rw [ho]; rfl))).mono ?_
      rintro e W3 ⟨rfl, h3⟩
      have H3 := hide h3
      clear h3
      obtain ⟨b0, b1, b3, b4⟩ := HB.out W3 H3.out.2
      clear H2 c0 c1 c3 c4
      go_wp2_with (fail)
      refine (now_cells W W3 W.heap.size _ H3.out).mono ?_
      rintro e W4 ⟨a4, cap4, rfl, hr4, hc4, hm4, -, -, hk⟩
      have H4 := hide (H3.out.on hk)
      have hl4 : (Mst.mk (zs.set j (X)) 300 2 0 0).xs.length = zs.length := by simp
      rw [hl4]
      have HR4 : Hid (Reads W4 a4 (zs.set j (X))) := hide hr4
      have hc5 : zs.length ≤ cap4 := by rw [← hl4]; exact hc4
      clear hr4 hc4 hm4 hl4 hk H3 b0 b1 b3 b4
      go_wp2
      go_loopw [12] (fun i wr => ∃ (t d : Nat), t ≤ zs.length ∧ i = .int .i64 (t : Int) ∧ wr = W4.drewN d) (fun i _ => zs.length - (intOf i).toNat)
      case atStart => exact ⟨0, 0, Nat.zero_le _, rfl, rfl⟩
      case round =>
        obtain ⟨t, d, ht, rfl, rfl⟩ := hrel
        by_cases hlt : t < zs.length
        · obtain ⟨x, hx⟩ : ∃ x, zs[t]? = some x := ⟨_, List.getElem?_eq_getElem hlt⟩
          have i3 : (t : Int) < (zs.length : Int) := by omega
          have i4 : t < cap := by have := HC.out; omega
          have i5 : t < cap4 := by omega
          by_cases htj : t = j
          · subst htj
            obtain ⟨bl, off, rfl, _, g1⟩ := HR4.out.at (show (zs.set t (X))[t]? = some (X) by simp [hj'])
            have n1 : ((t : Int) == (t : Int)) = true := by simp
            clear hx
            go_wp2
            go_quiet (fail)
            go_wp2
            exact ⟨⟨t + 1, _, by omega, by simp, rfl⟩, by simp [intOf]; omega⟩
          · obtain ⟨bl, off, rfl, _, g1⟩ := HR4.out.at (show (zs.set j (X))[t]? = some x by rw [List.getElem?_set_ne (by omega)]; exact hx)
            obtain ⟨bl', off', rfl, _, g2⟩ := (HR.out.kept H4.out.2).at hx
            have n1 : ((t : Int) == (j : Int)) = false := by simp only [beq_eq_false_iff_ne, ne_eq]; omega
            have n2 : ((t : Int) != (j : Int)) = true := by simp only [bne, n1]; rfl
            have n3 : (t == j) = false := by simp only [beq_eq_false_iff_ne, ne_eq]; exact htj
            have n4 : decide ((t : Int) = (j : Int)) = false := by simp only [decide_eq_false_iff_not]; omega
            have n5 : decide (t = j) = false := by simp only [decide_eq_false_iff_not]; exact htj
            clear hx
            go_wp2
            go_quiet (fail)
            go_wp2
            exact ⟨⟨t + 1, _, by omega, by simp, rfl⟩, by simp [intOf]; omega⟩
        · have i3 : ¬ ((t : Int) < (zs.length : Int)) := by omega
          go_wp2_with (fail)
          refine (known_c _).mono ?_
          rintro e W5 ⟨rfl, hk⟩
          have H5 := hide (H4.out.on ((Kept.drewN W4 d).trans hk))
          clear hk
          go_wp2_with (fail)
          refine (now_count W W5 W.heap.size _ 2 H5.out rfl).mono ?_
          rintro e w' ⟨rfl, rfl⟩
          go_wp2
          go_ret
          exact ⟨rfl, K0.out.trans H5.out.2⟩
    | false =>
      have ho : (z == Y) = false := hoo
      go_enter Try.func7, Try.ntmps7
      go_wp2_with (fail)
      rw [HW.out]
      refine (now_new W W 300 (Kept.refl W) (by decide) (by decide)).mono ?_
      rintro e W1 ⟨rfl, h1, -⟩
      have H1 := hide h1
      clear h1
      go_wp2_with (fail)
      refine (now_put W W1 W.heap.size _ _ zs cap _ _ ⟨zs, 300, 1, 0, 0⟩ H1.out HR.out (by have := HC.out; have := HM.out; omega) rfl rfl HMK.out).mono ?_
      rintro e W2 ⟨rfl, h2⟩
      obtain ⟨c0, c1, c3, c4⟩ := HB.out W2 h2.2
      have H2 := hide h2
      clear h2 H1
      go_wp2_with (fail)
      refine (HJ _).mono ?_
      rintro e w' ⟨rfl, rfl⟩
      go_wp2_with (fail)
      refine (now_look W W2 W.heap.size _ (1 + (j : Int)) z H2.out (one_look HZ.out)).mono ?_
      rintro e w' ⟨rfl, rfl⟩
      go_wp2_with (fail)
      refine (HQ _).mono ?_
      rintro e w' ⟨rfl, rfl⟩
      go_wp2_with (fail)
      refine (now_cas W W2 W.heap.size _ (1 + (j : Int)) Y X false _ H2.out ((one_did HZ.out Y).trans ho) (one_cas HZ.out Y X z (by rw [ho]; rfl))).mono ?_
      rintro e W3 ⟨rfl, h3⟩
      have H3 := hide h3
      clear h3
      obtain ⟨b0, b1, b3, b4⟩ := HB.out W3 H3.out.2
      clear H2 c0 c1 c3 c4
      go_wp2_with (fail)
      refine (now_cells W W3 W.heap.size _ H3.out).mono ?_
      rintro e W4 ⟨a4, cap4, rfl, hr4, hc4, hm4, -, -, hk⟩
      have H4 := hide (H3.out.on hk)
      have hl4 : (Mst.mk (zs.set j (z)) 300 2 0 0).xs.length = zs.length := by simp
      rw [hl4]
      have HR4 : Hid (Reads W4 a4 (zs.set j (z))) := hide hr4
      have hc5 : zs.length ≤ cap4 := by rw [← hl4]; exact hc4
      clear hr4 hc4 hm4 hl4 hk H3 b0 b1 b3 b4
      go_wp2
      go_loopw [12] (fun i wr => ∃ (t d : Nat), t ≤ zs.length ∧ i = .int .i64 (t : Int) ∧ wr = W4.drewN d) (fun i _ => zs.length - (intOf i).toNat)
      case atStart => exact ⟨0, 0, Nat.zero_le _, rfl, rfl⟩
      case round =>
        obtain ⟨t, d, ht, rfl, rfl⟩ := hrel
        by_cases hlt : t < zs.length
        · obtain ⟨x, hx⟩ : ∃ x, zs[t]? = some x := ⟨_, List.getElem?_eq_getElem hlt⟩
          have i3 : (t : Int) < (zs.length : Int) := by omega
          have i4 : t < cap := by have := HC.out; omega
          have i5 : t < cap4 := by omega
          by_cases htj : t = j
          · subst htj
            obtain ⟨bl, off, rfl, _, g1⟩ := HR4.out.at (show (zs.set t (z))[t]? = some (z) by simp [hj'])
            have n1 : ((t : Int) == (t : Int)) = true := by simp
            clear hx
            go_wp2
            go_quiet (fail)
            go_wp2
            exact ⟨⟨t + 1, _, by omega, by simp, rfl⟩, by simp [intOf]; omega⟩
          · obtain ⟨bl, off, rfl, _, g1⟩ := HR4.out.at (show (zs.set j (z))[t]? = some x by rw [List.getElem?_set_ne (by omega)]; exact hx)
            obtain ⟨bl', off', rfl, _, g2⟩ := (HR.out.kept H4.out.2).at hx
            have n1 : ((t : Int) == (j : Int)) = false := by simp only [beq_eq_false_iff_ne, ne_eq]; omega
            have n2 : ((t : Int) != (j : Int)) = true := by simp only [bne, n1]; rfl
            have n3 : (t == j) = false := by simp only [beq_eq_false_iff_ne, ne_eq]; exact htj
            have n4 : decide ((t : Int) = (j : Int)) = false := by simp only [decide_eq_false_iff_not]; omega
            have n5 : decide (t = j) = false := by simp only [decide_eq_false_iff_not]; exact htj
            clear hx
            go_wp2
            go_quiet (fail)
            go_wp2
            exact ⟨⟨t + 1, _, by omega, by simp, rfl⟩, by simp [intOf]; omega⟩
        · have i3 : ¬ ((t : Int) < (zs.length : Int)) := by omega
          go_wp2_with (fail)
          refine (known_c _).mono ?_
          rintro e W5 ⟨rfl, hk⟩
          have H5 := hide (H4.out.on ((Kept.drewN W4 d).trans hk))
          clear hk
          go_wp2_with (fail)
          refine (now_count W W5 W.heap.size _ 2 H5.out rfl).mono ?_
          rintro e w' ⟨rfl, rfl⟩
          go_wp2
          go_ret
          exact ⟨rfl, K0.out.trans H5.out.2⟩
  · skip
    go_enter Try.func7, Try.ntmps7
    go_wp2_with (fail)
    rw [HW.out]
    refine (now_new W W 300 (Kept.refl W) (by decide) (by decide)).mono ?_
    rintro e W1 ⟨rfl, h1, -⟩
    have H1 := hide h1
    clear h1
    go_wp2_with (fail)
    refine (now_put W W1 W.heap.size _ _ zs cap _ _ ⟨zs, 300, 1, 0, 0⟩ H1.out HR.out (by have := HC.out; have := HM.out; omega) rfl rfl HMK.out).mono ?_
    rintro e W2 ⟨rfl, h2⟩
    obtain ⟨c0, c1, c3, c4⟩ := HB.out W2 h2.2
    have H2 := hide h2
    clear h2 H1
    go_wp2_with (fail)
    refine (HJ _).mono ?_
    rintro e w' ⟨rfl, rfl⟩
    go_wp2_with (fail)
    refine (now_look W W2 W.heap.size _ (1 + (j : Int)) z H2.out (one_look HZ.out)).mono ?_
    rintro e w' ⟨rfl, rfl⟩
    go_wp2_with (fail)
    refine (HQ _).mono ?_
    rintro e w' ⟨rfl, rfl⟩
    go_wp2_with (fail)
    refine (now_add W W2 W.heap.size _ (1 + (j : Int)) X z ⟨zs.set j (wrap64 (z + X)), 300, 2, 0, 0⟩ H2.out (one_look HZ.out) (by rw [Mst.add, one_look HZ.out]; exact one_write hj' (wrap64 (z + X)))).mono ?_
    rintro e W3 ⟨rfl, h3⟩
    have H3 := hide h3
    clear h3
    obtain ⟨b0, b1, b3, b4⟩ := HB.out W3 H3.out.2
    clear H2 c0 c1 c3 c4
    go_wp2_with (fail)
    refine (now_cells W W3 W.heap.size _ H3.out).mono ?_
    rintro e W4 ⟨a4, cap4, rfl, hr4, hc4, hm4, -, -, hk⟩
    have H4 := hide (H3.out.on hk)
    have hl4 : (Mst.mk (zs.set j (wrap64 (z + X))) 300 2 0 0).xs.length = zs.length := by simp
    rw [hl4]
    have HR4 : Hid (Reads W4 a4 (zs.set j (wrap64 (z + X)))) := hide hr4
    have hc5 : zs.length ≤ cap4 := by rw [← hl4]; exact hc4
    clear hr4 hc4 hm4 hl4 hk H3 b0 b1 b3 b4
    go_wp2
    go_loopw [12] (fun i wr => ∃ (t d : Nat), t ≤ zs.length ∧ i = .int .i64 (t : Int) ∧ wr = W4.drewN d) (fun i _ => zs.length - (intOf i).toNat)
    case atStart => exact ⟨0, 0, Nat.zero_le _, rfl, rfl⟩
    case round =>
      obtain ⟨t, d, ht, rfl, rfl⟩ := hrel
      by_cases hlt : t < zs.length
      · obtain ⟨x, hx⟩ : ∃ x, zs[t]? = some x := ⟨_, List.getElem?_eq_getElem hlt⟩
        have i3 : (t : Int) < (zs.length : Int) := by omega
        have i4 : t < cap := by have := HC.out; omega
        have i5 : t < cap4 := by omega
        by_cases htj : t = j
        · subst htj
          obtain ⟨bl, off, rfl, _, g1⟩ := HR4.out.at (show (zs.set t (wrap64 (z + X)))[t]? = some (wrap64 (z + X)) by simp [hj'])
          have n1 : ((t : Int) == (t : Int)) = true := by simp
          clear hx
          go_wp2
          go_quiet (fail)
          go_wp2
          exact ⟨⟨t + 1, _, by omega, by simp, rfl⟩, by simp [intOf]; omega⟩
        · obtain ⟨bl, off, rfl, _, g1⟩ := HR4.out.at (show (zs.set j (wrap64 (z + X)))[t]? = some x by rw [List.getElem?_set_ne (by omega)]; exact hx)
          obtain ⟨bl', off', rfl, _, g2⟩ := (HR.out.kept H4.out.2).at hx
          have n1 : ((t : Int) == (j : Int)) = false := by simp only [beq_eq_false_iff_ne, ne_eq]; omega
          have n2 : ((t : Int) != (j : Int)) = true := by simp only [bne, n1]; rfl
          have n3 : (t == j) = false := by simp only [beq_eq_false_iff_ne, ne_eq]; exact htj
          have n4 : decide ((t : Int) = (j : Int)) = false := by simp only [decide_eq_false_iff_not]; omega
          have n5 : decide (t = j) = false := by simp only [decide_eq_false_iff_not]; exact htj
          clear hx
          go_wp2
          go_quiet (fail)
          go_wp2
          exact ⟨⟨t + 1, _, by omega, by simp, rfl⟩, by simp [intOf]; omega⟩
      · have i3 : ¬ ((t : Int) < (zs.length : Int)) := by omega
        go_wp2_with (fail)
        refine (known_c _).mono ?_
        rintro e W5 ⟨rfl, hk⟩
        have H5 := hide (H4.out.on ((Kept.drewN W4 d).trans hk))
        clear hk
        go_wp2_with (fail)
        refine (now_count W W5 W.heap.size _ 2 H5.out rfl).mono ?_
        rintro e w' ⟨rfl, rfl⟩
        go_wp2
        go_ret
        exact ⟨rfl, K0.out.trans H5.out.2⟩
  · skip
    go_enter Try.func7, Try.ntmps7
    go_wp2_with (fail)
    rw [HW.out]
    refine (now_new W W 300 (Kept.refl W) (by decide) (by decide)).mono ?_
    rintro e W1 ⟨rfl, h1, -⟩
    have H1 := hide h1
    clear h1
    go_wp2_with (fail)
    refine (now_put W W1 W.heap.size _ _ zs cap _ _ ⟨zs, 300, 1, 0, 0⟩ H1.out HR.out (by have := HC.out; have := HM.out; omega) rfl rfl HMK.out).mono ?_
    rintro e W2 ⟨rfl, h2⟩
    obtain ⟨c0, c1, c3, c4⟩ := HB.out W2 h2.2
    have H2 := hide h2
    clear h2 H1
    go_wp2_with (fail)
    refine (HJ _).mono ?_
    rintro e w' ⟨rfl, rfl⟩
    go_wp2_with (fail)
    refine (now_look W W2 W.heap.size _ (1 + (j : Int)) z H2.out (one_look HZ.out)).mono ?_
    rintro e w' ⟨rfl, rfl⟩
    go_wp2_with (fail)
    refine (HQ _).mono ?_
    rintro e w' ⟨rfl, rfl⟩
    go_wp2_with (fail)
    refine (now_cas W W2 W.heap.size _ (1 + (j : Int)) z X true _ H2.out ((one_did HZ.out z).trans (by simp)) (one_cas HZ.out z X X (by simp))).mono ?_
    rintro e W3 ⟨rfl, h3⟩
    have H3 := hide h3
    clear h3
    obtain ⟨b0, b1, b3, b4⟩ := HB.out W3 H3.out.2
    clear H2 c0 c1 c3 c4
    go_wp2_with (fail)
    refine (now_cells W W3 W.heap.size _ H3.out).mono ?_
    rintro e W4 ⟨a4, cap4, rfl, hr4, hc4, hm4, -, -, hk⟩
    have H4 := hide (H3.out.on hk)
    have hl4 : (Mst.mk (zs.set j (X)) 300 2 0 0).xs.length = zs.length := by simp
    rw [hl4]
    have HR4 : Hid (Reads W4 a4 (zs.set j (X))) := hide hr4
    have hc5 : zs.length ≤ cap4 := by rw [← hl4]; exact hc4
    clear hr4 hc4 hm4 hl4 hk H3 b0 b1 b3 b4
    go_wp2
    go_loopw [12] (fun i wr => ∃ (t d : Nat), t ≤ zs.length ∧ i = .int .i64 (t : Int) ∧ wr = W4.drewN d) (fun i _ => zs.length - (intOf i).toNat)
    case atStart => exact ⟨0, 0, Nat.zero_le _, rfl, rfl⟩
    case round =>
      obtain ⟨t, d, ht, rfl, rfl⟩ := hrel
      by_cases hlt : t < zs.length
      · obtain ⟨x, hx⟩ : ∃ x, zs[t]? = some x := ⟨_, List.getElem?_eq_getElem hlt⟩
        have i3 : (t : Int) < (zs.length : Int) := by omega
        have i4 : t < cap := by have := HC.out; omega
        have i5 : t < cap4 := by omega
        by_cases htj : t = j
        · subst htj
          obtain ⟨bl, off, rfl, _, g1⟩ := HR4.out.at (show (zs.set t (X))[t]? = some (X) by simp [hj'])
          have n1 : ((t : Int) == (t : Int)) = true := by simp
          clear hx
          go_wp2
          go_quiet (fail)
          go_wp2
          exact ⟨⟨t + 1, _, by omega, by simp, rfl⟩, by simp [intOf]; omega⟩
        · obtain ⟨bl, off, rfl, _, g1⟩ := HR4.out.at (show (zs.set j (X))[t]? = some x by rw [List.getElem?_set_ne (by omega)]; exact hx)
          obtain ⟨bl', off', rfl, _, g2⟩ := (HR.out.kept H4.out.2).at hx
          have n1 : ((t : Int) == (j : Int)) = false := by simp only [beq_eq_false_iff_ne, ne_eq]; omega
          have n2 : ((t : Int) != (j : Int)) = true := by simp only [bne, n1]; rfl
          have n3 : (t == j) = false := by simp only [beq_eq_false_iff_ne, ne_eq]; exact htj
          have n4 : decide ((t : Int) = (j : Int)) = false := by simp only [decide_eq_false_iff_not]; omega
          have n5 : decide (t = j) = false := by simp only [decide_eq_false_iff_not]; exact htj
          clear hx
          go_wp2
          go_quiet (fail)
          go_wp2
          exact ⟨⟨t + 1, _, by omega, by simp, rfl⟩, by simp [intOf]; omega⟩
      · have i3 : ¬ ((t : Int) < (zs.length : Int)) := by omega
        go_wp2_with (fail)
        refine (known_c _).mono ?_
        rintro e W5 ⟨rfl, hk⟩
        have H5 := hide (H4.out.on ((Kept.drewN W4 d).trans hk))
        clear hk
        go_wp2_with (fail)
        refine (now_count W W5 W.heap.size _ 2 H5.out rfl).mono ?_
        rintro e w' ⟨rfl, rfl⟩
        go_wp2
        go_ret
        exact ⟨rfl, K0.out.trans H5.out.2⟩
end Go.Proofs.Ytfgflfjlepgfpaa
