/-
  What 'MapOrder' of the statements of chapter 4 answers, for any slice of numbers and any turn: true; nothing that lay is turned.
-/
import Derived.Test.YtfckphcbleodbaaSame
import Derived.Test.YtfckphcbleodbaaFill
import Derived.Test.YtfckphcbleodbaaHand
namespace Go.Proofs.Ytfckphcbleodbaa
open Go.RowKit Go.Shelf
attribute [local go_sem] Oper.semAt_some

/-- Two maps apart from one another. -/
def Both (w wr : World) (A B : Nat) (xa xb : List (Int × Int)) : Prop := Mp_i wr A xa ∧ Mp_i wr B xb ∧ Kept w wr
theorem Mp_i.other {w w' : World} {A B : Nat} {xs : List (Int × Int)} {p : Value} {n : Int} (h : Mp_i w A xs) (hb : MapAt 26 w B p n) (ht : Turned (fun i => i = B) w w') (hne : A ≠ B) : Mp_i w' A xs :=
  h.turned ht hne (fun k hk e => hb.notNode (T := 71) (by decide) (by rw [← e]; exact hk))
theorem Mp_i.box {w : World} {A : Nat} {xs : List (Int × Int)} (h : Mp_i w A xs) : ∃ p n, MapAt 26 w A p n := by
  obtain ⟨t, p, hb, _⟩ := h
  exact ⟨p, _, hb⟩
theorem Both.first {w wr w' : World} {A B : Nat} {xa xb ya : List (Int × Int)} (h : Both w wr A B xa xb) (hA : w.heap.size ≤ A) (hne : A ≠ B) (hd : Did_i A ya wr w') : Both w w' A B ya xb := by
  obtain ⟨h1, h2, h3⟩ := h
  obtain ⟨p, n, hb⟩ := h1.box
  exact ⟨hd.1, h2.other hb hd.2 (Ne.symm hne), h3.did hA hd.2⟩
theorem Both.second {w wr w' : World} {A B : Nat} {xa xb yb : List (Int × Int)} (h : Both w wr A B xa xb) (hB : w.heap.size ≤ B) (hne : A ≠ B) (hd : Did_i B yb wr w') : Both w w' A B xa yb := by
  obtain ⟨h1, h2, h3⟩ := h
  obtain ⟨p, n, hb⟩ := h2.box
  exact ⟨h1.other hb hd.2 hne, hd.1, h3.did hB hd.2⟩

/-- Two cells of a new block. -/
theorem two_new (w : World) (x y : Int) : ∀ (j : Nat) (u : Value), [Value.int .i64 x, .int .i64 y][j]? = some u → (w.alloc (.cells #[.int .i64 x, .int .i64 y] 45)).cell? ((⟨w.heap.size, 0, none⟩ : Addr).add j) = some u := by
  intro j u h
  have hb : (w.alloc (.cells #[.int .i64 x, .int .i64 y] 45)).heap[w.heap.size]? = some (.cells #[.int .i64 x, .int .i64 y] 45) := World.alloc_heap_new w _
  have c : ∀ i, (w.alloc (.cells #[.int .i64 x, .int .i64 y] 45)).cell? ⟨w.heap.size, i, none⟩ = #[Value.int .i64 x, .int .i64 y][i]? := fun i => by
    unfold World.cell?
    rw [hb]
    rfl
  rcases j with _ | _ | j
  · simp at h
    subst h
    exact c 0
  · simp at h
    subst h
    exact c 1
  · simp at h

set_option maxRecDepth 100000 in
set_option maxHeartbeats 4000000 in
theorem mapOrder_c (w : World) (a : Option Addr) (zs : List Int) (cap : Nat) (hr : Reads w a zs) (hc : zs.length ≤ cap) (hm : cap ≤ maxLen) (turn : Int) :
    Calls Try.prog 9 #[.slice a zs.length cap, .int .i64 turn] w fun e w' => e = .returned (.bool true) ∧ Kept w w' := by
  have hm' : (zs.length : Int) ≤ 9223372036854775807 := by unfold maxLen at hm; omega
  have HR := Lib.hid hr
  clear hr hm
  obtain ⟨V, hV⟩ : ∃ V : Int → Int, ∀ z, wrap64 (z.tdiv 3) = V z := ⟨_, fun _ => rfl⟩
  refine calls_marks Try.func9 rfl ?_
  simp only [Try.ntmps9, List.size_toArray, List.length_cons, List.length_nil, Nat.reduceAdd, Nat.reduceSub, Array.replicate_succ, Array.replicate_zero, List.push_toArray, List.append_toArray, List.nil_append, List.cons_append]
  go_wp2_with (fail)
  refine (known_c _).mono ?_
  rintro e w1 ⟨rfl, hk⟩
  have K1 := Lib.hid hk
  clear hk
  have z1 := K1.out.size
  have P0 : Hid (Both w ((w1.alloc (.cells #[.pointer none, .int .i64 0] 26)).alloc (.cells #[.pointer none, .int .i64 0] 26)) w1.heap.size (w1.heap.size + 1) [] []) := Lib.hid ⟨(Mp_i.new w1).kept (Turned.alloc _ _ _), by
    have := Mp_i.new (w1.alloc (.cells #[.pointer none, .int .i64 0] 26))
    simpa using this, (K1.out.trans (Turned.alloc _ _ _)).trans (Turned.alloc _ _ _)⟩
  by_cases hn : 200 < zs.length
  · go_wp2_with (fail)
    go_loopw [8] (fun i wr => ∃ k : Nat, k ≤ 200 ∧ i = .int .i64 k ∧ Hid (Both w wr w1.heap.size (w1.heap.size + 1) (keysMap V (zs.take k)) (keysMap V (turned zs (turn % 400) 200 k)))) (fun i _ => 200 - (intOf i).toNat)
    case atStart => exact ⟨0, Nat.zero_le _, rfl, Lib.hid (by simpa [keysMap, turned] using P0.out)⟩
    case round =>
      obtain ⟨k, hk1, rfl, hB⟩ := hrel
      clear P0
      by_cases hlt : k < 200
      · obtain ⟨z, hz⟩ : ∃ z, zs[k]? = some z := ⟨_, List.getElem?_eq_getElem (by omega)⟩
        obtain ⟨bl, off, rfl, hbl, hrow0⟩ := HR.out.at hz
        have hrow := hB.out.2.2.cell hrow0 id
        have crow : ∀ x : Wd (Turned (fun i => i = w1.heap.size) wr), x.w.cell? ⟨bl, off + k, none⟩ = some (.int .i64 z) := fun x => x.ok.cell hrow (by show ¬ bl = _; omega)
        have kd := Lib.hid (Kept.drew wr)
        have kt : Hid (Turned (fun i => i = w1.heap.size) wr wr.drew) := Lib.hid (Turned.drewN _ wr 1)
        have HZ : Hid (zs.take (k + 1) = zs.take k ++ [z]) := Lib.hid (by obtain ⟨h1, rfl⟩ := List.getElem?_eq_some_iff.1 hz; exact List.take_succ_eq_append_getElem h1)
        have kl : (keysMap V (zs.take k)).length ≤ 5000 := by
          have := keysMap_length V (zs.take k)
          rw [List.length_take] at this
          omega
        have k2 : (keysMap V (turned zs (turn % 400) 200 k)).length ≤ 5000 := by
          have := keysMap_length V (turned zs (turn % 400) 200 k)
          simp [turned] at this ⊢
          omega
        have KL := Lib.hid kl
        have K2 := Lib.hid k2
        have i1 : (k : Int) < (zs.length : Int) := by omega
        have i0 : (0 : Int) ≤ (k : Int) := by omega
        have i3 : k < cap := by omega
        clear hz hrow hrow0 kl k2
        go_wp2_with (fail)
        refine (wpIn_wide (n := 10)).1 ?_
        refine region_calm [0, 1, 2, 3, 4, 5, 6, 7, 8, 9, 10] (Turned (fun i => i = w1.heap.size) wr) (by kernel_rfl) (by kernel_rfl) kt.out (fun _ => ?_)
        repeat (refine pq rfl rfl ?_; go_big_quiet_step (fail); refine wpQuiet_nil ?_)
        refine pl rfl rfl ?_
        gi_wp2_with (fail)
        refine ⟨trivial, ?_⟩
        refine (callsIn_wide.2 (put_i _ _ _ (hB.out.1.kept kd.out) z (V z) KL.out)).mono ?_
        rintro e w2 ⟨rfl, hd⟩
        have B2 : Hid (Both w w2 w1.heap.size (w1.heap.size + 1) (keysMap V (zs.take (k + 1))) (keysMap V (turned zs (turn % 400) 200 k))) := Lib.hid (by
          rw [HZ.out, keysMap_snoc]
          exact Both.first ⟨hB.out.1.kept kd.out, hB.out.2.1.kept kd.out, hB.out.2.2.trans kd.out⟩ (by omega) (by omega) hd)
        have S2 : Hid (Turned (fun i => i = w1.heap.size) wr w2) := Lib.hid (kd.out.then hd.2)
        clear hd hB crow
        gi_wp2_with (fail)
        refine ⟨Wd.mem S2.out, ?_⟩
        refine perm_done ?_
        have c0 := Int.emod_nonneg turn (show (400 : Int) ≠ 0 by decide)
        have c1 := Int.emod_lt_of_pos turn (show (0 : Int) < 400 by decide)
        obtain ⟨c, hcc⟩ : ∃ c, turn % 400 = c := ⟨_, rfl⟩
        rw [hcc] at c0 c1 B2 K2
        have HC := Lib.hid hcc
        clear hcc
        obtain ⟨q, hq⟩ : ∃ q : Nat, (c + 200 - (k : Int)) % 200 = (q : Int) := ⟨((c + 200 - (k : Int)) % 200).toNat, (Int.toNat_of_nonneg (Int.emod_nonneg _ (by omega))).symm⟩
        have hql : q < 200 := by
          have := Int.emod_lt_of_pos (c + 200 - (k : Int)) (show (0 : Int) < 200 by omega)
          omega
        obtain ⟨z2, hz2⟩ : ∃ z2, zs[q]? = some z2 := ⟨_, List.getElem?_eq_getElem (by omega)⟩
        have HQ := Lib.hid hq
        have HT : Hid (turned zs c 200 (k + 1) = turned zs c 200 k ++ [z2]) := Lib.hid (by
          rw [turned_succ]
          have e : ((c + ((200 : Nat) : Int) - (k : Int)) % ((200 : Nat) : Int)).toNat = q := by
            have := HQ.out
            rw [show ((200 : Nat) : Int) = 200 from rfl, this]
            rfl
          rw [e, List.getD_eq_getElem?_getD, hz2]
          rfl)
        obtain ⟨bl', off', hbe, _, hrow0⟩ := HR.out.at hz2
        obtain ⟨rfl, rfl⟩ : bl = bl' ∧ off = off' := by simpa using hbe
        have hrow2 := B2.out.2.2.cell hrow0 id
        have j1 : (q : Int) < (zs.length : Int) := by omega
        have j3 : q < cap := by omega
        clear hq hz2 hbe hrow0
        go_wp2_with (fail)
        refine (cut_g _ turn 400 (by decide) (by decide)).mono ?_
        rintro e w' ⟨rfl, rfl⟩
        rw [HC.out]
        go_wp2_with (fail)
        refine (cut_g _ (c + 200 - (k : Int)) 200 (by omega) (by omega)).mono ?_
        rintro e w' ⟨rfl, rfl⟩
        rw [HQ.out]
        go_wp2_with (fail)
        refine (put_i _ _ _ B2.out.2.1 z2 (V z2) K2.out).mono ?_
        rintro e w3 ⟨rfl, hd⟩
        have B3 : Hid (Both w w3 w1.heap.size (w1.heap.size + 1) (keysMap V (zs.take (k + 1))) (keysMap V (turned zs (turn % 400) 200 (k + 1)))) := Lib.hid (by
          rw [HC.out, HT.out, keysMap_snoc]
          exact B2.out.second (by omega) (by omega) hd)
        clear hd
        go_wp2
        exact ⟨⟨k + 1, by omega, by simp, B3⟩, by simp [intOf]; omega⟩
      · obtain rfl : 200 = k := by omega
        have hxx : Hid (keysMap V (turned zs (turn % 400) 200 200) = keysMap V (zs.take 200)) := Lib.hid (keysMap_ext V fun j => (turned_mem zs (turn % 400) 200 (by omega) j).symm)
        have hxl : (keysMap V (zs.take 200)).length ≤ 200 := by
          have := keysMap_length V (zs.take 200)
          rw [List.length_take] at this
          omega
        have hB' := hB.out
        rw [hxx.out] at hB'
        obtain ⟨xs, hxs⟩ : ∃ xs, keysMap V (zs.take 200) = xs := ⟨_, rfl⟩
        rw [hxs] at hB' hxl
        have BB := Lib.hid hB'
        clear hB hB' hxs hxx hlt
        have zA := BB.out.1.lt
        have zB := BB.out.2.1.lt
        go_wp2_with (fail)
        refine (all_k _ _).mono ?_
        rintro e W ⟨rfl, hk, bA, zz⟩
        simp at zz
        have ka : Kept wr W := (show Kept wr (wr.alloc (.cells #[.slice none 0 0] 39)) from Turned.alloc _ _ _).trans hk
        have MA := Lib.hid (BB.out.1.kept ka)
        have MB := Lib.hid (BB.out.2.1.kept ka)
        have KW := Lib.hid (BB.out.2.2.trans ka)
        have PX := Lib.hid ((Pst.new wr w.heap.size (by have := BB.out.2.2.size; omega)).kept hk)
        have BA : Hid (Boxed W (wr.heap.size + 1) 23 (.pointer (some ⟨w1.heap.size, 0, none⟩))) := Lib.hid (by simpa using bA)
        have zW : wr.heap.size + 1 < W.heap.size := by omega
        have zw : w.heap.size ≤ wr.heap.size := BB.out.2.2.size
        clear hk bA zz ka BB
        obtain ⟨y0, hi, hz0, hz1, hz2⟩ := info_parts info45
        go_wp2_with (fail)
        refine wp_range2 (gf := 37) rfl (enters_of Try.func37 (by kernel_rfl) rfl) (encs := enc_i) (xs := xs) (R := Reads_i W (wr.heap.size + 1) w1.heap.size)
          (fun X hX => all1_i W X hX _ _ xs BA.out MA.out) (fun _ => rfl) (Foot wr.heap.size (.slice none 0 0)) (Coll w.heap.size wr.heap.size (fun pre => pre)) (fun _ _ _ _ => False) (fun j hj => ⟨MA.out.reads zW hj, ?notOwn⟩)
          (Coll.good _ _ _) (fun _ => good_false) ⟨_, fun _ => Iff.rfl, PX.out⟩ ?ab ?done (fun _ _ _ _ _ _ _ _ _ _ _ h => h.elim)
        case notOwn =>
          rintro (rfl | hf)
          · rcases hj with hj | hj | hj
            · omega
            · omega
            · exact PX.out.notNode (.inl rfl) (T := 71) (by decide) (by decide) hj
          · simp [Value.ownBlock] at hf
        case ab =>
          apply Exists.intro
          refine ⟨?_, ?_⟩
          · intro l' x X K hK
            gi_wp2
            exact hK
          · rintro l' O pre ⟨x, xv⟩ rest A hx tA sA ⟨v, hO, hp⟩
            have hpl : pre.length ≤ 200 := by
              have := congrArg List.length hx
              simp at this
              omega
            have zA := tA.size
            have hcX := hp.box.cell
            have HO := Lib.hid hO
            have HP := Lib.hid hp
            have hrow := hp.row.alloc (.cells #[.int .i64 x, .int .i64 xv] 45)
            clear hx tA sA hO hp
            gi_wp2_with (gi_at_builtin; refine wpListIn_append_own_at _ rfl _ _ 39 rfl w.heap.size 45 y0 (.agg #[.int .i64 0, .int .i64 0]) 2 16 Try.underlying39 hi hz0 hz1 hz2 rfl (by decide) v pre.length (flat pre) rfl hrow ⟨A.heap.size, 0, none⟩ 1 1 [.int .i64 x, .int .i64 xv] rfl rfl (two_new _ _ _) (by simp [Value.oneCell']) (by unfold maxLen; omega) (by omega) (by simp; omega) ?_; intro v' A1 hown hgrow _ hat; obtain ⟨g, gc, rfl⟩ := ownsRow_succ hown; obtain ⟨hb1, hg⟩ := grew_of (tmp := .cells #[.int .i64 x, .int .i64 xv] 45) (ys := pre ++ [(x, xv)]) (by omega) HP.out (by simpa [flat_append, flat] using hown) hgrow hat; have hc1 := hb1.cell; have hf1 := hb1.frozen; clear hcX)
            exact Coll.next HO.out hg rfl
        case done =>
          rintro D O X hD nD tX sX ⟨v, hO, hp⟩ hK
          have hRn : ∀ j, IsNode 71 W j → ¬ Foot wr.heap.size (.slice none 0 0) j := fun j hj hf => PX.out.notNode hf (T := 71) (by decide) (by decide) hj
          have MAX := Lib.hid (MA.out.turned tX (fun h => h.elim (fun h => by omega) (fun h => by simp [Value.ownBlock] at h)) hRn)
          have MBX := Lib.hid (MB.out.turned tX (fun h => h.elim (fun h => by omega) (fun h => by simp [Value.ownBlock] at h)) hRn)
          have kX := Lib.hid (KW.out.own (fun i h => h.elim (fun h => by omega) (fun h => by simp [Value.ownBlock] at h)) tX)
          obtain ⟨xa, xc, rfl, hpr, hxc⟩ := preads_of_row hp.row
          have PXX := Lib.hid hp
          have RX := Lib.hid hpr
          have DX := Lib.hid hK
          clear tX sX hK nD hO hp hpr MA MB KW PX BA hRn
          go_wp2_with (fail)
          refine (known_c _).mono ?_
          rintro e X2 ⟨rfl, hk⟩
          have c10 := (hk.boxed PXX.out.box id).cell
          have M2A := Lib.hid (MAX.out.kept hk)
          have M2B := Lib.hid (MBX.out.kept hk)
          have R2 := Lib.hid (RX.out.kept hk)
          have k2 := Lib.hid (kX.out.trans hk)
          have B2 := Lib.hid (hk.boxed PXX.out.box id)
          have D2 := Lib.hid (hk.heap DX.out id)
          clear hk MAX MBX RX kX PXX DX
          go_wp2_with (fail)
          refine (same_c _ _ xs M2B.out xa xc R2.out hxc (by omega)).mono ?_
          rintro e X3 ⟨rfl, hk⟩
          have c10' := (hk.boxed B2.out id).cell
          have M3A := Lib.hid (M2A.out.kept hk)
          have R3 := Lib.hid (R2.out.kept hk)
          have k3 := Lib.hid (k2.out.trans hk)
          have D3 := Lib.hid (hk.heap D2.out id)
          clear hk M2A M2B R2 k2 B2 D2 c10
          go_wp2_with (fail)
          refine (same_c _ _ xs M3A.out xa xc R3.out hxc (by omega)).mono ?_
          rintro e X4 ⟨rfl, hk⟩
          have k4 := Lib.hid (k3.out.trans hk)
          have D4 := Lib.hid (hk.heap D3.out id)
          clear hk M3A R3 k3 D3 c10'
          go_wp2
          refine leave_marks [D] X4 ?_ (by simp) ?_
          · intro j hj
            simp at hj
            subst hj
            exact D4.out
          · intro X' hX'
            exact ⟨_, results_tmp rfl _ _ _, rfl, k4.out.own (fun i hi => by simp at hi; omega) hX'⟩
  · go_wp2_with (fail)
    go_loopw [8] (fun i wr => ∃ k : Nat, k ≤ zs.length ∧ i = .int .i64 k ∧ Hid (Both w wr w1.heap.size (w1.heap.size + 1) (keysMap V (zs.take k)) (keysMap V (turned zs (turn % 400) zs.length k)))) (fun i _ => zs.length - (intOf i).toNat)
    case atStart => exact ⟨0, Nat.zero_le _, rfl, Lib.hid (by simpa [keysMap, turned] using P0.out)⟩
    case round =>
      obtain ⟨k, hk1, rfl, hB⟩ := hrel
      clear P0
      by_cases hlt : k < zs.length
      · obtain ⟨z, hz⟩ : ∃ z, zs[k]? = some z := ⟨_, List.getElem?_eq_getElem (by omega)⟩
        obtain ⟨bl, off, rfl, hbl, hrow0⟩ := HR.out.at hz
        have hrow := hB.out.2.2.cell hrow0 id
        have crow : ∀ x : Wd (Turned (fun i => i = w1.heap.size) wr), x.w.cell? ⟨bl, off + k, none⟩ = some (.int .i64 z) := fun x => x.ok.cell hrow (by show ¬ bl = _; omega)
        have kd := Lib.hid (Kept.drew wr)
        have kt : Hid (Turned (fun i => i = w1.heap.size) wr wr.drew) := Lib.hid (Turned.drewN _ wr 1)
        have HZ : Hid (zs.take (k + 1) = zs.take k ++ [z]) := Lib.hid (by obtain ⟨h1, rfl⟩ := List.getElem?_eq_some_iff.1 hz; exact List.take_succ_eq_append_getElem h1)
        have kl : (keysMap V (zs.take k)).length ≤ 5000 := by
          have := keysMap_length V (zs.take k)
          rw [List.length_take] at this
          omega
        have k2 : (keysMap V (turned zs (turn % 400) zs.length k)).length ≤ 5000 := by
          have := keysMap_length V (turned zs (turn % 400) zs.length k)
          simp [turned] at this ⊢
          omega
        have KL := Lib.hid kl
        have K2 := Lib.hid k2
        have i1 : (k : Int) < (zs.length : Int) := by omega
        have i0 : (0 : Int) ≤ (k : Int) := by omega
        have i3 : k < cap := by omega
        clear hz hrow hrow0 kl k2
        go_wp2_with (fail)
        refine (wpIn_wide (n := 10)).1 ?_
        refine region_calm [0, 1, 2, 3, 4, 5, 6, 7, 8, 9, 10] (Turned (fun i => i = w1.heap.size) wr) (by kernel_rfl) (by kernel_rfl) kt.out (fun _ => ?_)
        repeat (refine pq rfl rfl ?_; go_big_quiet_step (fail); refine wpQuiet_nil ?_)
        refine pl rfl rfl ?_
        gi_wp2_with (fail)
        refine ⟨trivial, ?_⟩
        refine (callsIn_wide.2 (put_i _ _ _ (hB.out.1.kept kd.out) z (V z) KL.out)).mono ?_
        rintro e w2 ⟨rfl, hd⟩
        have B2 : Hid (Both w w2 w1.heap.size (w1.heap.size + 1) (keysMap V (zs.take (k + 1))) (keysMap V (turned zs (turn % 400) zs.length k))) := Lib.hid (by
          rw [HZ.out, keysMap_snoc]
          exact Both.first ⟨hB.out.1.kept kd.out, hB.out.2.1.kept kd.out, hB.out.2.2.trans kd.out⟩ (by omega) (by omega) hd)
        have S2 : Hid (Turned (fun i => i = w1.heap.size) wr w2) := Lib.hid (kd.out.then hd.2)
        clear hd hB crow
        gi_wp2_with (fail)
        refine ⟨Wd.mem S2.out, ?_⟩
        refine perm_done ?_
        have c0 := Int.emod_nonneg turn (show (400 : Int) ≠ 0 by decide)
        have c1 := Int.emod_lt_of_pos turn (show (0 : Int) < 400 by decide)
        obtain ⟨c, hcc⟩ : ∃ c, turn % 400 = c := ⟨_, rfl⟩
        rw [hcc] at c0 c1 B2 K2
        have HC := Lib.hid hcc
        clear hcc
        obtain ⟨q, hq⟩ : ∃ q : Nat, (c + (zs.length : Int) - (k : Int)) % (zs.length : Int) = (q : Int) := ⟨((c + (zs.length : Int) - (k : Int)) % (zs.length : Int)).toNat, (Int.toNat_of_nonneg (Int.emod_nonneg _ (by omega))).symm⟩
        have hql : q < zs.length := by
          have := Int.emod_lt_of_pos (c + (zs.length : Int) - (k : Int)) (show (0 : Int) < (zs.length : Int) by omega)
          omega
        obtain ⟨z2, hz2⟩ : ∃ z2, zs[q]? = some z2 := ⟨_, List.getElem?_eq_getElem (by omega)⟩
        have HQ := Lib.hid hq
        have HT : Hid (turned zs c zs.length (k + 1) = turned zs c zs.length k ++ [z2]) := Lib.hid (by
          rw [turned_succ]
          have e : ((c + ((zs.length : Nat) : Int) - (k : Int)) % ((zs.length : Nat) : Int)).toNat = q := by
            have := HQ.out
            rw [show ((zs.length : Nat) : Int) = (zs.length : Int) from rfl, this]
            rfl
          rw [e, List.getD_eq_getElem?_getD, hz2]
          rfl)
        obtain ⟨bl', off', hbe, _, hrow0⟩ := HR.out.at hz2
        obtain ⟨rfl, rfl⟩ : bl = bl' ∧ off = off' := by simpa using hbe
        have hrow2 := B2.out.2.2.cell hrow0 id
        have j1 : (q : Int) < (zs.length : Int) := by omega
        have j3 : q < cap := by omega
        clear hq hz2 hbe hrow0
        go_wp2_with (fail)
        refine (cut_g _ turn 400 (by decide) (by decide)).mono ?_
        rintro e w' ⟨rfl, rfl⟩
        rw [HC.out]
        go_wp2_with (fail)
        refine (cut_g _ (c + (zs.length : Int) - (k : Int)) (zs.length : Int) (by omega) (by omega)).mono ?_
        rintro e w' ⟨rfl, rfl⟩
        rw [HQ.out]
        go_wp2_with (fail)
        refine (put_i _ _ _ B2.out.2.1 z2 (V z2) K2.out).mono ?_
        rintro e w3 ⟨rfl, hd⟩
        have B3 : Hid (Both w w3 w1.heap.size (w1.heap.size + 1) (keysMap V (zs.take (k + 1))) (keysMap V (turned zs (turn % 400) zs.length (k + 1)))) := Lib.hid (by
          rw [HC.out, HT.out, keysMap_snoc]
          exact B2.out.second (by omega) (by omega) hd)
        clear hd
        go_wp2
        exact ⟨⟨k + 1, by omega, by simp, B3⟩, by simp [intOf]; omega⟩
      · obtain rfl : zs.length = k := by omega
        have hxx : Hid (keysMap V (turned zs (turn % 400) zs.length zs.length) = keysMap V (zs.take zs.length)) := Lib.hid (keysMap_ext V fun j => (turned_mem zs (turn % 400) zs.length (by omega) j).symm)
        have hxl : (keysMap V (zs.take zs.length)).length ≤ 200 := by
          have := keysMap_length V (zs.take zs.length)
          rw [List.length_take] at this
          omega
        have hB' := hB.out
        rw [hxx.out] at hB'
        obtain ⟨xs, hxs⟩ : ∃ xs, keysMap V (zs.take zs.length) = xs := ⟨_, rfl⟩
        rw [hxs] at hB' hxl
        have BB := Lib.hid hB'
        clear hB hB' hxs hxx hlt
        have zA := BB.out.1.lt
        have zB := BB.out.2.1.lt
        go_wp2_with (fail)
        refine (all_k _ _).mono ?_
        rintro e W ⟨rfl, hk, bA, zz⟩
        simp at zz
        have ka : Kept wr W := (show Kept wr (wr.alloc (.cells #[.slice none 0 0] 39)) from Turned.alloc _ _ _).trans hk
        have MA := Lib.hid (BB.out.1.kept ka)
        have MB := Lib.hid (BB.out.2.1.kept ka)
        have KW := Lib.hid (BB.out.2.2.trans ka)
        have PX := Lib.hid ((Pst.new wr w.heap.size (by have := BB.out.2.2.size; omega)).kept hk)
        have BA : Hid (Boxed W (wr.heap.size + 1) 23 (.pointer (some ⟨w1.heap.size, 0, none⟩))) := Lib.hid (by simpa using bA)
        have zW : wr.heap.size + 1 < W.heap.size := by omega
        have zw : w.heap.size ≤ wr.heap.size := BB.out.2.2.size
        clear hk bA zz ka BB
        obtain ⟨y0, hi, hz0, hz1, hz2⟩ := info_parts info45
        go_wp2_with (fail)
        refine wp_range2 (gf := 37) rfl (enters_of Try.func37 (by kernel_rfl) rfl) (encs := enc_i) (xs := xs) (R := Reads_i W (wr.heap.size + 1) w1.heap.size)
          (fun X hX => all1_i W X hX _ _ xs BA.out MA.out) (fun _ => rfl) (Foot wr.heap.size (.slice none 0 0)) (Coll w.heap.size wr.heap.size (fun pre => pre)) (fun _ _ _ _ => False) (fun j hj => ⟨MA.out.reads zW hj, ?notOwn⟩)
          (Coll.good _ _ _) (fun _ => good_false) ⟨_, fun _ => Iff.rfl, PX.out⟩ ?ab ?done (fun _ _ _ _ _ _ _ _ _ _ _ h => h.elim)
        case notOwn =>
          rintro (rfl | hf)
          · rcases hj with hj | hj | hj
            · omega
            · omega
            · exact PX.out.notNode (.inl rfl) (T := 71) (by decide) (by decide) hj
          · simp [Value.ownBlock] at hf
        case ab =>
          apply Exists.intro
          refine ⟨?_, ?_⟩
          · intro l' x X K hK
            gi_wp2
            exact hK
          · rintro l' O pre ⟨x, xv⟩ rest A hx tA sA ⟨v, hO, hp⟩
            have hpl : pre.length ≤ 200 := by
              have := congrArg List.length hx
              simp at this
              omega
            have zA := tA.size
            have hcX := hp.box.cell
            have HO := Lib.hid hO
            have HP := Lib.hid hp
            have hrow := hp.row.alloc (.cells #[.int .i64 x, .int .i64 xv] 45)
            clear hx tA sA hO hp
            gi_wp2_with (gi_at_builtin; refine wpListIn_append_own_at _ rfl _ _ 39 rfl w.heap.size 45 y0 (.agg #[.int .i64 0, .int .i64 0]) 2 16 Try.underlying39 hi hz0 hz1 hz2 rfl (by decide) v pre.length (flat pre) rfl hrow ⟨A.heap.size, 0, none⟩ 1 1 [.int .i64 x, .int .i64 xv] rfl rfl (two_new _ _ _) (by simp [Value.oneCell']) (by unfold maxLen; omega) (by omega) (by simp; omega) ?_; intro v' A1 hown hgrow _ hat; obtain ⟨g, gc, rfl⟩ := ownsRow_succ hown; obtain ⟨hb1, hg⟩ := grew_of (tmp := .cells #[.int .i64 x, .int .i64 xv] 45) (ys := pre ++ [(x, xv)]) (by omega) HP.out (by simpa [flat_append, flat] using hown) hgrow hat; have hc1 := hb1.cell; have hf1 := hb1.frozen; clear hcX)
            exact Coll.next HO.out hg rfl
        case done =>
          rintro D O X hD nD tX sX ⟨v, hO, hp⟩ hK
          have hRn : ∀ j, IsNode 71 W j → ¬ Foot wr.heap.size (.slice none 0 0) j := fun j hj hf => PX.out.notNode hf (T := 71) (by decide) (by decide) hj
          have MAX := Lib.hid (MA.out.turned tX (fun h => h.elim (fun h => by omega) (fun h => by simp [Value.ownBlock] at h)) hRn)
          have MBX := Lib.hid (MB.out.turned tX (fun h => h.elim (fun h => by omega) (fun h => by simp [Value.ownBlock] at h)) hRn)
          have kX := Lib.hid (KW.out.own (fun i h => h.elim (fun h => by omega) (fun h => by simp [Value.ownBlock] at h)) tX)
          obtain ⟨xa, xc, rfl, hpr, hxc⟩ := preads_of_row hp.row
          have PXX := Lib.hid hp
          have RX := Lib.hid hpr
          have DX := Lib.hid hK
          clear tX sX hK nD hO hp hpr MA MB KW PX BA hRn
          go_wp2_with (fail)
          refine (known_c _).mono ?_
          rintro e X2 ⟨rfl, hk⟩
          have c10 := (hk.boxed PXX.out.box id).cell
          have M2A := Lib.hid (MAX.out.kept hk)
          have M2B := Lib.hid (MBX.out.kept hk)
          have R2 := Lib.hid (RX.out.kept hk)
          have k2 := Lib.hid (kX.out.trans hk)
          have B2 := Lib.hid (hk.boxed PXX.out.box id)
          have D2 := Lib.hid (hk.heap DX.out id)
          clear hk MAX MBX RX kX PXX DX
          go_wp2_with (fail)
          refine (same_c _ _ xs M2B.out xa xc R2.out hxc (by omega)).mono ?_
          rintro e X3 ⟨rfl, hk⟩
          have c10' := (hk.boxed B2.out id).cell
          have M3A := Lib.hid (M2A.out.kept hk)
          have R3 := Lib.hid (R2.out.kept hk)
          have k3 := Lib.hid (k2.out.trans hk)
          have D3 := Lib.hid (hk.heap D2.out id)
          clear hk M2A M2B R2 k2 B2 D2 c10
          go_wp2_with (fail)
          refine (same_c _ _ xs M3A.out xa xc R3.out hxc (by omega)).mono ?_
          rintro e X4 ⟨rfl, hk⟩
          have k4 := Lib.hid (k3.out.trans hk)
          have D4 := Lib.hid (hk.heap D3.out id)
          clear hk M3A R3 k3 D3 c10'
          go_wp2
          refine leave_marks [D] X4 ?_ (by simp) ?_
          · intro j hj
            simp at hj
            subst hj
            exact D4.out
          · intro X' hX'
            exact ⟨_, results_tmp rfl _ _ _, rfl, k4.out.own (fun i hi => by simp at hi; omega) hX'⟩
end Go.Proofs.Ytfckphcbleodbaa
