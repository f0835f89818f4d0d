/-
  What 'StackLeft' of the statements of chapter 3 answers, for any slice of ints and any int: true; nothing that lay is turned.
-/
import Derived.Test.YteolopbklmbcmaaHand
namespace Go.Proofs.Yteolopbklmbcmaa
open Go.RowKit Go.Shelf
attribute [local go_sem] Oper.semAt_some

theorem ints_take_succ {zs : List Int} {k : Nat} {z : Int} (h : zs[k]? = some z) : ints (zs.take (k + 1)) = ints (zs.take k) ++ [.int .i64 z] := by
  obtain ⟨hk, rfl⟩ := List.getElem?_eq_some_iff.1 h
  unfold ints
  rw [List.take_succ_eq_append_getElem hk, List.map_append]
  rfl

theorem reads_take {w w' : World} {a : Option Addr} {zs : List Int} (h : Reads w a zs) (hk : Kept w w') (m : Nat) : Reads w' a (zs.take m) := by
  rcases h with h | ⟨bl, off, ha, hc⟩
  · exact .inl (by rw [h]; simp)
  · refine .inr ⟨bl, off, ha, fun j z hz => hk.cell (hc j z ?_) id⟩
    rw [List.getElem?_take] at hz
    split at hz
    · exact hz
    · cases hz

set_option maxRecDepth 100000 in
set_option maxHeartbeats 4000000 in
theorem stackLeft_c (w : World) (a0 : Option Addr) (cap0 : Nat) (zs : List Int) (n : Int) (hcap : zs.length ≤ cap0) (hr : Reads w a0 zs) :
    Calls Try.prog 5 #[.slice a0 zs.length cap0, .int .i64 n] w fun e w' => e = .returned (.bool true) ∧ Kept w w' := by
  have HR := Lib.hid hr
  clear hr
  refine calls_marks Try.func5 rfl ?_
  simp only [Try.ntmps5, List.size_toArray, List.length_cons, List.length_nil, Nat.reduceAdd, Nat.reduceSub, Array.replicate_succ, Array.replicate_zero, List.push_toArray, List.append_toArray, List.nil_append, List.cons_append]
  go_wp2_with fail
  obtain ⟨W1, hW1⟩ : ∃ W1, ((w.alloc (.cells #[.slice a0 zs.length cap0] 34)).alloc (.cells #[.int .i64 n] 3)).alloc (.cells #[.bool false] 4) = W1 := ⟨_, rfl⟩
  have k1 : Kept w W1 := by
    rw [← hW1]
    exact Kept.alloc (Kept.alloc (Turned.alloc (fun _ => False) w _) _) _
  have z1 : W1.heap.size = w.heap.size + 3 := by rw [← hW1, World.size_alloc, World.size_alloc, World.size_alloc]
  have bL1 : Boxed W1 w.heap.size 34 (.slice a0 zs.length cap0) := by
    rw [← hW1]
    exact ((Boxed.new w 34 _).alloc _).alloc _
  have bN1 : Boxed W1 (w.heap.size + 1) 3 (.int .i64 n) := by
    rw [← hW1]
    have := (Boxed.new (w.alloc (.cells #[.slice a0 zs.length cap0] 34)) 3 (.int .i64 n)).alloc (.cells #[.bool false] 4)
    rwa [World.size_alloc] at this
  have bR1 : Boxed W1 (w.heap.size + 1 + 1) 4 (.bool false) := by
    rw [← hW1]
    have := Boxed.new ((w.alloc (.cells #[.slice a0 zs.length cap0] 34)).alloc (.cells #[.int .i64 n] 3)) 4 (.bool false)
    rwa [World.size_alloc, World.size_alloc] at this
  rw [hW1]
  clear hW1
  refine (known_c _).mono ?_
  rintro e W2 ⟨rfl, hk⟩
  have k2 : Kept w W2 := k1.trans hk (fun _ h => h) (fun _ _ h => h)
  have z2 : w.heap.size + 3 ≤ W2.heap.size := by have := hk.size; omega
  have bL2 := hk.boxed bL1 id
  have bN2 := hk.boxed bN1 id
  have bR2 := hk.boxed bR1 id
  have hs0 := stk_new W2 37 3 W2.heap.size (Nat.le_refl _)
  have hcL := (bL2.alloc (.cells #[.slice none 0 0] 37)).cell
  have K2 := Lib.hid k2
  have BL := Lib.hid bL2
  have BN := Lib.hid bN2
  have BR := Lib.hid bR2
  have HS0 := Lib.hid hs0
  clear k1 k2 z1 bL1 bN1 bR1 bL2 bN2 bR2 hk hs0
  obtain ⟨m, hm⟩ : ∃ m, min zs.length 200 = m := ⟨_, rfl⟩
  have hm1 : m ≤ zs.length := by omega
  have hm2 : m ≤ 200 := by omega
  go_wp2_with (go_at_call 17; refine (few_c _ _ _ _ hcap).mono ?_; rintro e w' ⟨rfl, rfl⟩)
  clear hcL
  go_loopw [18] (fun i wr => ∃ (k : Nat) (v : Value), k ≤ m ∧ i = .int .i64 k ∧ Hid (Stk wr 37 3 W2.heap.size W2.heap.size v (ints (zs.take k))) ∧ Hid (Kept W2 wr))
    (fun i _ => m - (intOf i).toNat)
  case atStart => exact ⟨0, _, Nat.zero_le _, rfl, HS0, Lib.hid (Turned.alloc _ _ _)⟩
  case round =>
    obtain ⟨k, v, hk, rfl, HS, HK⟩ := hrel
    clear HS0
    by_cases hlt : k < m
    · obtain ⟨z, hz⟩ : ∃ z, zs[k]? = some z := ⟨_, List.getElem?_eq_getElem (by omega)⟩
      obtain ⟨bl, off, ha, hrow⟩ : ∃ bl off, a0 = some ⟨bl, off, none⟩ ∧ wr.cell? ⟨bl, off + k, none⟩ = some (.int .i64 z) := by
        rcases HR.out with h | ⟨bl, off, ha, hc⟩
        · rw [h] at hz
          simp at hz
        · exact ⟨bl, off, ha, HK.out.cell (K2.out.cell (hc k z hz) id) id⟩
      subst ha
      have HE := Lib.hid (ints_take_succ hz)
      have hsz := HK.out.size
      clear hz
      go_wp2_with fail
      refine (push_i _ W2.heap.size _ _ _ z hsz (by simp; omega) HS.out).mono ?_
      rintro e w1 ⟨rfl, hp⟩
      obtain ⟨v1, hs1, hk1⟩ := Kept.pushed (Nat.le_refl _) HK.out HS.out hp
      rw [← HE.out] at hs1
      have HS1 := Lib.hid hs1
      have HK1 := Lib.hid hk1
      clear hp hs1 hk1 hrow HS HK
      go_wp2
      exact ⟨⟨k + 1, v1, by omega, by go_num, HS1, HK1⟩, by simp [intOf]; omega⟩
    · obtain rfl : m = k := by omega
      have hcL := (HK.out.boxed BL.out id).cell
      have bN3 := (HK.out.boxed BN.out id).alloc (.cells #[.int .i64 m] 3)
      have hcN := bN3.cell
      have hfN := bN3.frozen
      have hmin : (if (200 : Int) < (zs.length : Int) then (200 : Int) else (zs.length : Int)) = (m : Int) := by split <;> omega
      have HM := Lib.hid hm
      clear bN3 hm hk hlt
      go_wp2_with fail
      refine (cut_c _ _).mono ?_
      rintro e w3 ⟨r, hr, rfl, rfl⟩
      go_wp2_with (go_at_call 19; refine (all_i _ _).mono ?_; rintro e w' ⟨rfl, rfl⟩)
      have zr : W2.heap.size ≤ wr.heap.size := HK.out.size
      have zb : W2.heap.size < wr.heap.size := HS.out.box.lt
      obtain ⟨W5, hW5⟩ : ∃ W5, (((wr.alloc (.cells #[.int .i64 m] 3)).setCell ⟨w.heap.size + 1, 0, none⟩ (.int .i64 r)).alloc (.cells #[.int .i64 0] 3)).alloc (.cells #[.pointer (some ⟨W2.heap.size, 0, none⟩)] 35) = W5 := ⟨_, rfl⟩
      have zS : ((wr.alloc (.cells #[.int .i64 m] 3)).setCell ⟨w.heap.size + 1, 0, none⟩ (.int .i64 r)).heap.size = wr.heap.size + 1 := by
        show (Array.modify _ _ _).size = _
        rw [Array.size_modify, World.size_alloc]
      have z5 : W5.heap.size = wr.heap.size + 3 := by rw [← hW5, World.size_alloc, World.size_alloc, zS]
      have t5 : Turned (fun j => j = w.heap.size + 1) wr W5 := by
        rw [← hW5]
        exact (((Turned.alloc _ wr _).trans (Turned.setCell (R := fun j => j = w.heap.size + 1) _ ⟨w.heap.size + 1, 0, none⟩ _ rfl) (fun _ h => h) (fun _ _ h => h)).trans (Turned.alloc (fun _ => False) _ _) (fun _ h => h) (fun _ _ h => h.elim)).trans (Turned.alloc (fun _ => False) _ _) (fun _ h => h) (fun _ _ h => h.elim)
      have bL : Boxed W5 (w.heap.size) 34 (.slice a0 zs.length cap0) := t5.boxed (HK.out.boxed BL.out id) (by omega)
      have bR : Boxed W5 (w.heap.size + 1 + 1) 4 (.bool false) := t5.boxed (HK.out.boxed BR.out id) (by omega)
      have bN : Boxed W5 (w.heap.size + 1) 3 (.int .i64 r) := by
        rw [← hW5]
        exact ((((HK.out.boxed BN.out id).alloc _).set _).alloc _).alloc _
      have bK : Boxed W5 wr.heap.size 3 (.int .i64 m) := by
        rw [← hW5]
        exact (((Boxed.new wr 3 (.int .i64 m)).other (by omega) _).alloc _).alloc _
      have bM : Boxed W5 (wr.heap.size + 1) 3 (.int .i64 0) := by
        rw [← hW5]
        have := (Boxed.new ((wr.alloc (.cells #[.int .i64 m] 3)).setCell ⟨w.heap.size + 1, 0, none⟩ (.int .i64 r)) 3 (.int .i64 0)).alloc (.cells #[.pointer (some ⟨W2.heap.size, 0, none⟩)] 35)
        rwa [zS] at this
      have bA : Boxed W5 (wr.heap.size + 1 + 1) 35 (.pointer (some ⟨W2.heap.size, 0, none⟩)) := by
        rw [← hW5]
        have := Boxed.new (((wr.alloc (.cells #[.int .i64 m] 3)).setCell ⟨w.heap.size + 1, 0, none⟩ (.int .i64 r)).alloc (.cells #[.int .i64 0] 3)) 35 (.pointer (some ⟨W2.heap.size, 0, none⟩))
        rwa [World.size_alloc, zS] at this
      have lo : ∀ j, Foot W2.heap.size v j → W2.heap.size ≤ j ∧ j < wr.heap.size := fun j hj => HS.out.lt j hj
      have S5 := Lib.hid (HS.out.turned t5 (fun j hj => by have := lo j hj; omega))
      have K5 : Hid (Kept w W5) := Lib.hid ((K2.out.trans HK.out (fun _ h => h) (fun _ _ h => h)).trans t5 (fun _ h => h) (fun i hi h => by omega))
      have hlm : (zs.take m).length = m := by rw [List.length_take]; omega
      have HLM := Lib.hid hlm
      clear hlm hcL hcN hfN
      rw [hW5]
      clear hW5
      refine wp_range' (gf := 24) (lb := #[.pointer (some ⟨wr.heap.size + 1 + 1, 0, none⟩)]) rfl (enters_of Try.func24 (by kernel_rfl) rfl) (encs := fun x : Value => #[x]) (xs := (ints (zs.take m)).reverse) (R := fun j => j = wr.heap.size + 1 + 1 ∨ Foot W2.heap.size v j)
        (fun X hX => all1_i X W2.heap.size W2.heap.size _ _ _ (hX.boxed bA id) (S5.out.turned hX (fun _ _ h => h))) (fun _ => rfl)
        (fun j => j = w.heap.size + 1 + 1 ∨ j = wr.heap.size + 1)
        (fun O pre A => (∀ j, O j ↔ (j = w.heap.size + 1 + 1 ∨ j = wr.heap.size + 1)) ∧ Boxed A (w.heap.size + 1 + 1) 4 (.bool false) ∧ Boxed A (wr.heap.size + 1) 3 (.int .i64 pre.length) ∧ pre.length ≤ r)
        (fun c O _ A => (∀ j, O j ↔ (j = w.heap.size + 1 + 1 ∨ j = wr.heap.size + 1)) ∧ Boxed A (w.heap.size + 1 + 1) 4 (.bool false) ∧ Boxed A (wr.heap.size + 1) 3 (.int .i64 r) ∧ c = .exit 2 ∧ r < m) ?hR
        ⟨fun O pre A B h ht => ⟨h.1, Boxed.own h.2.1 ((h.1 _).2 (.inl rfl)) ht, Boxed.own h.2.2.1 ((h.1 _).2 (.inr rfl)) ht, h.2.2.2⟩, fun O pre A h j hj => by
          rcases (h.1 j).1 hj with rfl | rfl
          · exact h.2.1.lt
          · exact h.2.2.1.lt⟩
        (fun c => ⟨fun O pre A B h ht => ⟨h.1, Boxed.own h.2.1 ((h.1 _).2 (.inl rfl)) ht, Boxed.own h.2.2.1 ((h.1 _).2 (.inr rfl)) ht, h.2.2.2⟩, fun O pre A h j hj => by
          rcases (h.1 j).1 hj with rfl | rfl
          · exact h.2.1.lt
          · exact h.2.2.1.lt⟩) ⟨fun _ => Iff.rfl, bR, bM, Nat.zero_le _⟩
        (fun x => { tmps := #[.slice a0 zs.length cap0, .int .i64 n, .pointer (some ⟨w.heap.size, 0, none⟩), .pointer (some ⟨w.heap.size + 1, 0, none⟩), .pointer (some ⟨w.heap.size + 1 + 1, 0, none⟩), .pointer (some ⟨W2.heap.size, 0, none⟩), undef, u7, .pointer (some ⟨wr.heap.size, 0, none⟩), .pointer (some ⟨wr.heap.size + 1, 0, none⟩), x, .bool true, .bool false, .agg #[.slice none 0 0], .pointer (some ⟨W2.heap.size, 0, none⟩), .slice a0 zs.length cap0, .slice a0 m cap0, .int .i64 m, .int .i64 m, .bool false, u20, u21, u22, u23, u24, u25, .slice a0 zs.length cap0, .int .i64 zs.length, .int .i64 m, .int .i64 n, .int .i64 r, .pointer (some ⟨W2.heap.size, 0, none⟩), .func (.func 24) #[] #[.pointer (some ⟨wr.heap.size + 1 + 1, 0, none⟩)], x, undef, undef, undef, undef, undef, undef, undef, undef, undef, undef, undef, undef, undef, undef, undef, undef, undef, undef, undef, undef, undef, undef, undef, undef, undef, undef, undef, undef, undef, undef, undef, undef, undef], defers := [] }) ?assign ?body ?done ?stop
      case hR =>
        rintro j (rfl | hj)
        · exact ⟨by omega, by omega⟩
        · have := lo j hj
          exact ⟨by omega, by omega⟩
      case assign =>
        intro l' x X K hK
        gi_wp2
        exact hK
      case body =>
        intro l' O pre x rest A hx tA sA hI
        obtain ⟨z, hz, rfl, hlen⟩ := rev_at hx
        rw [HLM.out] at hlen
        obtain ⟨hO, hbR, hbM, hpr⟩ := hI
        obtain ⟨q, hq⟩ : ∃ q, rest.length = q := ⟨_, rfl⟩
        obtain ⟨p, hp⟩ : ∃ p, pre.length = p := ⟨_, rfl⟩
        rw [hq] at hz hlen
        rw [hp] at hbM hpr hlen
        have hcL := tA.cell bL.cell (by show ¬ (w.heap.size = _ ∨ w.heap.size = _); omega)
        have hcN := tA.cell bN.cell (by show ¬ (w.heap.size + 1 = _ ∨ w.heap.size + 1 = _); omega)
        have hcK := tA.cell bK.cell (by show ¬ (wr.heap.size = _ ∨ wr.heap.size = _); omega)
        have hcM := hbM.cell
        have hfM := hbM.frozen
        obtain ⟨bl, off, ha, hbl, hrow⟩ : ∃ bl off, a0 = some ⟨bl, off, none⟩ ∧ bl < w.heap.size ∧ A.cell? ⟨bl, off + q, none⟩ = some (.int .i64 z) := by
          have hz' : zs[q]? = some z := by
            rw [List.getElem?_take] at hz
            split at hz
            · exact hz
            · cases hz
          rcases HR.out with h | ⟨bl, off, ha, hc⟩
          · rw [h] at hz'
            simp at hz'
          · have hlt := World.block_lt_of_cell? _ _ (hc q z hz')
            have hlt' : bl < w.heap.size := hlt
            exact ⟨bl, off, ha, hlt', tA.cell (K5.out.cell (hc q z hz') id) (by show ¬ (bl = _ ∨ bl = _); omega)⟩
        subst ha
        have hlz : (pre ++ [Value.int .i64 z]).length = p + 1 := by simp [hp]
        have HO := Lib.hid hO
        have HBR := Lib.hid hbR
        have HBM := Lib.hid hbM
        have HL := Lib.hid hlen
        have HLZ := Lib.hid hlz
        by_cases hpq : p = r
        · subst hpq
          have hpm : p < m := by omega
          clear hx tA sA hO hbR hbM hz hq hp bL bN bR bK bM bA hlen hlz
          gi_wp2
          exact ⟨O, Sub.refl _ _, Turned.refl _ _, HO.out, HBR.out, HBM.out, rfl, hpm⟩
        · have hne : ((p : Int) == (r : Int)) = false := by simp only [beq_eq_false_iff_ne, ne_eq]; omega
          have hpm : p + 1 ≤ m := by omega
          have hmp : (m : Int) - ((p : Int) + 1) = (q : Int) := by omega
          have hlt : p < r := by omega
          have hrow2 : (A.setCell ⟨wr.heap.size + 1, 0, none⟩ (.int .i64 ((p : Int) + 1))).cell? ⟨bl, off + q, none⟩ = some (.int .i64 z) := (World.cell?_setCell_far _ _ _ _ (by show wr.heap.size + 1 ≠ bl; omega)).trans hrow
          have hcL2 : (A.setCell ⟨wr.heap.size + 1, 0, none⟩ (.int .i64 ((p : Int) + 1))).cell? ⟨w.heap.size, 0, none⟩ = some (.slice (some ⟨bl, off, none⟩) zs.length cap0) := (World.cell?_setCell_far _ _ _ _ (by show wr.heap.size + 1 ≠ w.heap.size; omega)).trans hcL
          have hcK2 : (A.setCell ⟨wr.heap.size + 1, 0, none⟩ (.int .i64 ((p : Int) + 1))).cell? ⟨wr.heap.size, 0, none⟩ = some (.int .i64 m) := (World.cell?_setCell_far _ _ _ _ (by show wr.heap.size + 1 ≠ wr.heap.size; omega)).trans hcK
          have hqz : q < zs.length := by omega
          have HPR := Lib.hid hpr
          clear hx tA sA hO hbR hbM hz hq hp bL bN bR bK bM bA hlen hlz hrow hcL hcK hpq hpr
          gi_wp2
          exact ⟨O, Sub.refl _ _, Turned.setCell _ _ _ ((HO.out _).2 (.inr rfl)), HO.out, HBR.out.other (by omega) _, by rw [HLZ.out]; exact HBM.out.set _, by rw [HLZ.out]; omega⟩
      case done =>
        rintro D O X hD nD tX sX ⟨hO, hbR, hbM, hpr⟩ hK
        have hlen : (ints (zs.take m)).reverse.length = m := by rw [List.length_reverse, List.length_map]; exact HLM.out
        rw [hlen] at hbM hpr
        clear hlen
        rcases Nat.lt_or_ge m r with hlt | hge
        · have hsX : Stk X 37 3 W2.heap.size W2.heap.size v (ints (zs.take m)) := S5.out.turned tX (fun j hj => by have := lo j hj; show ¬ (j = _ ∨ j = _); omega)
          have hcL := tX.cell bL.cell (by show ¬ (w.heap.size = _ ∨ w.heap.size = _); omega)
          have hcN := tX.cell bN.cell (by show ¬ (w.heap.size + 1 = _ ∨ w.heap.size + 1 = _); omega)
          have hcK := tX.cell bK.cell (by show ¬ (wr.heap.size = _ ∨ wr.heap.size = _); omega)
          have kX : Kept w X := K5.out.trans tX (fun _ h => h) (fun i hi h => by rcases h with h | h <;> omega)
          have SX := Lib.hid hsX
          have KX := Lib.hid kX
          have BRX := Lib.hid hbR
          have BMX := Lib.hid hbM
          have BLX := Lib.hid (tX.boxed bL (by show ¬ (w.heap.size = _ ∨ w.heap.size = _); omega))
          have BNX := Lib.hid (tX.boxed bN (by show ¬ (w.heap.size + 1 = _ ∨ w.heap.size + 1 = _); omega))
          have BKX := Lib.hid (tX.boxed bK (by show ¬ (wr.heap.size = _ ∨ wr.heap.size = _); omega))
          have HKX := Lib.hid hK
          clear hsX hcL hcN hcK kX hbR hbM hK hO tX sX nD bL bN bR bK bM bA HS BL BN BR
          go_wp2_with fail
          refine (known_c _).mono ?_
          rintro e X2 ⟨rfl, hk⟩
          have hcM := (hk.boxed BMX.out id).cell
          have hcN := (hk.boxed BNX.out id).cell
          have hcK := (hk.boxed BKX.out id).cell
          have hcL := (hk.boxed BLX.out id).cell
          have bR2 := hk.boxed BRX.out id
          have SX2 := Lib.hid (SX.out.turned hk (fun _ _ h => h))
          have KX2 := Lib.hid (KX.out.trans hk (fun _ h => h) (fun _ _ h => h))
          have HD2 := Lib.hid (hk.heap HKX.out id)
          have HR2 : Hid (Reads X2 a0 (zs.take m)) := Lib.hid (reads_take HR.out KX2.out m)
          have BR2 := Lib.hid bR2
          clear SX KX BRX BMX BNX BKX BLX HKX hk bR2
          go_wp2_with fail
          rw [show m = (zs.take m).length by rw [List.length_take]; omega]
          refine (same_c _ W2.heap.size _ _ (zs.take m) a0 cap0 (by rw [List.length_take]; omega) SX2.out HR2.out).mono ?_
          rintro e X3 ⟨rfl, hk⟩
          have bR3 := hk.boxed BR2.out id
          have hcR := bR3.cell
          have hfR := bR3.frozen
          have hD3 := hk.heap HD2.out id
          have KX3 := Lib.hid (KX2.out.trans hk (fun _ h => h) (fun _ _ h => h))
          have HD3 := Lib.hid hD3
          clear hk bR3 hD3 SX2 KX2 HD2 HR2 BR2 hcM hcN hcK hcL
          go_wp2
          have hK2 : (X3.setCell ⟨w.heap.size + 1 + 1, 0, none⟩ (.bool true)).heap[D]? = some (.deferred (some [])) := (Below.heap_setCell X3 ⟨w.heap.size + 1 + 1, 0, none⟩ (.bool true) D (by show D ≠ w.heap.size + 1 + 1; omega)).trans HD3.out
          refine ⟨by simp, .inl ⟨_, _, rfl, run_takeDeferred hK2, ?_⟩⟩
          have hc5 : ((X3.setCell ⟨w.heap.size + 1 + 1, 0, none⟩ (.bool true)).putObj D (.deferred none)).cell? ⟨w.heap.size + 1 + 1, 0, none⟩ = some (.bool true) :=
            ((Turned.putObj (R := fun k => k = D) _ D (.deferred none) rfl).cell (p := ⟨w.heap.size + 1 + 1, 0, none⟩) (v := .bool true) (World.cell?_setCell_same' X3 _ _ (by rw [hcR]; rfl)) (by show w.heap.size + 1 + 1 ≠ D; omega))
          refine ⟨.bool true, ?_, rfl, ?_⟩
          · simp [results, Try.f5, go_sem, hc5]
          · have t3 : Turned (fun k => k = w.heap.size + 1 + 1) X3 (X3.setCell ⟨w.heap.size + 1 + 1, 0, none⟩ (.bool true)) := Turned.setCell _ _ _ rfl
            exact (KX3.out.trans t3 (fun _ h => h) (fun i hi h => by omega)).trans (Turned.putObj (R := fun k => k = D) _ D _ rfl) (fun _ h => h) (fun i hi h => by omega)
        · obtain rfl : m = r := by omega
          have hsX : Stk X 37 3 W2.heap.size W2.heap.size v (ints (zs.take m)) := S5.out.turned tX (fun j hj => by have := lo j hj; show ¬ (j = _ ∨ j = _); omega)
          have hcL := tX.cell bL.cell (by show ¬ (w.heap.size = _ ∨ w.heap.size = _); omega)
          have hcN := tX.cell bN.cell (by show ¬ (w.heap.size + 1 = _ ∨ w.heap.size + 1 = _); omega)
          have hcK := tX.cell bK.cell (by show ¬ (wr.heap.size = _ ∨ wr.heap.size = _); omega)
          have kX : Kept w X := K5.out.trans tX (fun _ h => h) (fun i hi h => by rcases h with h | h <;> omega)
          have SX := Lib.hid hsX
          have KX := Lib.hid kX
          have BRX := Lib.hid hbR
          have BMX := Lib.hid hbM
          have BLX := Lib.hid (tX.boxed bL (by show ¬ (w.heap.size = _ ∨ w.heap.size = _); omega))
          have BNX := Lib.hid (tX.boxed bN (by show ¬ (w.heap.size + 1 = _ ∨ w.heap.size + 1 = _); omega))
          have BKX := Lib.hid (tX.boxed bK (by show ¬ (wr.heap.size = _ ∨ wr.heap.size = _); omega))
          have HKX := Lib.hid hK
          clear hsX hcL hcN hcK kX hbR hbM hK hO tX sX nD bL bN bR bK bM bA HS BL BN BR
          go_wp2_with fail
          refine (known_c _).mono ?_
          rintro e X2 ⟨rfl, hk⟩
          have hcM := (hk.boxed BMX.out id).cell
          have hcN := (hk.boxed BNX.out id).cell
          have hcK := (hk.boxed BKX.out id).cell
          have hcL := (hk.boxed BLX.out id).cell
          have bR2 := hk.boxed BRX.out id
          have SX2 := Lib.hid (SX.out.turned hk (fun _ _ h => h))
          have KX2 := Lib.hid (KX.out.trans hk (fun _ h => h) (fun _ _ h => h))
          have HD2 := Lib.hid (hk.heap HKX.out id)
          have HR2 : Hid (Reads X2 a0 (zs.take m)) := Lib.hid (reads_take HR.out KX2.out m)
          have BR2 := Lib.hid bR2
          clear SX KX BRX BMX BNX BKX BLX HKX hk bR2
          go_wp2_with fail
          rw [show m = (zs.take m).length by rw [List.length_take]; omega]
          refine (same_c _ W2.heap.size _ _ (zs.take m) a0 cap0 (by rw [List.length_take]; omega) SX2.out HR2.out).mono ?_
          rintro e X3 ⟨rfl, hk⟩
          have bR3 := hk.boxed BR2.out id
          have hcR := bR3.cell
          have hfR := bR3.frozen
          have hD3 := hk.heap HD2.out id
          have KX3 := Lib.hid (KX2.out.trans hk (fun _ h => h) (fun _ _ h => h))
          have HD3 := Lib.hid hD3
          clear hk bR3 hD3 SX2 KX2 HD2 HR2 BR2 hcM hcN hcK hcL
          go_wp2
          have hK2 : (X3.setCell ⟨w.heap.size + 1 + 1, 0, none⟩ (.bool true)).heap[D]? = some (.deferred (some [])) := (Below.heap_setCell X3 ⟨w.heap.size + 1 + 1, 0, none⟩ (.bool true) D (by show D ≠ w.heap.size + 1 + 1; omega)).trans HD3.out
          refine ⟨by simp, .inl ⟨_, _, rfl, run_takeDeferred hK2, ?_⟩⟩
          have hc5 : ((X3.setCell ⟨w.heap.size + 1 + 1, 0, none⟩ (.bool true)).putObj D (.deferred none)).cell? ⟨w.heap.size + 1 + 1, 0, none⟩ = some (.bool true) :=
            ((Turned.putObj (R := fun k => k = D) _ D (.deferred none) rfl).cell (p := ⟨w.heap.size + 1 + 1, 0, none⟩) (v := .bool true) (World.cell?_setCell_same' X3 _ _ (by rw [hcR]; rfl)) (by show w.heap.size + 1 + 1 ≠ D; omega))
          refine ⟨.bool true, ?_, rfl, ?_⟩
          · simp [results, Try.f5, go_sem, hc5]
          · have t3 : Turned (fun k => k = w.heap.size + 1 + 1) X3 (X3.setCell ⟨w.heap.size + 1 + 1, 0, none⟩ (.bool true)) := Turned.setCell _ _ _ rfl
            exact (KX3.out.trans t3 (fun _ h => h) (fun i hi h => by omega)).trans (Turned.putObj (R := fun k => k = D) _ D _ rfl) (fun _ h => h) (fun i hi h => by omega)
      case stop =>
        rintro D O c pre rest X hD nD tX sX hx ⟨hO, hbR, hbM, rfl, hrm⟩ hK
        clear hx
        have hsX : Stk X 37 3 W2.heap.size W2.heap.size v (ints (zs.take m)) := S5.out.turned tX (fun j hj => by have := lo j hj; show ¬ (j = _ ∨ j = _); omega)
        have hcL := tX.cell bL.cell (by show ¬ (w.heap.size = _ ∨ w.heap.size = _); omega)
        have hcN := tX.cell bN.cell (by show ¬ (w.heap.size + 1 = _ ∨ w.heap.size + 1 = _); omega)
        have hcK := tX.cell bK.cell (by show ¬ (wr.heap.size = _ ∨ wr.heap.size = _); omega)
        have kX : Kept w X := K5.out.trans tX (fun _ h => h) (fun i hi h => by rcases h with h | h <;> omega)
        have SX := Lib.hid hsX
        have KX := Lib.hid kX
        have BRX := Lib.hid hbR
        have BMX := Lib.hid hbM
        have BLX := Lib.hid (tX.boxed bL (by show ¬ (w.heap.size = _ ∨ w.heap.size = _); omega))
        have BNX := Lib.hid (tX.boxed bN (by show ¬ (w.heap.size + 1 = _ ∨ w.heap.size + 1 = _); omega))
        have BKX := Lib.hid (tX.boxed bK (by show ¬ (wr.heap.size = _ ∨ wr.heap.size = _); omega))
        have HKX := Lib.hid hK
        clear hsX hcL hcN hcK kX hbR hbM hK hO tX sX nD bL bN bR bK bM bA HS BL BN BR
        go_wp2_with fail
        refine (known_c _).mono ?_
        rintro e X2 ⟨rfl, hk⟩
        have hcM := (hk.boxed BMX.out id).cell
        have hcN := (hk.boxed BNX.out id).cell
        have hcK := (hk.boxed BKX.out id).cell
        have hcL := (hk.boxed BLX.out id).cell
        have bR2 := hk.boxed BRX.out id
        have SX2 := Lib.hid (SX.out.turned hk (fun _ _ h => h))
        have KX2 := Lib.hid (KX.out.trans hk (fun _ h => h) (fun _ _ h => h))
        have HD2 := Lib.hid (hk.heap HKX.out id)
        have HR2 : Hid (Reads X2 a0 (zs.take m)) := Lib.hid (reads_take HR.out KX2.out m)
        have BR2 := Lib.hid bR2
        clear SX KX BRX BMX BNX BKX BLX HKX hk bR2
        go_wp2_with fail
        rw [show m = (zs.take m).length by rw [List.length_take]; omega]
        refine (same_c _ W2.heap.size _ _ (zs.take m) a0 cap0 (by rw [List.length_take]; omega) SX2.out HR2.out).mono ?_
        rintro e X3 ⟨rfl, hk⟩
        have bR3 := hk.boxed BR2.out id
        have hcR := bR3.cell
        have hfR := bR3.frozen
        have hD3 := hk.heap HD2.out id
        have KX3 := Lib.hid (KX2.out.trans hk (fun _ h => h) (fun _ _ h => h))
        have HD3 := Lib.hid hD3
        clear hk bR3 hD3 SX2 KX2 HD2 HR2 BR2 hcM hcN hcK hcL
        go_wp2
        have hK2 : (X3.setCell ⟨w.heap.size + 1 + 1, 0, none⟩ (.bool true)).heap[D]? = some (.deferred (some [])) := (Below.heap_setCell X3 ⟨w.heap.size + 1 + 1, 0, none⟩ (.bool true) D (by show D ≠ w.heap.size + 1 + 1; omega)).trans HD3.out
        refine ⟨by simp, .inl ⟨_, _, rfl, run_takeDeferred hK2, ?_⟩⟩
        have hc5 : ((X3.setCell ⟨w.heap.size + 1 + 1, 0, none⟩ (.bool true)).putObj D (.deferred none)).cell? ⟨w.heap.size + 1 + 1, 0, none⟩ = some (.bool true) :=
          ((Turned.putObj (R := fun k => k = D) _ D (.deferred none) rfl).cell (p := ⟨w.heap.size + 1 + 1, 0, none⟩) (v := .bool true) (World.cell?_setCell_same' X3 _ _ (by rw [hcR]; rfl)) (by show w.heap.size + 1 + 1 ≠ D; omega))
        refine ⟨.bool true, ?_, rfl, ?_⟩
        · simp [results, Try.f5, go_sem, hc5]
        · have t3 : Turned (fun k => k = w.heap.size + 1 + 1) X3 (X3.setCell ⟨w.heap.size + 1 + 1, 0, none⟩ (.bool true)) := Turned.setCell _ _ _ rfl
          exact (KX3.out.trans t3 (fun _ h => h) (fun i hi h => by omega)).trans (Turned.putObj (R := fun k => k = D) _ D _ rfl) (fun _ h => h) (fun i hi h => by omega)
end Go.Proofs.Yteolopbklmbcmaa
