/-
  What 'MapClone' of the statements of chapter 4 answers, for any two slices of numbers: true; nothing that lay is turned.
-/
import Derived.Test.YtfckphcbleodbaaOrder
import Derived.Test.YtfckphcbleodbaaRiseD
namespace Go.Proofs.Ytfckphcbleodbaa
open Go.RowKit Go.Shelf
attribute [local go_sem] Oper.semAt_some

theorem own_slice2 (a : Option Addr) (n c : Nat) : (Value.slice a n c).ownBlock = (Value.slice a 0 0).ownBlock := by cases a <;> rfl

theorem Lies.calm {α β : Type} {T : TypeId} {ek : α → Value} {ev : β → Value} {n : Nat} {w w' : World} (h : Calm n w w') : {t : Tr α β} → {p : Value} → Lies T ek ev w t p → Lies T ek ev w' t p
  | .nil, _, hl => hl
  | .node _ _ _ _, _, ⟨b, pl, pr, e, hn, hl, hr⟩ => ⟨b, pl, pr, e, h.heap hn, Lies.calm h hl, Lies.calm h hr⟩
theorem Mp_i.calm {n : Nat} {w w' : World} {b : Nat} {xs : List (Int × Int)} (h : Mp_i w b xs) (hc : Calm n w w') : Mp_i w' b xs := by
  obtain ⟨t, p, hb, hl, e, ha⟩ := h
  exact ⟨t, p, hc.heap hb, hl.calm hc, e, ha⟩

/-- Where MapClone stands: the map, its clone, the clone's variable, the pairs that were collected, the first loop's mark. -/
structure Mid (w wr : World) (M C Bc BX D : Nat) (v : Value) (xs ya : List (Int × Int)) : Prop where
  m : Mp_i wr M ya
  c : Mp_i wr C xs
  k : Kept w wr
  bc : Boxed wr Bc 23 (.pointer (some ⟨C, 0, none⟩))
  px : Pst wr w.heap.size BX v xs
  d : wr.heap[D]? = some (.deferred (some []))
theorem Mid.kept {w wr w' : World} {M C Bc BX D : Nat} {v : Value} {xs ya : List (Int × Int)} (h : Mid w wr M C Bc BX D v xs ya) (hk : Kept wr w') : Mid w w' M C Bc BX D v xs ya :=
  ⟨h.m.kept hk, h.c.kept hk, h.k.trans hk, hk.boxed h.bc id, h.px.kept hk, hk.heap h.d id⟩
theorem Mid.did {w wr w' : World} {M C Bc BX D : Nat} {v : Value} {xs ya yb : List (Int × Int)} (h : Mid w wr M C Bc BX D v xs ya) (hM : w.heap.size ≤ M) (hne : M ≠ C) (hd : Did_i M yb wr w') : Mid w w' M C Bc BX D v xs yb := by
  obtain ⟨p, n, hb⟩ := h.m.box
  refine ⟨hd.1, h.c.other hb hd.2 (Ne.symm hne), h.k.did hM hd.2, hd.2.boxed h.bc ?_, h.px.turned hd.2 (fun j hj e => ?_), hd.2.heap h.d ?_⟩
  · intro e
    have := show wr.heap[Bc]? = _ from h.bc
    rw [e, show wr.heap[M]? = _ from hb] at this
    cases this
  · rw [e] at hj
    exact h.px.not_map hb hj
  · intro e
    have := h.d
    rw [e, show wr.heap[M]? = _ from hb] at this
    cases this

set_option maxRecDepth 100000 in
set_option maxHeartbeats 4000000 in
theorem mapClone_c (w : World) (a : Option Addr) (zs : List Int) (cap : Nat) (hr : Reads w a zs) (hc : zs.length ≤ cap) (hm : cap ≤ maxLen) (a2 : Option Addr) (ls : List Int) (cap2 : Nat) (hr2 : Reads w a2 ls) (hc2 : ls.length ≤ cap2) :
    Calls Try.prog 7 #[.slice a zs.length cap, .slice a2 ls.length cap2] w fun e w' => e = .returned (.bool true) ∧ Kept w w' := by
  have HR := Lib.hid hr
  have HR2 := Lib.hid hr2
  clear hr hr2
  refine calls_marks Try.func7 rfl ?_
  simp only [Try.ntmps7, List.size_toArray, List.length_cons, List.length_nil, Nat.reduceAdd, Nat.reduceSub, Array.replicate_succ, Array.replicate_zero, List.push_toArray, List.append_toArray, List.nil_append, List.cons_append]
  go_wp2_with (fail)
  refine (fill_c _ _ _ _ HR.out hc hm).mono ?_
  rintro e w1 ⟨rfl, hM, hk⟩
  have hxl := fillN_le zs (min zs.length 200)
  obtain ⟨xs, hxs⟩ : ∃ xs, fillN zs (min zs.length 200) = xs := ⟨_, rfl⟩
  rw [hxs] at hM hxl
  have HXS := Lib.hid hxs
  have hxl2 : xs.length ≤ 200 := by omega
  have M1 := Lib.hid hM
  have K1 := Lib.hid hk
  have zM := hM.lt
  clear hk hM hxs hxl
  go_wp2_with (fail)
  refine (clone_i _ _ _ M1.out).mono ?_
  rintro e w2 ⟨rfl, hC, hk, z2⟩
  have C2 := Lib.hid hC
  have M2 := Lib.hid (M1.out.kept hk)
  have K2 := Lib.hid (K1.out.trans hk)
  have zC := hC.lt
  have zl2 : w1.heap.size < w2.heap.size := by omega
  clear hk hC z2 M1 K1
  go_wp2_with (fail)
  refine (all_k _ _).mono ?_
  rintro e W ⟨rfl, hk, bA, zz⟩
  simp at zz
  have kb : Kept (w2.alloc (.cells #[.pointer (some ⟨w1.heap.size, 0, none⟩)] 23)) ((w2.alloc (.cells #[.pointer (some ⟨w1.heap.size, 0, none⟩)] 23)).alloc (.cells #[.slice none 0 0] 39)) := Turned.alloc _ _ _
  have ka : Kept w2 W := ((show Kept w2 (w2.alloc (.cells #[.pointer (some ⟨w1.heap.size, 0, none⟩)] 23)) from Turned.alloc _ _ _).trans kb).trans hk
  have MA := Lib.hid (M2.out.kept ka)
  have CA := Lib.hid (C2.out.kept ka)
  have KW := Lib.hid (K2.out.trans ka)
  have BcW : Hid (Boxed W w2.heap.size 23 (.pointer (some ⟨w1.heap.size, 0, none⟩))) := Lib.hid ((kb.trans hk).boxed (Boxed.new w2 23 _) id)
  have PX : Hid (Pst W w.heap.size (w2.heap.size + 1) (.slice none 0 0) []) := Lib.hid (by
    have := (Pst.new (w2.alloc (.cells #[.pointer (some ⟨w1.heap.size, 0, none⟩)] 23)) w.heap.size (by simp; omega)).kept hk
    simpa using this)
  have BA : Hid (Boxed W (w2.heap.size + 1 + 1) 23 (.pointer (some ⟨w.heap.size, 0, none⟩))) := Lib.hid (by simpa using bA)
  have zW : w2.heap.size + 1 + 1 < W.heap.size := by omega
  clear hk bA zz ka kb M2 K2 C2
  obtain ⟨y0, hi, hz0, hz1, hz2⟩ := info_parts info45
  go_wp2_with (fail)
  refine wp_range2 (gf := 37) rfl (enters_of Try.func37 (by kernel_rfl) rfl) (encs := enc_i) (xs := xs) (R := Reads_i W (w2.heap.size + 1 + 1) w.heap.size)
    (fun X hX => all1_i W X hX _ _ xs BA.out MA.out) (fun _ => rfl) (Foot (w2.heap.size + 1) (.slice none 0 0)) (Coll w.heap.size (w2.heap.size + 1) (fun pre => pre)) (fun _ _ _ _ => False) (fun j hj => ⟨MA.out.reads zW hj, ?notOwn⟩)
    (Coll.good _ _ _) (fun _ => good_false) ⟨_, fun _ => Iff.rfl, PX.out⟩ ?ab ?done (fun _ _ _ _ _ _ _ _ _ _ _ h => h.elim)
  case notOwn =>
    rintro (rfl | hf)
    · rcases hj with hj | hj | hj
      · omega
      · omega
      · exact PX.out.notNode (.inl rfl) (T := 71) (by decide) (by decide) hj
    · simp [Value.ownBlock] at hf
  case ab =>
    apply Exists.intro
    refine ⟨?_, ?_⟩
    · intro l' x X K hK
      gi_wp2
      exact hK
    · rintro l' O pre ⟨x, xv⟩ rest A hx tA sA ⟨v, hO, hp⟩
      have hpl : pre.length ≤ 200 := by
        have := congrArg List.length hx
        simp at this
        omega
      have zA := tA.size
      have hcX := hp.box.cell
      have HO := Lib.hid hO
      have HP := Lib.hid hp
      have hrow := hp.row.alloc (.cells #[.int .i64 x, .int .i64 xv] 45)
      clear hx tA sA hO hp
      gi_wp2_with (gi_at_builtin; refine wpListIn_append_own_at _ rfl _ _ 39 rfl w.heap.size 45 y0 (.agg #[.int .i64 0, .int .i64 0]) 2 16 Try.underlying39 hi hz0 hz1 hz2 rfl (by decide) v pre.length (flat pre) rfl hrow ⟨A.heap.size, 0, none⟩ 1 1 [.int .i64 x, .int .i64 xv] rfl rfl (two_new _ _ _) (by simp [Value.oneCell']) (by unfold maxLen; omega) (by omega) (by simp; omega) ?_; intro v' A1 hown hgrow _ hat; obtain ⟨g, gc, rfl⟩ := ownsRow_succ hown; obtain ⟨hb1, hg⟩ := grew_of (tmp := .cells #[.int .i64 x, .int .i64 xv] 45) (ys := pre ++ [(x, xv)]) (by omega) HP.out (by simpa [flat_append, flat] using hown) hgrow hat; have hc1 := hb1.cell; have hf1 := hb1.frozen; clear hcX)
      exact Coll.next HO.out hg rfl
  case done =>
    rintro D O X0 hD nD tX sX ⟨v, hO, hp⟩ hK
    have hRn : ∀ j, IsNode 71 W j → ¬ Foot (w2.heap.size + 1) (.slice none 0 0) j := fun j hj hf => PX.out.notNode hf (T := 71) (by decide) (by decide) hj
    obtain ⟨xa, xc, rfl, hpr, hxc⟩ := preads_of_row hp.row
    have S0 : Hid (Mid w X0 w.heap.size w1.heap.size w2.heap.size (w2.heap.size + 1) D (.slice xa xs.length xc) xs xs) := Lib.hid
      ⟨MA.out.turned tX (fun h => h.elim (fun h => by omega) (fun h => by simp [Value.ownBlock] at h)) hRn, CA.out.turned tX (fun h => h.elim (fun h => by omega) (fun h => by simp [Value.ownBlock] at h)) hRn,
       KW.out.own (fun i h => h.elim (fun h => by omega) (fun h => by simp [Value.ownBlock] at h)) tX, tX.boxed BcW.out (fun h => h.elim (fun h => by omega) (fun h => by simp [Value.ownBlock] at h)), hp, hK⟩
    have zX0 : W.heap.size ≤ X0.heap.size := tX.size
    have dl0 : D < X0.heap.size := (Array.getElem?_eq_some_iff.1 hK).1
    clear tX sX hK nD hO hp hpr MA CA KW PX BA BcW hRn
    go_wp2_with (fail)
    go_loopw [10] (fun i wr => ∃ k : Nat, k ≤ ls.length ∧ k ≤ 200 ∧ i = .int .i64 k ∧ ∃ ya, Hid (Mid w wr w.heap.size w1.heap.size w2.heap.size (w2.heap.size + 1) D (.slice xa xs.length xc) xs ya) ∧ ya.length ≤ 200 + k ∧ (k = 0 → ya = xs) ∧ X0.heap.size ≤ wr.heap.size) (fun i _ => 200 - (intOf i).toNat)
    case atStart => exact ⟨0, Nat.zero_le _, by omega, rfl, xs, S0, by omega, fun _ => rfl, Nat.le_refl _⟩
    case round =>
      obtain ⟨k, hk1, hk2, rfl, ya, S, hyl, hy0, hzw⟩ := hrel
      clear S0
      by_cases hlt : k < ls.length ∧ k < 200
      · obtain ⟨hlt1, hlt2⟩ := hlt
        obtain ⟨z, hz⟩ : ∃ z, ls[k]? = some z := ⟨_, List.getElem?_eq_getElem hlt1⟩
        obtain ⟨bl2, off2, rfl, hb0, hrow0⟩ := HR2.out.at hz
        have hrow := S.out.k.cell hrow0 id
        have i1 : (k : Int) < (ls.length : Int) := by omega
        have i2 : k < cap2 := by omega
        have HY0 := Lib.hid hy0
        clear hz hy0
        go_wp2_with (fail)
        refine (put_i _ _ _ S.out.m z (-7) (by omega)).mono ?_
        rintro e w3 ⟨rfl, hd⟩
        have S3 := Lib.hid (S.out.did (Nat.le_refl _) (by omega) hd)
        have l3 := length_put_le (lt := ltI) (xs := ya) (k := z) (v := -7)
        have z3 := hd.2.size
        have hrow3 := S3.out.k.cell hrow0 id
        clear hd hrow
        go_wp2_with (fail)
        refine (del_i _ _ _ S3.out.m _ (by omega)).mono ?_
        rintro e w4 ⟨rfl, hd⟩
        have S4 := Lib.hid (S3.out.did (Nat.le_refl _) (by omega) hd)
        have l4 := (del_sub (lt := ltI) (xs := put ltI ya z (-7)) (k := wrap64 (z.tdiv 2))).length_le
        have z4 := hd.2.size
        clear hd
        go_wp2
        exact ⟨⟨k + 1, by omega, by omega, by simp, _, S4, by omega, by omega, by omega⟩, by simp [intOf]; omega⟩
      · obtain ⟨_, _, hve, hpr, _⟩ := preads_of_row S.out.px.row
        obtain ⟨rfl⟩ : xa = _ := (Value.slice.inj hve).1
        have RR := Lib.hid hpr
        have wrl : w2.heap.size + 1 < wr.heap.size ∧ D < wr.heap.size := ⟨by omega, by omega⟩
        clear hve hpr
        by_cases hls : ls.length = 0
        · have hk0 : k = 0 := by omega
          have hyx := hy0 hk0
          rw [hyx] at S
          have hl0 : ¬ ((0 : Int) < (ls.length : Int)) := by omega
          have hl1 : ¬ (k < ls.length) := by omega
          clear hlt hy0
          have cB0 := S.out.bc.cell
          have cX0 := S.out.px.box.cell
          go_wp2_with (fail)
          refine (same_c _ _ xs S.out.c xa xc RR.out hxc (by omega)).mono ?_
          rintro e Y ⟨rfl, hk⟩
          have SY := Lib.hid (S.out.kept hk)
          have RY := Lib.hid (RR.out.kept hk)
          have zY : wr.heap.size ≤ Y.heap.size := hk.size
          clear hk S RR cB0 cX0
          go_wp2_with (fail)
          refine (fill_c _ _ _ _ (HR.out.kept SY.out.k) hc hm).mono ?_
          rintro e Y2 ⟨rfl, hM2, hk⟩
          rw [HXS.out] at hM2
          have zM2 := hM2.lt
          have M2 := Lib.hid hM2
          have S2 := Lib.hid (SY.out.kept hk)
          have R2 := Lib.hid (RY.out.kept hk)
          clear hk hM2 SY RY
          go_wp2_with (fail)
          refine (all_k _ _).mono ?_
          rintro e W2 ⟨rfl, hk, bA, zz⟩
          have BA := Lib.hid bA
          have M3 := Lib.hid (M2.out.kept hk)
          have S3 := Lib.hid (S2.out.kept hk)
          have R3 := Lib.hid (R2.out.kept hk)
          have zW2 : Y2.heap.size < W2.heap.size := by omega
          clear hk bA zz M2 S2 R2
          have cl3 := S3.out.c.lt
          have zS : w2.heap.size + 1 < wr.heap.size ∧ D < wr.heap.size := ⟨by have := (wrl).1; omega, (wrl).2⟩
          obtain ⟨zs1, zs2⟩ := zS
          go_wp2_with (fail)
          refine wp_rangeD' (gf := 37) rfl (enters_of Try.func37 (by kernel_rfl) rfl) (encs := enc_i) (xs := xs) (R := Reads_i W2 Y2.heap.size Y.heap.size)
            (fun X hX => all1_d W2 X hX _ _ xs BA.out M3.out) (fun _ => rfl) (fun j => j = w1.heap.size) (fun O pre A => (∀ j, O j ↔ j = w1.heap.size) ∧ ∃ rest, xs = pre ++ rest ∧ Mp_i A w1.heap.size rest) (fun _ _ _ _ => False) (fun j hj => ⟨M3.out.reads zW2 hj, ?notOwn2⟩)
            (fun j hj => by omega) (fun O pre A B h ht => ⟨h.1, by obtain ⟨rest, e, hm⟩ := h.2; exact ⟨rest, e, hm.calm ht⟩⟩) (fun _ _ _ _ _ h _ => h) ⟨fun _ => Iff.rfl, xs, rfl, S3.out.c⟩ ?ab2 ?done2 (fun _ _ _ _ _ _ _ _ _ _ _ h => h.elim)
          case notOwn2 =>
            rintro rfl
            rcases hj with hj | hj | hj
            · omega
            · omega
            · obtain ⟨p, n, hb⟩ := S3.out.c.box
              exact hb.notNode (T := 71) (by decide) hj
          case ab2 =>
            apply Exists.intro
            refine ⟨?_, ?_⟩
            · intro l' x X K hK
              gi_wp2
              exact hK
            · rintro l' O pre ⟨x, xv⟩ rest A hx tA sA ⟨hO, rest', hxe, hMc⟩
              have hrr : rest' = (x, xv) :: rest := List.append_cancel_left (hxe.symm.trans hx)
              subst hrr
              have hdel : Hid (del ltI ((x, xv) :: rest) x = rest) := Lib.hid (by simp [del, ltI])
              have hrl : ((x, xv) :: rest).length ≤ 5000 := by
                have := congrArg List.length hx
                simp at this ⊢
                omega
              have cB := (tA.boxed S3.out.bc (by omega)).cell
              have HO := Lib.hid hO
              have HM := Lib.hid hMc
              have HX := Lib.hid hx
              have HL := Lib.hid hrl
              clear hx tA sA hO hMc hxe hrl
              gi_wp2_with (fail)
              refine ⟨trivial, ?_⟩
              refine (CallsIn.inRound l' (callsIn_wide.2 (del_i _ _ _ HM.out x HL.out))).mono ?_
              rintro e A2 ⟨rfl, hd⟩
              rw [hdel.out] at hd
              have HD := Lib.hid hd
              clear hd
              gi_wp2
              exact ⟨O, Sub.refl _ _, HD.out.2.mono (fun j _ hj => (HO.out j).2 hj), HO.out, rest, by rw [HX.out]; simp, HD.out.1⟩
          case done2 =>
            rintro E O2 X hE nE tX sX ⟨hO, rest, hxe, hMc⟩ hK
            have hrn : rest = [] := by
              have := congrArg List.length hxe
              rw [List.length_append] at this
              exact List.length_eq_zero_iff.1 (by omega)
            subst hrn
            have kX := Lib.hid (S3.out.k.own (fun i hi => by omega) tX)
            have CX := Lib.hid hMc
            have BX2 := Lib.hid (tX.boxed S3.out.bc (by omega))
            have nC : ∀ j, Foot (w2.heap.size + 1) (.slice xa xs.length xc) j → ¬ j = w1.heap.size := fun j hj e => by
              obtain ⟨p, n, hb⟩ := S3.out.c.box
              rw [e] at hj
              exact S3.out.px.not_map hb hj
            have PX2 := Lib.hid (S3.out.px.turned tX nC)
            have RX2 : Hid (PReads X xa xs) := Lib.hid (R3.out.turned tX (fun j hj => nC j (.inr (by rw [own_slice2]; exact hj))))
            obtain ⟨cp, cn, hcb⟩ := S3.out.c.box
            have MX2 := Lib.hid (S3.out.m.other hcb tX (by omega))
            have D1X := Lib.hid (tX.heap S3.out.d (by omega))
            have D2X := Lib.hid hK
            have hED : E ≠ D := by
              have := (Array.getElem?_eq_some_iff.1 S3.out.d).1
              omega
            clear tX sX hK nE hO hMc hxe S3 M3 R3 BA hcb nC
            go_wp2_with (fail)
            refine (known_c _).mono ?_
            rintro e Z ⟨rfl, hk⟩
            have kZ := Lib.hid (kX.out.trans hk)
            have cB := (hk.boxed BX2.out id).cell
            have cX := (hk.boxed PX2.out.box id).cell
            have CZ := Lib.hid (CX.out.kept hk)
            have MZ := Lib.hid (MX2.out.kept hk)
            have RZ := Lib.hid (RX2.out.kept hk)
            have e1 := Lib.hid (hk.heap D1X.out id)
            have e2 := Lib.hid (hk.heap D2X.out id)
            clear hk kX BX2 PX2 CX MX2 RX2 D1X D2X
            go_wp2_with (fail)
            refine (show Calls Try.prog 17 _ _ (fun e w' => e = .returned (.int .i64 0) ∧ _ = w') from len_i _ _ _ CZ.out).mono ?_
            rintro e w' ⟨rfl, rfl⟩
            go_wp2_with (fail)
            refine (same_c _ _ xs MZ.out xa xc RZ.out hxc (by omega)).mono ?_
            rintro e Z2 ⟨rfl, hk⟩
            have kZ2 := Lib.hid (kZ.out.trans hk)
            have f1 := Lib.hid (hk.heap e1.out id)
            have f2 := Lib.hid (hk.heap e2.out id)
            clear hk
            go_wp2
            refine leave_marks [E, D] Z2 ?_ (by simp; omega) ?_
            · intro j hj
              simp at hj
              rcases hj with rfl | rfl
              · exact f2.out
              · exact f1.out
            · intro X' hX'
              exact ⟨_, results_tmp rfl _ _ _, rfl, kZ2.out.own (fun i hi => by simp at hi; omega) hX'⟩
        · have hl0 : (0 : Int) < (ls.length : Int) := by omega
          clear hy0
          by_cases h1 : k < ls.length
          · have h2 : (200 : Int) ≤ (k : Int) := by omega
            clear hlt
            have cB0 := S.out.bc.cell
            have cX0 := S.out.px.box.cell
            go_wp2_with (fail)
            refine (same_c _ _ xs S.out.c xa xc RR.out hxc (by omega)).mono ?_
            rintro e Y ⟨rfl, hk⟩
            have SY := Lib.hid (S.out.kept hk)
            have RY := Lib.hid (RR.out.kept hk)
            have zY : wr.heap.size ≤ Y.heap.size := hk.size
            clear hk S RR cB0 cX0
            go_wp2_with (fail)
            refine (fill_c _ _ _ _ (HR.out.kept SY.out.k) hc hm).mono ?_
            rintro e Y2 ⟨rfl, hM2, hk⟩
            rw [HXS.out] at hM2
            have zM2 := hM2.lt
            have M2 := Lib.hid hM2
            have S2 := Lib.hid (SY.out.kept hk)
            have R2 := Lib.hid (RY.out.kept hk)
            clear hk hM2 SY RY
            go_wp2_with (fail)
            refine (all_k _ _).mono ?_
            rintro e W2 ⟨rfl, hk, bA, zz⟩
            have BA := Lib.hid bA
            have M3 := Lib.hid (M2.out.kept hk)
            have S3 := Lib.hid (S2.out.kept hk)
            have R3 := Lib.hid (R2.out.kept hk)
            have zW2 : Y2.heap.size < W2.heap.size := by omega
            clear hk bA zz M2 S2 R2
            have cl3 := S3.out.c.lt
            have zS : w2.heap.size + 1 < wr.heap.size ∧ D < wr.heap.size := ⟨by have := (wrl).1; omega, (wrl).2⟩
            obtain ⟨zs1, zs2⟩ := zS
            go_wp2_with (fail)
            refine wp_rangeD' (gf := 37) rfl (enters_of Try.func37 (by kernel_rfl) rfl) (encs := enc_i) (xs := xs) (R := Reads_i W2 Y2.heap.size Y.heap.size)
              (fun X hX => all1_d W2 X hX _ _ xs BA.out M3.out) (fun _ => rfl) (fun j => j = w1.heap.size) (fun O pre A => (∀ j, O j ↔ j = w1.heap.size) ∧ ∃ rest, xs = pre ++ rest ∧ Mp_i A w1.heap.size rest) (fun _ _ _ _ => False) (fun j hj => ⟨M3.out.reads zW2 hj, ?notOwn2⟩)
              (fun j hj => by omega) (fun O pre A B h ht => ⟨h.1, by obtain ⟨rest, e, hm⟩ := h.2; exact ⟨rest, e, hm.calm ht⟩⟩) (fun _ _ _ _ _ h _ => h) ⟨fun _ => Iff.rfl, xs, rfl, S3.out.c⟩ ?ab2 ?done2 (fun _ _ _ _ _ _ _ _ _ _ _ h => h.elim)
            case notOwn2 =>
              rintro rfl
              rcases hj with hj | hj | hj
              · omega
              · omega
              · obtain ⟨p, n, hb⟩ := S3.out.c.box
                exact hb.notNode (T := 71) (by decide) hj
            case ab2 =>
              apply Exists.intro
              refine ⟨?_, ?_⟩
              · intro l' x X K hK
                gi_wp2
                exact hK
              · rintro l' O pre ⟨x, xv⟩ rest A hx tA sA ⟨hO, rest', hxe, hMc⟩
                have hrr : rest' = (x, xv) :: rest := List.append_cancel_left (hxe.symm.trans hx)
                subst hrr
                have hdel : Hid (del ltI ((x, xv) :: rest) x = rest) := Lib.hid (by simp [del, ltI])
                have hrl : ((x, xv) :: rest).length ≤ 5000 := by
                  have := congrArg List.length hx
                  simp at this ⊢
                  omega
                have cB := (tA.boxed S3.out.bc (by omega)).cell
                have HO := Lib.hid hO
                have HM := Lib.hid hMc
                have HX := Lib.hid hx
                have HL := Lib.hid hrl
                clear hx tA sA hO hMc hxe hrl
                gi_wp2_with (fail)
                refine ⟨trivial, ?_⟩
                refine (CallsIn.inRound l' (callsIn_wide.2 (del_i _ _ _ HM.out x HL.out))).mono ?_
                rintro e A2 ⟨rfl, hd⟩
                rw [hdel.out] at hd
                have HD := Lib.hid hd
                clear hd
                gi_wp2
                exact ⟨O, Sub.refl _ _, HD.out.2.mono (fun j _ hj => (HO.out j).2 hj), HO.out, rest, by rw [HX.out]; simp, HD.out.1⟩
            case done2 =>
              rintro E O2 X hE nE tX sX ⟨hO, rest, hxe, hMc⟩ hK
              have hrn : rest = [] := by
                have := congrArg List.length hxe
                rw [List.length_append] at this
                exact List.length_eq_zero_iff.1 (by omega)
              subst hrn
              have kX := Lib.hid (S3.out.k.own (fun i hi => by omega) tX)
              have CX := Lib.hid hMc
              have BX2 := Lib.hid (tX.boxed S3.out.bc (by omega))
              have nC : ∀ j, Foot (w2.heap.size + 1) (.slice xa xs.length xc) j → ¬ j = w1.heap.size := fun j hj e => by
                obtain ⟨p, n, hb⟩ := S3.out.c.box
                rw [e] at hj
                exact S3.out.px.not_map hb hj
              have PX2 := Lib.hid (S3.out.px.turned tX nC)
              have RX2 : Hid (PReads X xa xs) := Lib.hid (R3.out.turned tX (fun j hj => nC j (.inr (by rw [own_slice2]; exact hj))))
              obtain ⟨cp, cn, hcb⟩ := S3.out.c.box
              have MX2 := Lib.hid (S3.out.m.other hcb tX (by omega))
              have D1X := Lib.hid (tX.heap S3.out.d (by omega))
              have D2X := Lib.hid hK
              have hED : E ≠ D := by
                have := (Array.getElem?_eq_some_iff.1 S3.out.d).1
                omega
              clear tX sX hK nE hO hMc hxe S3 M3 R3 BA hcb nC
              go_wp2_with (fail)
              refine (known_c _).mono ?_
              rintro e Z ⟨rfl, hk⟩
              have kZ := Lib.hid (kX.out.trans hk)
              have cB := (hk.boxed BX2.out id).cell
              have cX := (hk.boxed PX2.out.box id).cell
              have CZ := Lib.hid (CX.out.kept hk)
              have MZ := Lib.hid (MX2.out.kept hk)
              have RZ := Lib.hid (RX2.out.kept hk)
              have e1 := Lib.hid (hk.heap D1X.out id)
              have e2 := Lib.hid (hk.heap D2X.out id)
              clear hk kX BX2 PX2 CX MX2 RX2 D1X D2X
              go_wp2_with (fail)
              refine (show Calls Try.prog 17 _ _ (fun e w' => e = .returned (.int .i64 0) ∧ _ = w') from len_i _ _ _ CZ.out).mono ?_
              rintro e w' ⟨rfl, rfl⟩
              go_wp2
              refine leave_marks [E, D] Z ?_ (by simp; omega) ?_
              · intro j hj
                simp at hj
                rcases hj with rfl | rfl
                · exact e2.out
                · exact e1.out
              · intro X' hX'
                exact ⟨_, results_tmp rfl _ _ _, rfl, kZ.out.own (fun i hi => by simp at hi; omega) hX'⟩
          · clear hlt
            have cB0 := S.out.bc.cell
            have cX0 := S.out.px.box.cell
            go_wp2_with (fail)
            refine (same_c _ _ xs S.out.c xa xc RR.out hxc (by omega)).mono ?_
            rintro e Y ⟨rfl, hk⟩
            have SY := Lib.hid (S.out.kept hk)
            have RY := Lib.hid (RR.out.kept hk)
            have zY : wr.heap.size ≤ Y.heap.size := hk.size
            clear hk S RR cB0 cX0
            go_wp2_with (fail)
            refine (fill_c _ _ _ _ (HR.out.kept SY.out.k) hc hm).mono ?_
            rintro e Y2 ⟨rfl, hM2, hk⟩
            rw [HXS.out] at hM2
            have zM2 := hM2.lt
            have M2 := Lib.hid hM2
            have S2 := Lib.hid (SY.out.kept hk)
            have R2 := Lib.hid (RY.out.kept hk)
            clear hk hM2 SY RY
            go_wp2_with (fail)
            refine (all_k _ _).mono ?_
            rintro e W2 ⟨rfl, hk, bA, zz⟩
            have BA := Lib.hid bA
            have M3 := Lib.hid (M2.out.kept hk)
            have S3 := Lib.hid (S2.out.kept hk)
            have R3 := Lib.hid (R2.out.kept hk)
            have zW2 : Y2.heap.size < W2.heap.size := by omega
            clear hk bA zz M2 S2 R2
            have cl3 := S3.out.c.lt
            have zS : w2.heap.size + 1 < wr.heap.size ∧ D < wr.heap.size := ⟨by have := (wrl).1; omega, (wrl).2⟩
            obtain ⟨zs1, zs2⟩ := zS
            go_wp2_with (fail)
            refine wp_rangeD' (gf := 37) rfl (enters_of Try.func37 (by kernel_rfl) rfl) (encs := enc_i) (xs := xs) (R := Reads_i W2 Y2.heap.size Y.heap.size)
              (fun X hX => all1_d W2 X hX _ _ xs BA.out M3.out) (fun _ => rfl) (fun j => j = w1.heap.size) (fun O pre A => (∀ j, O j ↔ j = w1.heap.size) ∧ ∃ rest, xs = pre ++ rest ∧ Mp_i A w1.heap.size rest) (fun _ _ _ _ => False) (fun j hj => ⟨M3.out.reads zW2 hj, ?notOwn2⟩)
              (fun j hj => by omega) (fun O pre A B h ht => ⟨h.1, by obtain ⟨rest, e, hm⟩ := h.2; exact ⟨rest, e, hm.calm ht⟩⟩) (fun _ _ _ _ _ h _ => h) ⟨fun _ => Iff.rfl, xs, rfl, S3.out.c⟩ ?ab2 ?done2 (fun _ _ _ _ _ _ _ _ _ _ _ h => h.elim)
            case notOwn2 =>
              rintro rfl
              rcases hj with hj | hj | hj
              · omega
              · omega
              · obtain ⟨p, n, hb⟩ := S3.out.c.box
                exact hb.notNode (T := 71) (by decide) hj
            case ab2 =>
              apply Exists.intro
              refine ⟨?_, ?_⟩
              · intro l' x X K hK
                gi_wp2
                exact hK
              · rintro l' O pre ⟨x, xv⟩ rest A hx tA sA ⟨hO, rest', hxe, hMc⟩
                have hrr : rest' = (x, xv) :: rest := List.append_cancel_left (hxe.symm.trans hx)
                subst hrr
                have hdel : Hid (del ltI ((x, xv) :: rest) x = rest) := Lib.hid (by simp [del, ltI])
                have hrl : ((x, xv) :: rest).length ≤ 5000 := by
                  have := congrArg List.length hx
                  simp at this ⊢
                  omega
                have cB := (tA.boxed S3.out.bc (by omega)).cell
                have HO := Lib.hid hO
                have HM := Lib.hid hMc
                have HX := Lib.hid hx
                have HL := Lib.hid hrl
                clear hx tA sA hO hMc hxe hrl
                gi_wp2_with (fail)
                refine ⟨trivial, ?_⟩
                refine (CallsIn.inRound l' (callsIn_wide.2 (del_i _ _ _ HM.out x HL.out))).mono ?_
                rintro e A2 ⟨rfl, hd⟩
                rw [hdel.out] at hd
                have HD := Lib.hid hd
                clear hd
                gi_wp2
                exact ⟨O, Sub.refl _ _, HD.out.2.mono (fun j _ hj => (HO.out j).2 hj), HO.out, rest, by rw [HX.out]; simp, HD.out.1⟩
            case done2 =>
              rintro E O2 X hE nE tX sX ⟨hO, rest, hxe, hMc⟩ hK
              have hrn : rest = [] := by
                have := congrArg List.length hxe
                rw [List.length_append] at this
                exact List.length_eq_zero_iff.1 (by omega)
              subst hrn
              have kX := Lib.hid (S3.out.k.own (fun i hi => by omega) tX)
              have CX := Lib.hid hMc
              have BX2 := Lib.hid (tX.boxed S3.out.bc (by omega))
              have nC : ∀ j, Foot (w2.heap.size + 1) (.slice xa xs.length xc) j → ¬ j = w1.heap.size := fun j hj e => by
                obtain ⟨p, n, hb⟩ := S3.out.c.box
                rw [e] at hj
                exact S3.out.px.not_map hb hj
              have PX2 := Lib.hid (S3.out.px.turned tX nC)
              have RX2 : Hid (PReads X xa xs) := Lib.hid (R3.out.turned tX (fun j hj => nC j (.inr (by rw [own_slice2]; exact hj))))
              obtain ⟨cp, cn, hcb⟩ := S3.out.c.box
              have MX2 := Lib.hid (S3.out.m.other hcb tX (by omega))
              have D1X := Lib.hid (tX.heap S3.out.d (by omega))
              have D2X := Lib.hid hK
              have hED : E ≠ D := by
                have := (Array.getElem?_eq_some_iff.1 S3.out.d).1
                omega
              clear tX sX hK nE hO hMc hxe S3 M3 R3 BA hcb nC
              go_wp2_with (fail)
              refine (known_c _).mono ?_
              rintro e Z ⟨rfl, hk⟩
              have kZ := Lib.hid (kX.out.trans hk)
              have cB := (hk.boxed BX2.out id).cell
              have cX := (hk.boxed PX2.out.box id).cell
              have CZ := Lib.hid (CX.out.kept hk)
              have MZ := Lib.hid (MX2.out.kept hk)
              have RZ := Lib.hid (RX2.out.kept hk)
              have e1 := Lib.hid (hk.heap D1X.out id)
              have e2 := Lib.hid (hk.heap D2X.out id)
              clear hk kX BX2 PX2 CX MX2 RX2 D1X D2X
              go_wp2_with (fail)
              refine (show Calls Try.prog 17 _ _ (fun e w' => e = .returned (.int .i64 0) ∧ _ = w') from len_i _ _ _ CZ.out).mono ?_
              rintro e w' ⟨rfl, rfl⟩
              go_wp2
              refine leave_marks [E, D] Z ?_ (by simp; omega) ?_
              · intro j hj
                simp at hj
                rcases hj with rfl | rfl
                · exact e2.out
                · exact e1.out
              · intro X' hX'
                exact ⟨_, results_tmp rfl _ _ _, rfl, kZ.out.own (fun i hi => by simp at hi; omega) hX'⟩
end Go.Proofs.Ytfckphcbleodbaa
