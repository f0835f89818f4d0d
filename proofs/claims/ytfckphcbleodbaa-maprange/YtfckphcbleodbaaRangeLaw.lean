/-
  What 'MapRange' of the statements of chapter 4 answers, for any slice of numbers, any two keys and any count: true; nothing that lay is turned.
-/
import Derived.Test.YtfckphcbleodbaaRefA
import Derived.Test.YtfckphcbleodbaaFill
import Derived.Test.YtfckphcbleodbaaHand
namespace Go.Proofs.Ytfckphcbleodbaa
open Go.RowKit Go.Shelf
attribute [local go_sem] Oper.semAt_some

theorem own_slice (a : Option Addr) (n c : Nat) : (Value.slice a n c).ownBlock = (Value.slice a 0 0).ownBlock := by cases a <;> rfl

set_option maxRecDepth 100000 in
set_option maxHeartbeats 4000000 in
theorem mapRange_c (w : World) (a : Option Addr) (zs : List Int) (cap : Nat) (hr : Reads w a zs) (hc : zs.length ≤ cap) (hm : cap ≤ maxLen) (lo hi n : Int) :
    Calls Try.prog 5 #[.slice a zs.length cap, .int .i64 lo, .int .i64 hi, .int .i64 n] w fun e w' => e = .returned (.bool true) ∧ Kept w w' := by
  have HR := Lib.hid hr
  clear hr
  refine calls_marks Try.func5 rfl ?_
  simp only [Try.ntmps5, List.size_toArray, List.length_cons, List.length_nil, Nat.reduceAdd, Nat.reduceSub, Array.replicate_succ, Array.replicate_zero, List.push_toArray, List.append_toArray, List.nil_append, List.cons_append]
  go_wp2_with (fail)
  refine (known_c _).mono ?_
  rintro e w1 ⟨rfl, hk⟩
  have B7 : Hid (Boxed w1 w.heap.size 3 (.int .i64 n)) := Lib.hid (hk.boxed ((Boxed.new w 3 (.int .i64 n)).alloc _) id)
  have B8 : Hid (Boxed w1 (w.heap.size + 1) 4 (.bool false)) := Lib.hid (by
    have := hk.boxed (Boxed.new (w.alloc (.cells #[.int .i64 n] 3)) 4 (.bool false)) id
    simpa using this)
  have K1 := Lib.hid (((show Kept w (w.alloc (.cells #[.int .i64 n] 3)) from Turned.alloc _ _ _).trans (Turned.alloc _ _ _)).trans hk)
  have z1 : w.heap.size + 2 ≤ w1.heap.size := by have := hk.size; simpa using this
  clear hk
  go_wp2_with (fail)
  refine (fill_c _ _ _ _ (HR.out.kept K1.out) hc hm).mono ?_
  rintro e w2 ⟨rfl, hM, hk⟩
  have hxl := fillN_le zs (min zs.length 200)
  obtain ⟨xs, hxs⟩ : ∃ xs, fillN zs (min zs.length 200) = xs := ⟨_, rfl⟩
  rw [hxs] at hM hxl
  have hxl2 : xs.length ≤ 200 := by omega
  have M2 := Lib.hid hM
  have K2 := Lib.hid (K1.out.trans hk)
  have B72 := Lib.hid (hk.boxed B7.out id)
  have B82 := Lib.hid (hk.boxed B8.out id)
  have zM := hM.lt
  have HASC := Lib.hid hM.asc
  clear hk hM hxs hxl K1 B7 B8
  go_wp2_with (fail)
  refine (all_k _ _).mono ?_
  rintro e W ⟨rfl, hk, bA, zz⟩
  simp at zz
  have ka : Kept w2 W := (show Kept w2 (w2.alloc (.cells #[.slice none 0 0] 39)) from Turned.alloc _ _ _).trans hk
  have MA := Lib.hid (M2.out.kept ka)
  have KW := Lib.hid (K2.out.trans ka)
  have B7W := Lib.hid (ka.boxed B72.out id)
  have B8W := Lib.hid (ka.boxed B82.out id)
  have PX := Lib.hid ((Pst.new w2 w.heap.size (by omega)).kept hk)
  have BA : Hid (Boxed W (w2.heap.size + 1) 23 (.pointer (some ⟨w1.heap.size, 0, none⟩))) := Lib.hid (by simpa using bA)
  have zW : w2.heap.size + 1 < W.heap.size := by omega
  clear hk bA zz ka M2 K2 B72 B82
  obtain ⟨y0, hi', hz0, hz1, hz2⟩ := info_parts info45
  go_wp2_with (fail)
  refine wp_range2 (gf := 37) rfl (enters_of Try.func37 (by kernel_rfl) rfl) (encs := enc_i) (xs := xs) (R := Reads_i W (w2.heap.size + 1) w1.heap.size)
    (fun X hX => all1_i W X hX _ _ xs BA.out MA.out) (fun _ => rfl) (Foot w2.heap.size (.slice none 0 0)) (Coll w.heap.size w2.heap.size (fun pre => pre)) (fun _ _ _ _ => False) (fun j hj => ⟨MA.out.reads zW hj, ?notOwn⟩)
    (Coll.good _ _ _) (fun _ => good_false) ⟨_, fun _ => Iff.rfl, PX.out⟩ ?ab ?done (fun _ _ _ _ _ _ _ _ _ _ _ h => h.elim)
  case notOwn =>
    rintro (rfl | hf)
    · rcases hj with hj | hj | hj
      · omega
      · omega
      · exact PX.out.notNode (.inl rfl) (T := 71) (by decide) (by decide) hj
    · simp [Value.ownBlock] at hf
  case ab =>
    apply Exists.intro
    refine ⟨?_, ?_⟩
    · intro l' x X K hK
      gi_wp2
      exact hK
    · rintro l' O pre ⟨x, xv⟩ rest A hx tA sA ⟨v, hO, hp⟩
      have hpl : pre.length ≤ 200 := by
        have := congrArg List.length hx
        simp at this
        omega
      have zA := tA.size
      have hcX := hp.box.cell
      have HO := Lib.hid hO
      have HP := Lib.hid hp
      have hrow := hp.row.alloc (.cells #[.int .i64 x, .int .i64 xv] 45)
      clear hx tA sA hO hp
      gi_wp2_with (gi_at_builtin; refine wpListIn_append_own_at _ rfl _ _ 39 rfl w.heap.size 45 y0 (.agg #[.int .i64 0, .int .i64 0]) 2 16 Try.underlying39 hi' hz0 hz1 hz2 rfl (by decide) v pre.length (flat pre) rfl hrow ⟨A.heap.size, 0, none⟩ 1 1 [.int .i64 x, .int .i64 xv] rfl rfl (two_newR _ _ _) (by simp [Value.oneCell']) (by unfold maxLen; omega) (by omega) (by simp; omega) ?_; intro v' A1 hown hgrow _ hat; obtain ⟨g, gc, rfl⟩ := ownsRow_succ hown; obtain ⟨hb1, hg⟩ := grew_of (tmp := .cells #[.int .i64 x, .int .i64 xv] 45) (ys := pre ++ [(x, xv)]) (by omega) HP.out (by simpa [flat_append, flat] using hown) hgrow hat; have hc1 := hb1.cell; have hf1 := hb1.frozen; clear hcX)
      exact Coll.next HO.out hg rfl
  case done =>
    rintro D O X hD nD tX sX ⟨v, hO, hp⟩ hK
    have hRn : ∀ j, IsNode 71 W j → ¬ Foot w2.heap.size (.slice none 0 0) j := fun j hj hf => PX.out.notNode hf (T := 71) (by decide) (by decide) hj
    have MX := Lib.hid (MA.out.turned tX (fun h => h.elim (fun h => by omega) (fun h => by simp [Value.ownBlock] at h)) hRn)
    have kX := Lib.hid (KW.out.own (fun i h => h.elim (fun h => by omega) (fun h => by simp [Value.ownBlock] at h)) tX)
    have B7X := Lib.hid (tX.boxed B7W.out (fun h => h.elim (fun h => by omega) (fun h => by simp [Value.ownBlock] at h)))
    have B8X := Lib.hid (tX.boxed B8W.out (fun h => h.elim (fun h => by omega) (fun h => by simp [Value.ownBlock] at h)))
    obtain ⟨xa, xc, rfl, hpr, hxc⟩ := preads_of_row hp.row
    have hcX := hp.box.cell
    have PXX := Lib.hid hp
    have hxb : ∀ j, (Value.slice xa 0 0).ownBlock = some j → j < X.heap.size := fun j hj => (hp.row.lt j (by rw [own_slice]; exact hj)).2
    have RX := Lib.hid hpr
    have DX := Lib.hid hK
    have dl : D < X.heap.size := (Array.getElem?_eq_some_iff.1 hK).1
    have zX := tX.size
    clear tX sX hK nD hO hp hpr MA KW PX BA hRn B7W B8W
    go_wp2_with (fail)
    refine (refRange_c _ xa xs xc lo hi RX.out hxc (by omega)).mono ?_
    rintro e X2 ⟨v2, rfl, hrow2, hk⟩
    obtain ⟨ys, hys⟩ : ∃ ys, between ltI xs lo hi = ys := ⟨_, rfl⟩
    rw [hys] at hrow2
    have HYS := Lib.hid hys
    have hyl : ys.length ≤ 200 := by
      rw [← hys]
      have := List.length_filter_le (fun x : Int × Int => !ltI x.1 lo && !ltI hi x.1) xs
      unfold between
      omega
    obtain ⟨ya, yc, rfl, hpr2, hyc⟩ := preads_of_row hrow2
    have hyb : ∀ j, (Value.slice ya 0 0).ownBlock = some j → j < X2.heap.size := fun j hj => (hrow2.lt j (by rw [own_slice]; exact hj)).2
    have RW := Lib.hid hpr2
    have MX2 := Lib.hid (MX.out.kept hk)
    have kX2 := Lib.hid (kX.out.trans hk)
    have B7X2 := Lib.hid (hk.boxed B7X.out id)
    have B8X2 := Lib.hid (hk.boxed B8X.out id)
    have PX2 := Lib.hid (PXX.out.kept hk)
    have RX2 := Lib.hid (RX.out.kept hk)
    have DX2 := Lib.hid (hk.heap DX.out id)
    have zX2 := hk.size
    clear hk hys hrow2 hpr2 MX kX B7X B8X PXX RX DX hcX
    go_wp2_with (fail)
    refine (range_k _ lo hi _).mono ?_
    rintro e Y ⟨rfl, hk, bB, bC, bD, zz⟩
    simp at zz bB bC bD
    have kb : Kept (X2.alloc (.cells #[.slice ya ys.length yc] 39)) ((X2.alloc (.cells #[.slice ya ys.length yc] 39)).alloc (.cells #[.int .i64 0] 3)) := Turned.alloc _ _ _
    have ka : Kept X2 Y := ((show Kept X2 (X2.alloc (.cells #[.slice ya ys.length yc] 39)) from Turned.alloc _ _ _).trans kb).trans hk
    have B13 : Hid (Boxed Y X2.heap.size 39 (.slice ya ys.length yc)) := Lib.hid ((kb.trans hk).boxed (Boxed.new X2 39 _) id)
    have B14 : Hid (Boxed Y (X2.heap.size + 1) 3 (.int .i64 0)) := Lib.hid (by
      have := hk.boxed (Boxed.new (X2.alloc (.cells #[.slice ya ys.length yc] 39)) 3 (.int .i64 0)) id
      simpa using this)
    have MY := Lib.hid (MX2.out.kept ka)
    have kY := Lib.hid (kX2.out.trans ka)
    have B7Y := Lib.hid (ka.boxed B7X2.out id)
    have B8Y := Lib.hid (ka.boxed B8X2.out id)
    have PY := Lib.hid (PX2.out.kept ka)
    have RY := Lib.hid (RX2.out.kept ka)
    have RWY := Lib.hid (RW.out.kept ka)
    have D1Y := Lib.hid (ka.heap DX2.out id)
    have BB := Lib.hid bB
    have BC := Lib.hid bC
    have BD := Lib.hid bD
    have zY : X2.heap.size + 4 < Y.heap.size := by omega
    clear hk bB bC bD zz ka kb MX2 kX2 B7X2 B8X2 PX2 RX2 RW DX2
    go_wp2_with (fail)
    refine wp_range2 (gf := 40) rfl (enters_of Try.func40 (by kernel_rfl) rfl) (encs := enc_i) (xs := ys) (R := fun k => k = X2.heap.size + 1 + 1 + 1 ∨ k = X2.heap.size + 1 + 1 + 2 ∨ Reads_i Y (X2.heap.size + 1 + 1) w1.heap.size k)
      (fun Z hZ => by rw [← HYS.out]; exact range1_i Y Z hZ _ _ _ _ lo hi xs BB.out BC.out BD.out MY.out) (fun _ => rfl) (fun j => j = X2.heap.size + 1) (Cnt (X2.heap.size + 1) (fun n => (n : Int))) (fun _ _ _ _ => False) (fun j hj => ⟨?hR2, ?notOwn2⟩)
      (Cnt.good _ _) (fun _ => good_false) ⟨fun _ => Iff.rfl, B14.out⟩ ?ab2 ?done2 (fun _ _ _ _ _ _ _ _ _ _ _ h => h.elim)
    case hR2 =>
      rcases hj with rfl | rfl | hj
      · omega
      · omega
      · exact MY.out.reads (by omega) hj
    case notOwn2 =>
      rintro rfl
      rcases hj with hj | hj | hj | hj | ⟨cs, hj⟩
      · omega
      · omega
      · omega
      · omega
      · rw [show Y.heap[_]? = _ from B14.out] at hj
        cases hj
    case ab2 =>
      apply Exists.intro
      refine ⟨?_, ?_⟩
      · intro l' x X K hK
        gi_wp2
        exact hK
      · rintro l' O pre ⟨x, xv⟩ rest A hx tA sA ⟨hO, b5⟩
        have hpl : pre.length < ys.length := by
          have := congrArg List.length hx
          simp at this
          omega
        have hxx : ys[pre.length]? = some (x, xv) := by rw [hx]; simp
        obtain ⟨bl, rfl, hbl', h1, h2⟩ := RWY.out.at hxx
        have hbl2 := hyb bl rfl
        have g1 := tA.cell h1 (by show ¬ bl = _; omega)
        have g2 := tA.cell h2 (by show ¬ bl = _; omega)
        have c3 := (tA.boxed B13.out (by omega)).cell
        have c5 := b5.cell
        have f5 := b5.frozen
        have HO := Lib.hid hO
        have HB5 := Lib.hid b5
        have i1 : (pre.length : Int) < (ys.length : Int) := by omega
        have i2 : (pre.length : Int) ≤ 5000 := by omega
        have i3 : pre.length < yc := by omega
        clear hx tA sA hO b5 hxx h1 h2
        gi_wp2
        exact Cnt.next HO.out HB5.out (by simp)
    case done2 =>
      rintro E O2 X4 hE nE tX sX ⟨hO, b5⟩ hK
      have k4 := Lib.hid (kY.out.own (fun i hi => by omega) tX)
      have M4 := Lib.hid (MY.out.turned tX (by omega) (fun j hj => by
        rintro rfl
        obtain ⟨cs, hj⟩ := hj
        rw [show Y.heap[_]? = _ from B14.out] at hj
        cases hj))
      have P4 := Lib.hid (PY.out.turned tX (fun j hj e => by have := PY.out.not_other B14.out (by decide) (by decide); rw [e] at hj; exact this hj))
      have R4 : Hid (PReads X4 xa xs) := Lib.hid (RY.out.turned tX (fun j hj e => by have := hxb j hj; omega))
      have B74 := tX.boxed B7Y.out (by omega)
      have c7 := B74.cell
      have f7 := B74.frozen
      have HB74 := Lib.hid B74
      have B84 := Lib.hid (tX.boxed B8Y.out (by omega))
      have B134 := Lib.hid (tX.boxed B13.out (by omega))
      have B144 : Hid (Boxed X4 (X2.heap.size + 1) 3 (.int .i64 (ys.length : Int))) := Lib.hid b5
      have D14 := Lib.hid (tX.heap D1Y.out (by omega))
      have E4 := Lib.hid hK
      have el : E < X4.heap.size := (Array.getElem?_eq_some_iff.1 hK).1
      have z4 := tX.size
      have dl4 : D < Y.heap.size := by omega
      clear tX sX hK nE hO b5 kY MY PY RY RWY B7Y B8Y B13 B14 D1Y BB BC BD B74
      have q0 := Int.emod_nonneg n (show (200 : Int) ≠ 0 by decide)
      have q1 := Int.emod_lt_of_pos n (show (0 : Int) < 200 by decide)
      obtain ⟨q, hq⟩ : ∃ q : Nat, n % 200 = (q : Int) := ⟨(n % 200).toNat, (Int.toNat_of_nonneg q0).symm⟩
      have hql : q < 200 := by omega
      have HQ := Lib.hid hq
      clear hq q0 q1
      go_wp2_with (fail)
      refine (cut_g _ n 200 (by decide) (by decide)).mono ?_
      rintro e w' ⟨rfl, rfl⟩
      rw [HQ.out]
      go_wp2_with (fail)
      refine (range_k _ lo hi _).mono ?_
      rintro e Y5 ⟨rfl, hk, bB, bC, bD, zz⟩
      simp at zz bB bC bD
      have kt : Turned (fun i => i = w.heap.size) X4 (X4.setCell ⟨w.heap.size, 0, none⟩ (.int .i64 (q : Int))) := Turned.setCell _ _ _ rfl
      have kz : (X4.setCell ⟨w.heap.size, 0, none⟩ (.int .i64 (q : Int))).heap.size = X4.heap.size := by simp
      have ka : Kept (X4.setCell ⟨w.heap.size, 0, none⟩ (.int .i64 (q : Int))) Y5 := (show Kept _ ((X4.setCell ⟨w.heap.size, 0, none⟩ (.int .i64 (q : Int))).alloc (.cells #[.int .i64 0] 3)) from Turned.alloc _ _ _).trans hk
      have kt5 := Kept.behind kt ka
      have B17 : Hid (Boxed Y5 X4.heap.size 3 (.int .i64 0)) := Lib.hid (by
        have := hk.boxed (Boxed.new (X4.setCell ⟨w.heap.size, 0, none⟩ (.int .i64 (q : Int))) 3 (.int .i64 0)) id
        rwa [kz] at this)
      have kY := Lib.hid (k4.out.own (fun i hi => by omega) kt5)
      have MY := Lib.hid (M4.out.turned kt5 (by omega) (fun j hj => by
        rintro rfl
        obtain ⟨cs, hj⟩ := hj
        rw [show X4.heap[_]? = _ from HB74.out] at hj
        cases hj))
      have PY := Lib.hid (P4.out.turned kt5 (fun j hj e => by have := P4.out.not_other HB74.out (by decide) (by decide); rw [e] at hj; exact this hj))
      have RY : Hid (PReads Y5 xa xs) := Lib.hid (R4.out.turned kt5 (fun j hj e => by
        have hf : Foot w2.heap.size (.slice xa xs.length xc) j := .inr (by rw [own_slice]; exact hj)
        have := P4.out.not_other HB74.out (by decide) (by decide)
        rw [e] at hf
        exact this hf))
      have B7Y := Lib.hid (ka.boxed (HB74.out.set (.int .i64 (q : Int))) id)
      have B8Y := Lib.hid (kt5.boxed B84.out (by omega))
      have B13Y := Lib.hid (kt5.boxed B134.out (by omega))
      have B14Y := Lib.hid (kt5.boxed B144.out (by omega))
      have D1Y := Lib.hid (kt5.heap D14.out (by omega))
      have D2Y := Lib.hid (kt5.heap E4.out (by omega))
      have BB2 : Hid (Boxed Y5 (X4.heap.size + 1) 23 (.pointer (some ⟨w1.heap.size, 0, none⟩))) := Lib.hid (by simpa using bB)
      have BC2 : Hid (Boxed Y5 (X4.heap.size + 1 + 1) 2 (.int .i64 lo)) := Lib.hid (by simpa using bC)
      have BD2 : Hid (Boxed Y5 (X4.heap.size + 1 + 2) 2 (.int .i64 hi)) := Lib.hid (by simpa using bD)
      have zY5 : X4.heap.size + 3 < Y5.heap.size := by omega
      clear hk bB bC bD zz ka kt kt5 kz k4 M4 P4 R4 HB74 B84 B134 B144 D14 E4 c7 f7
      go_wp2_with (fail)
      refine wp_range2 (gf := 40) rfl (enters_of Try.func40 (by kernel_rfl) rfl) (encs := enc_i) (xs := ys) (R := fun k => k = X4.heap.size + 1 + 1 ∨ k = X4.heap.size + 1 + 2 ∨ Reads_i Y5 (X4.heap.size + 1) w1.heap.size k)
        (fun Z hZ => by rw [← HYS.out]; exact range1_i Y5 Z hZ _ _ _ _ lo hi xs BB2.out BC2.out BD2.out MY.out) (fun _ => rfl) (fun j => j = X4.heap.size)
        (fun O pre A => Cnt X4.heap.size (fun n => (n : Int)) O pre A ∧ pre.length ≤ q) (fun c O _ A => (∀ j, O j ↔ j = X4.heap.size) ∧ Boxed A X4.heap.size 3 (.int .i64 (q : Int)) ∧ c = .exit 4 ∧ q < ys.length) (fun j hj => ⟨?hR3, ?notOwn3⟩)
        ⟨fun O pre A B h ht => ⟨(Cnt.good _ _).abides O pre A B h.1 ht, h.2⟩, fun O pre A h => (Cnt.good _ _).within O pre A h.1⟩
        (fun c => ⟨fun O pre A B h ht => ⟨h.1, Boxed.own h.2.1 ((h.1 _).2 rfl) ht, h.2.2⟩, fun O pre A h j hj => by
          obtain rfl := (h.1 j).1 hj
          exact h.2.1.lt⟩) ⟨⟨fun _ => Iff.rfl, B17.out⟩, Nat.zero_le _⟩ ?ab3 ?done3 ?stop3
      case hR3 =>
        rcases hj with rfl | rfl | hj
        · omega
        · omega
        · exact MY.out.reads (by omega) hj
      case notOwn3 =>
        rintro rfl
        rcases hj with hj | hj | hj | hj | ⟨cs, hj⟩
        · omega
        · omega
        · omega
        · omega
        · rw [show Y5.heap[_]? = _ from B17.out] at hj
          cases hj
      case ab3 =>
        apply Exists.intro
        refine ⟨?_, ?_⟩
        · intro l' x X K hK
          gi_wp2
          exact hK
        · rintro l' O pre ⟨x, xv⟩ rest A hx tA sA ⟨⟨hO, b5⟩, hpq⟩
          have hpl : pre.length < ys.length := by
            have := congrArg List.length hx
            simp at this
            omega
          have c7 := (tA.boxed B7Y.out (by omega)).cell
          have c5 := b5.cell
          have f5 := b5.frozen
          have HO := Lib.hid hO
          have HB5 := Lib.hid b5
          by_cases hpe : pre.length = q
          · have hpe' : ((pre.length : Int) == (q : Int)) = true := by simp only [beq_iff_eq]; omega
            have HPE := Lib.hid hpe
            clear hx tA sA hO b5 hpe
            gi_wp2
            exact ⟨O, Sub.refl _ _, Turned.refl _ _, HO.out, by rw [← HPE.out]; exact HB5.out, rfl, by have := HPE.out; omega⟩
          · have hpe' : ((pre.length : Int) == (q : Int)) = false := by simp only [beq_eq_false_iff_ne, ne_eq]; omega
            clear hx tA sA hO b5
            gi_wp2
            obtain ⟨O', s', t', c'⟩ := Cnt.next (f := fun n => (n : Int)) (pre := pre) (x := (x, xv)) (n := (pre.length : Int) + 1) HO.out HB5.out (by simp)
            exact ⟨O', s', t', c', by simp; omega⟩
      case done3 =>
        rintro F O3 Z hF nF tZ sZ ⟨⟨hO, b5⟩, hpq⟩ hK
        have B17Z : Hid (Boxed Z X4.heap.size 3 (.int .i64 (ys.length : Int))) := Lib.hid b5
        clear hO b5
        have kZ := Lib.hid (kY.out.own (fun i hi => by omega) tZ)
        have PZ := Lib.hid (PY.out.turned tZ (fun j hj e => by have := PY.out.not_other B17.out (by decide) (by decide); rw [e] at hj; exact this hj))
        have RZ : Hid (PReads Z xa xs) := Lib.hid (RY.out.turned tZ (fun j hj e => by have := hxb j hj; omega))
        have B7Z := Lib.hid (tZ.boxed B7Y.out (by omega))
        have B8Z := Lib.hid (tZ.boxed B8Y.out (by omega))
        have B13Z := Lib.hid (tZ.boxed B13Y.out (by omega))
        have B14Z := Lib.hid (tZ.boxed B14Y.out (by omega))
        have D1Z := Lib.hid (tZ.heap D1Y.out (by omega))
        have D2Z := Lib.hid (tZ.heap D2Y.out (by omega))
        have D3Z := Lib.hid hK
        have zZ := tZ.size
        clear kY PY RY B7Y B8Y B13Y B14Y D1Y D2Y tZ sZ hK nF BB2 BC2 BD2 MY B17
        rcases Nat.lt_or_eq_of_le hpq with hqq | hqq
        · go_wp2_with (fail)
          refine (known_c _).mono ?_
          rintro e Z2 ⟨rfl, hk⟩
          have c14 := (hk.boxed B14Z.out id).cell
          have c13 := (hk.boxed B13Z.out id).cell
          have c17 := (hk.boxed B17Z.out id).cell
          have c7 := (hk.boxed B7Z.out id).cell
          have c10 := (hk.boxed PZ.out.box id).cell
          have R2 := Lib.hid (RZ.out.kept hk)
          have k2 := Lib.hid (kZ.out.trans hk)
          have B82 := Lib.hid (hk.boxed B8Z.out id)
          have d1 := Lib.hid (hk.heap D1Z.out id)
          have d2 := Lib.hid (hk.heap D2Z.out id)
          have d3 := Lib.hid (hk.heap D3Z.out id)
          clear hk B14Z B13Z B17Z B7Z PZ RZ kZ B8Z D1Z D2Z D3Z
          go_wp2_with (fail)
          refine (refMap_c _ xa xs xc R2.out hxc (by omega) HASC.out).mono ?_
          rintro e Z3 ⟨rfl, hk⟩
          have k3 := Lib.hid (k2.out.trans hk)
          have b8 := hk.boxed B82.out id
          have c8 := b8.cell
          have f8 := b8.frozen
          have e1 := Lib.hid (hk.heap d1.out id)
          have e2 := Lib.hid (hk.heap d2.out id)
          have e3 := Lib.hid (hk.heap d3.out id)
          clear hk k2 B82 d1 d2 d3 R2 b8
          go_wp2
          have hs : ∀ j, j ≠ w.heap.size + 1 → (Z3.setCell ⟨w.heap.size + 1, 0, none⟩ (.bool true)).heap[j]? = Z3.heap[j]? := fun j hj => Below.heap_setCell Z3 ⟨w.heap.size + 1, 0, none⟩ (.bool true) j hj
          refine leave_marks [F, E, D] _ ?_ ?_ ?_
          · intro j hj
            simp at hj
            rcases hj with rfl | rfl | rfl
            · exact (hs _ (by omega)).trans e3.out
            · exact (hs _ (by omega)).trans e2.out
            · exact (hs _ (by omega)).trans e1.out
          · simp
            omega
          · intro X' hX'
            have hc5 : X'.cell? ⟨w.heap.size + 1, 0, none⟩ = some (.bool true) := hX'.cell (p := ⟨w.heap.size + 1, 0, none⟩) (World.cell?_setCell_same' Z3 _ _ (by rw [c8]; rfl)) (by simp; omega)
            refine ⟨.bool true, ?_, rfl, (k3.out.did (by omega) (Turned.setCell Z3 ⟨w.heap.size + 1, 0, none⟩ (.bool true) (R := fun i => i = w.heap.size + 1) rfl)).own (fun i hi => by simp at hi; omega) hX'⟩
            simp [results, Try.f5, go_sem, hc5]
        · subst hqq
          go_wp2_with (fail)
          refine (known_c _).mono ?_
          rintro e Z2 ⟨rfl, hk⟩
          have c14 := (hk.boxed B14Z.out id).cell
          have c13 := (hk.boxed B13Z.out id).cell
          have c17 := (hk.boxed B17Z.out id).cell
          have c7 := (hk.boxed B7Z.out id).cell
          have c10 := (hk.boxed PZ.out.box id).cell
          have R2 := Lib.hid (RZ.out.kept hk)
          have k2 := Lib.hid (kZ.out.trans hk)
          have B82 := Lib.hid (hk.boxed B8Z.out id)
          have d1 := Lib.hid (hk.heap D1Z.out id)
          have d2 := Lib.hid (hk.heap D2Z.out id)
          have d3 := Lib.hid (hk.heap D3Z.out id)
          clear hk B14Z B13Z B17Z B7Z PZ RZ kZ B8Z D1Z D2Z D3Z
          go_wp2_with (fail)
          refine (refMap_c _ xa xs xc R2.out hxc (by omega) HASC.out).mono ?_
          rintro e Z3 ⟨rfl, hk⟩
          have k3 := Lib.hid (k2.out.trans hk)
          have b8 := hk.boxed B82.out id
          have c8 := b8.cell
          have f8 := b8.frozen
          have e1 := Lib.hid (hk.heap d1.out id)
          have e2 := Lib.hid (hk.heap d2.out id)
          have e3 := Lib.hid (hk.heap d3.out id)
          clear hk k2 B82 d1 d2 d3 R2 b8
          go_wp2
          have hs : ∀ j, j ≠ w.heap.size + 1 → (Z3.setCell ⟨w.heap.size + 1, 0, none⟩ (.bool true)).heap[j]? = Z3.heap[j]? := fun j hj => Below.heap_setCell Z3 ⟨w.heap.size + 1, 0, none⟩ (.bool true) j hj
          refine leave_marks [F, E, D] _ ?_ ?_ ?_
          · intro j hj
            simp at hj
            rcases hj with rfl | rfl | rfl
            · exact (hs _ (by omega)).trans e3.out
            · exact (hs _ (by omega)).trans e2.out
            · exact (hs _ (by omega)).trans e1.out
          · simp
            omega
          · intro X' hX'
            have hc5 : X'.cell? ⟨w.heap.size + 1, 0, none⟩ = some (.bool true) := hX'.cell (p := ⟨w.heap.size + 1, 0, none⟩) (World.cell?_setCell_same' Z3 _ _ (by rw [c8]; rfl)) (by simp; omega)
            refine ⟨.bool true, ?_, rfl, (k3.out.did (by omega) (Turned.setCell Z3 ⟨w.heap.size + 1, 0, none⟩ (.bool true) (R := fun i => i = w.heap.size + 1) rfl)).own (fun i hi => by simp at hi; omega) hX'⟩
            simp [results, Try.f5, go_sem, hc5]
      case stop3 =>
        rintro F O3 c pre rest Z hF nF tZ sZ hx ⟨hO, b5, rfl, hqy⟩ hK
        have B17Z : Hid (Boxed Z X4.heap.size 3 (.int .i64 (q : Int))) := Lib.hid b5
        have hqq : (q : Int) < (ys.length : Int) := by omega
        clear hO b5 hx
        have kZ := Lib.hid (kY.out.own (fun i hi => by omega) tZ)
        have PZ := Lib.hid (PY.out.turned tZ (fun j hj e => by have := PY.out.not_other B17.out (by decide) (by decide); rw [e] at hj; exact this hj))
        have RZ : Hid (PReads Z xa xs) := Lib.hid (RY.out.turned tZ (fun j hj e => by have := hxb j hj; omega))
        have B7Z := Lib.hid (tZ.boxed B7Y.out (by omega))
        have B8Z := Lib.hid (tZ.boxed B8Y.out (by omega))
        have B13Z := Lib.hid (tZ.boxed B13Y.out (by omega))
        have B14Z := Lib.hid (tZ.boxed B14Y.out (by omega))
        have D1Z := Lib.hid (tZ.heap D1Y.out (by omega))
        have D2Z := Lib.hid (tZ.heap D2Y.out (by omega))
        have D3Z := Lib.hid hK
        have zZ := tZ.size
        clear kY PY RY B7Y B8Y B13Y B14Y D1Y D2Y tZ sZ hK nF BB2 BC2 BD2 MY B17
        go_wp2_with (fail)
        refine (known_c _).mono ?_
        rintro e Z2 ⟨rfl, hk⟩
        have c14 := (hk.boxed B14Z.out id).cell
        have c13 := (hk.boxed B13Z.out id).cell
        have c17 := (hk.boxed B17Z.out id).cell
        have c7 := (hk.boxed B7Z.out id).cell
        have c10 := (hk.boxed PZ.out.box id).cell
        have R2 := Lib.hid (RZ.out.kept hk)
        have k2 := Lib.hid (kZ.out.trans hk)
        have B82 := Lib.hid (hk.boxed B8Z.out id)
        have d1 := Lib.hid (hk.heap D1Z.out id)
        have d2 := Lib.hid (hk.heap D2Z.out id)
        have d3 := Lib.hid (hk.heap D3Z.out id)
        clear hk B14Z B13Z B17Z B7Z PZ RZ kZ B8Z D1Z D2Z D3Z
        go_wp2_with (fail)
        refine (refMap_c _ xa xs xc R2.out hxc (by omega) HASC.out).mono ?_
        rintro e Z3 ⟨rfl, hk⟩
        have k3 := Lib.hid (k2.out.trans hk)
        have b8 := hk.boxed B82.out id
        have c8 := b8.cell
        have f8 := b8.frozen
        have e1 := Lib.hid (hk.heap d1.out id)
        have e2 := Lib.hid (hk.heap d2.out id)
        have e3 := Lib.hid (hk.heap d3.out id)
        clear hk k2 B82 d1 d2 d3 R2 b8
        go_wp2
        have hs : ∀ j, j ≠ w.heap.size + 1 → (Z3.setCell ⟨w.heap.size + 1, 0, none⟩ (.bool true)).heap[j]? = Z3.heap[j]? := fun j hj => Below.heap_setCell Z3 ⟨w.heap.size + 1, 0, none⟩ (.bool true) j hj
        refine leave_marks [F, E, D] _ ?_ ?_ ?_
        · intro j hj
          simp at hj
          rcases hj with rfl | rfl | rfl
          · exact (hs _ (by omega)).trans e3.out
          · exact (hs _ (by omega)).trans e2.out
          · exact (hs _ (by omega)).trans e1.out
        · simp
          omega
        · intro X' hX'
          have hc5 : X'.cell? ⟨w.heap.size + 1, 0, none⟩ = some (.bool true) := hX'.cell (p := ⟨w.heap.size + 1, 0, none⟩) (World.cell?_setCell_same' Z3 _ _ (by rw [c8]; rfl)) (by simp; omega)
          refine ⟨.bool true, ?_, rfl, (k3.out.did (by omega) (Turned.setCell Z3 ⟨w.heap.size + 1, 0, none⟩ (.bool true) (R := fun i => i = w.heap.size + 1) rfl)).own (fun i hi => by simp at hi; omega) hX'⟩
          simp [results, Try.f5, go_sem, hc5]
end Go.Proofs.Ytfckphcbleodbaa
