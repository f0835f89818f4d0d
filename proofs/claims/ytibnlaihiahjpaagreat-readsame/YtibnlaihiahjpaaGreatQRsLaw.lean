/-
  What ReadSame answers: true. No conditions but those of its arguments.
-/
import Derived.Test.YtibnlaihiahjpaaGreatQRsC
import Derived.Deep.DeepCutAuto
import Derived.Deep.CutBlock
namespace Go.Proofs.YtibnlaihiahjpaaGreat
open Go.RowKit Go.Shelf

theorem field_rs (a c : Value) (W : World) : Sem.run Tryz.prog (Instr.field 56 (.agg #[a, c]) 1) W = .ok c W := by
  first
  | kernel_rfl
  | (unfold Instr.field; simp [Tryz.underlying56, go_sem])
  | rfl
attribute [local go_sem] field_rs
set_option maxRecDepth 100000 in
set_option maxHeartbeats 4000000 in
theorem readSame_c (w : World) (cells : Int) (a1 : Option Addr) (keys : List Int) (c1 : Nat) (a2 : Option Addr) (l : List Int) (c2 : Nat) (at_ : Int) (lay : Bool) (hr1 : Reads w a1 keys) (hc1 : keys.length ≤ c1) (hm1 : c1 ≤ maxLen) (hr2 : Reads w a2 l) (hc2 : l.length ≤ c2) (hm2 : c2 ≤ maxLen) (hi : ∀ z ∈ l, I64 z) :
    Calls Tryz.prog 11 #[.int .i64 cells, .slice a1 keys.length c1, .slice a2 l.length c2, .int .i64 at_, .bool lay] w fun e w' => e = .returned (.bool true) ∧ Kept w w' := by
  have NW := ynew_r w cells a1 keys c1 a2 l c2 hr1 hc1 hm1 hr2 hc2 hm2 hi
  have HNW := gh NW
  clear NW hr1 hc1 hm1 hr2 hc2 hm2 hi
  go_enter Tryz.func11, Tryz.ntmps11
  go_wp2_with (fail)
  refine HNW.out.mono ?_
  rintro e W1 ⟨y, m0, ix0, rfl, hyd, ok0⟩
  obtain ⟨b, x, mb, hy⟩ := hyd.sees
  have Y0 := gh hy
  have O0 := gh ok0
  clear hyd ok0 hy HNW
  go_upto_if 24 with (fail)
  go_cut [] (fun wx => ∃ m ix, Hid (Yx w wx y b x mb m ix ∧ YOk m ix 1680))
  case first =>
    cases lay with
    | false =>
      go_wp2_with (fail)
      go_meet
      exact ⟨m0, ix0, Y0.out, O0.out⟩
    | true =>
      go_wp2_with (fail)
      refine (lay_x w W1 y b x mb m0 ix0 1680 Y0.out O0.out at_ _).mono ?_
      rintro e W2 ⟨r, m1, ix1, rfl, h1, o1⟩
      have Y1 := gh h1
      have O1 := gh o1
      clear h1 o1
      go_wp2_with (fail)
      go_meet
      exact ⟨m1, ix1, Y1.out, O1.out⟩
  case rest =>
  obtain ⟨m, ix, hc⟩ := hcut
  have Y := gh hc.out.1
  have O := gh hc.out.2
  clear hc Y0 O0
  obtain ⟨d0, d1, d2⟩ := Y.out.cells
  go_wp2_with (fail)
  refine (slots_d wc mb ix.m Y.out.dm O.out.ok.1 O.out.sound).mono ?_
  rintro e W2 ⟨vo, rfl, ro, k2⟩
  obtain ⟨ao, co, rfl, po, lo, mo, _, bo⟩ := PRow.reads ro
  have BO := gh ro.block
  have PO := gh po
  have K2 := gh k2
  obtain ⟨L, hL⟩ : ∃ L, (ownL ix.m).length = L := ⟨_, rfl⟩
  rw [hL] at lo
  rw [hL]
  clear ro po k2
  obtain ⟨_, d1, d2⟩ := (Y.out.kept K2.out).cells
  go_wp2_with (fail)
  refine (slot_d W2 mb ix.m (Y.out.kept K2.out).dm O.out.ok.1 O.out.sound at_).mono ?_
  rintro e W3 ⟨⟨nd, s⟩, hp, rfl, k3⟩
  dsimp only
  obtain ⟨N, hN⟩ := rsp_of O.out hp
  dsimp only at hN
  have R := gh hN
  have K3 := gh (K2.out.trans k3)
  have PO3 := gh (PO.out.kept k3)
  have BO3 : Hid (∀ ad, ao = some ad → wc.heap.size ≤ ad.block ∧ ad.block < W3.heap.size) := gh (fun ad e => ⟨(BO.out ad e).1, Nat.lt_of_lt_of_le (BO.out ad e).2 k3.size⟩)
  have HL := gh hL
  obtain ⟨z, hz⟩ : ∃ z, m.look s = z := ⟨_, rfl⟩
  obtain ⟨k, hk⟩ : ∃ k, kd z = k := ⟨_, rfl⟩
  have IZ : Hid (I64 z) := gh (by rw [← hz]; exact O.out.ok.2.look s)
  have HZ := gh hz
  have HK := gh hk
  clear hp k3 hN hz hk hL d0 d1 d2 bo PO BO K2
  obtain ⟨d0, _, _⟩ := (Y.out.kept K3.out).cells
  go_wp2_with (fail)
  refine (lk_p W3 b m s z (Y.out.kept K3.out).pm HZ.out).mono ?_
  rintro e w' ⟨rfl, rfl⟩
  go_wp2_with (fail)
  refine (kd_q W3 z k IZ.out HK.out).mono ?_
  rintro e w' ⟨rfl, rfl⟩
  go_wp2_with (fail)
  refine (now_cells w W3 b m (Y.out.kept K3.out).now).mono ?_
  rintro e W4 ⟨aw, cw, rfl, rw4, lw, mw, _, ow, kw⟩
  have RW := gh rw4
  have BW := gh ow.block
  have K4 := gh (K3.out.trans kw)
  have PO4 := gh (PO3.out.kept kw)
  have BO4 : Hid (∀ ad, ao = some ad → wc.heap.size ≤ ad.block ∧ ad.block < W4.heap.size) := gh (fun ad e => ⟨(BO3.out ad e).1, Nat.lt_of_lt_of_le (BO3.out ad e).2 kw.size⟩)
  have BW4 : Hid (∀ ad, aw = some ad → wc.heap.size ≤ ad.block ∧ ad.block < W4.heap.size) := gh (fun ad e => ⟨Nat.le_trans K3.out.size (BW.out ad e).1, (BW.out ad e).2⟩)
  obtain ⟨LW, hLW⟩ : ∃ L, m.xs.length = L := ⟨_, rfl⟩
  have HLW := gh hLW
  rw [hLW] at lw
  rw [hLW]
  clear rw4 ow kw BO3 PO3 BW K3 hLW d0
  obtain ⟨pl, hpl⟩ : ∃ pl, (k != 5) = pl := ⟨_, rfl⟩
  rw [hpl]
  have HPL := gh hpl
  clear hpl
  go_wp2_with (fail)
  refine (rd_new W4 s).mono ?_
  rintro e W5 ⟨rfl, f5, k5⟩
  obtain ⟨f, hf⟩ : ∃ f, W4.heap.size = f := ⟨_, rfl⟩
  obtain ⟨H, hH⟩ : ∃ H : Nat → Prop, H = fun k => (∃ ad, ao = some ad ∧ ad.block = k) ∨ ∃ ad, aw = some ad ∧ ad.block = k := ⟨_, rfl⟩
  have YR : Hid (Yr w W4 W5 H y b x mb m ix f (Rd.new s)) := gh (by
    rw [← hf]
    refine yr_new Y.out K4.out k5 (fun k hk => ?_) f5 (Nat.le_refl _)
    rw [hH] at hk
    rcases hk with ⟨ad, e, rfl⟩ | ⟨ad, e, rfl⟩
    · exact BO4.out ad e
    · exact BW4.out ad e)
  have HO : Hid (∀ ad, ao = some ad → H ad.block) := gh (fun ad e => by rw [hH]; exact .inl ⟨ad, e, rfl⟩)
  have HW : Hid (∀ ad, aw = some ad → H ad.block) := gh (fun ad e => by rw [hH]; exact .inr ⟨ad, e, rfl⟩)
  rw [hf]
  clear f5 k5 hf hH BO4 BW4 K4 Y
  have N3 : N ≤ 9 ∧ 1 ≤ N := by rw [R.out.n]; split <;> omega
  go_upto_block 0 with fail
  go_cut [17] (fun c wx => c = .int .i64 (N : Int) ∧ Hid (Yr w W4 wx H y b x mb (rit s m N).2 ix f (rit s m N).1))
  case first =>
    go_wp2_with (fail)
    go_loopw [17] (fun vi wr => ∃ k : Nat, k < N ∧ vi = .int .i64 ((k : Int) + 1) ∧ Hid (Yr w W4 wr H y b x mb (rit s m k).2 ix f (rit s m k).1)) (fun vi _ => N - (intOf vi).toNat)
    case atStart => exact ⟨0, by omega, by simp, YR⟩
    case round =>
      obtain ⟨k, hk, rfl, P⟩ := hrel
      have j1 : (k : Int) + 1 < 60 := by omega
      obtain ⟨d0, _, _⟩ := P.out.yx.cells
      obtain ⟨sk, se⟩ := R.out.step k hk
      have ST := gh (yr_step w W4 wr H y b x mb f _ ix _ P.out sk (rit s m (k + 1)).1 (rit s m (k + 1)).2 _ (rit_step s m k) se)
      clear YR sk se
      by_cases hkN : k + 1 = N
      · rw [decide_eq_true hkN] at ST
        go_wp2_with (fail)
        refine ST.out.mono ?_
        rintro e W6 ⟨rfl, p4⟩
        have P4 := gh p4
        rw [hkN] at P4
        have EN : Hid ((k : Int) + 1 = (N : Int)) := gh (by omega)
        clear p4 ST P d0
        go_wp2_with (fail)
        go_meet
        exact ⟨by rw [EN.out], P4.out⟩
      · rw [decide_eq_false hkN] at ST
        go_wp2_with (fail)
        refine ST.out.mono ?_
        rintro e W6 ⟨rfl, p4⟩
        have P4 := gh p4
        clear p4 ST P d0
        go_wp2
        exact ⟨⟨k + 1, by omega, by simp, P4⟩, by simp only [intOf]; omega⟩
  case rest =>
  obtain ⟨rfl, P⟩ := hcut
  obtain ⟨q, hq⟩ : ∃ q, (rit s m N).1 = q := ⟨_, rfl⟩
  obtain ⟨mq, hmq⟩ : ∃ mq, (rit s m N).2 = mq := ⟨_, rfl⟩
  have R2 : Hid (q.d = true ∧ mq.ok ∧ mq.xs.length = m.xs.length ∧ (k ≠ 5 → mq.xs = m.xs) ∧ (∀ r ∈ ownL ix.m, r.2 ≠ s → mq.logicZ r.2 = ix.m.logicZ r.2) ∧ N = if k = 5 then 9 else 1) := gh (by
    obtain ⟨r1, _, r3, r4, r5, r6, r7⟩ := R.out
    rw [HZ.out, HK.out] at r1
    rw [HZ.out, HK.out, hmq] at r6
    rw [hq] at r3
    rw [hmq] at r4 r5 r7
    exact ⟨r3, r4, r5, r6, r7, r1⟩)
  rw [hq, hmq] at P
  clear hq hmq R YR
  obtain ⟨d0, d1, d2⟩ := P.out.yx.cells
  go_upto_region 12 with (fail)
  go_cut [17, 96] (fun _ c wx => c = .bool false ∧ Hid (Kept wc wx))
  case first =>
    have hn := R2.out.2.2.2.2.2
    cases pl with
    | false =>
      have k5 : k = 5 := by have := HPL.out; simpa using this
      rw [if_pos k5] at hn
      have n9 : (N : Int) = 9 := by omega
      have H9 := gh n9
      clear hn k5 n9
      go_wp2_with (fail)
      go_meet
      exact ⟨by rw [H9.out]; rfl, Kept.refl _⟩
    | true =>
      have k5 : k ≠ 5 := by have := HPL.out; simpa using this
      rw [if_neg k5] at hn
      have XS : Hid (mq.xs = m.xs) := gh (R2.out.2.2.2.1 k5)
      have n1 : (N : Int) = 1 := by omega
      have g1 : ((N : Int) != 1) = false := by rw [n1]; rfl
      clear hn k5
      go_wp2_with (fail)
      refine (now_cells w wc b mq P.out.yx.now).mono ?_
      rintro e W6 ⟨ax, cx, rfl, rx, lx, mx, _, _, kx⟩
      rw [XS.out] at rx lx
      rw [XS.out]
      have RX := gh rx
      have LX := gh lx
      have KX := gh kx
      have RW6 := gh ((P.out.ints RW.out HW.out).kept kx)
      have WK := words_k W6 aw ax m.xs cw cx RW6.out RX.out (by rw [HLW.out]; exact lw) LX.out mw
      rw [HLW.out] at WK
      rw [HLW.out]
      have HWK := gh WK
      clear rx lx kx WK d0 d1 d2
      go_wp2_with (fail)
      refine HWK.out.mono ?_
      rintro e W7 ⟨rfl, k7⟩
      have K7 := gh (KX.out.trans k7)
      clear k7 HWK
      go_wp2_with (fail)
      go_meet
      exact ⟨rfl, K7.out⟩
  case rest =>
  obtain ⟨rfl, KC⟩ := hcut
  have P2 := gh (P.out.kept KC.out)
  obtain ⟨d0, d1, d2⟩ := P2.out.yx.cells
  have PO5 := gh (P2.out.prs PO4.out HO.out)
  have LE : Hid ((L : Int) ≤ 70001) := gh (by have := (ownL_len O.out.ok.1 O.out.sound).2; have := HL.out; omega)
  have le1 := LE.out
  clear P KC PO4
  go_wp2_with (fail)
  go_loopw [99] (fun vi wr => ∃ k : Nat, k ≤ L ∧ vi = .int .i64 (k : Int) ∧ Hid (Kept wc wr)) (fun vi _ => L - (intOf vi).toNat)
  case atStart => exact ⟨0, by omega, by simp, gh (Kept.refl _)⟩
  case round =>
    obtain ⟨j, hj, rfl, KR⟩ := hrel
    by_cases hjn : j < L
    · have j1 : (j : Int) < (L : Int) := by omega
      obtain ⟨p, hp⟩ : ∃ p, (ownL ix.m)[j]? = some p := ⟨_, List.getElem?_eq_getElem (by rw [HL.out]; exact hjn)⟩
      have HP : Hid (p ∈ ownL ix.m) := gh (List.mem_of_getElem? hp)
      obtain ⟨bl, off, rfl, hb, c0, c1⟩ := (PO5.out.kept KR.out).at hp
      have c2 : wr.cell? ⟨bl, off + j * 2 + 1, none⟩ = some (.int .i64 p.2) := by rw [Nat.add_assoc]; exact c1
      have i0 : decide ((j : Int) < 0) = false := by simp
      have i1 : decide ((L : Int) ≤ (j : Int)) = false := by simp; omega
      clear hp c1
      go_wp2_with (fail)
      obtain ⟨V, hV⟩ : ∃ V, wr.alloc (.cells #[.int .i64 p.1, .int .i64 p.2] 56) = V := ⟨_, rfl⟩
      have kV : Hid (Kept wr V) := gh (by rw [← hV]; exact Td.alloc _ _ _)
      have bV : V.heap[wr.heap.size]? = some (.cells #[.int .i64 p.1, .int .i64 p.2] 56) := by rw [← hV]; exact heap_new _ _
      obtain ⟨nb, hnb⟩ : ∃ nb, wr.heap.size = nb := ⟨_, rfl⟩
      rw [hV, hnb]
      rw [hnb] at bV
      have KW := gh (KR.out.trans kV.out)
      have x0 : ∀ u : Wd (Kept V), u.w.cell? ⟨nb, 1, none⟩ = some (.int .i64 p.2) := fun u => u.ok.cell (by simp [World.cell?, bV]) id
      have x1 : ∀ u : Wd (Kept V), u.w.cell? ⟨y, 0, none⟩ = some (.pointer (some ⟨b, 0, none⟩)) := fun u => (KW.out.trans u.ok).cell d0 id
      have x2 : ∀ u : Wd (Kept V), u.w.cell? ⟨y, 1, none⟩ = some (.pointer (some ⟨x, 0, none⟩)) := fun u => (KW.out.trans u.ok).cell d1 id
      have x3 : ∀ u : Wd (Kept V), u.w.cell? ⟨x, 3, none⟩ = some (.pointer (some ⟨mb, 0, none⟩)) := fun u => (KW.out.trans u.ok).cell d2 id
      have PX := fun u : Wd (Kept V) => P2.out.yx.kept (KW.out.trans u.ok)
      have HPX := gh PX
      obtain ⟨G, hG⟩ : ∃ G, ix.m.logicZ p.2 = G := ⟨_, rfl⟩
      have HG := gh hG
      clear hV hnb bV c0 c2 hb PX hG
      by_cases hs : p.2 = s
      · have g : (p.2 != s) = false := by simp [hs]
        clear hs
        refine region_quiet (Kept V) (by kernel_rfl) (by kernel_rfl) (Kept.drew _) (fun _ => ?_)
        repeat (go_big_quiet_step (fail))
        refine wpQuiet_nil ?_
        intro u
        go_wp2
        exact ⟨⟨j + 1, by omega, by simp, gh (KW.out.trans u.ok)⟩, by simp only [intOf]; omega⟩
      · have g : (p.2 != s) = true := by simp [hs]
        have GP : Hid (mq.logicZ p.2 = G) := gh (by rw [← HG.out]; exact R2.out.2.2.2.2.1 p HP.out hs)
        clear hs
        refine region_quiet (Kept V) (by kernel_rfl) (by kernel_rfl) (Kept.drew _) (fun _ => ?_)
        repeat (go_big_quiet_step (first
          | (go_at_call 17; rename_i u; refine (logic_p u.w b mq p.2 G (HPX.out u).pm R2.out.2.1 GP.out).mono ?_; rintro e w' ⟨rfl, rfl⟩; exact ⟨rfl, u, rfl⟩)
          | (go_at_call 51; rename_i u; refine (logic_d u.w mb ix.m p.2 G (HPX.out u).dm O.out.ok.1 HG.out).mono ?_; rintro e w' ⟨rfl, rfl⟩; exact ⟨rfl, u, rfl⟩)))
        refine wpQuiet_nil ?_
        intro u
        go_wp2
        exact ⟨⟨j + 1, by omega, by simp, gh (KW.out.trans u.ok)⟩, by simp only [intOf]; omega⟩
    · have hjn' : j = L := by omega
      subst hjn'
      have j1 : ¬ ((j : Int) < (j : Int)) := by omega
      have P3 := gh (P2.out.kept KR.out)
      go_wp2_with (fail)
      refine (known13_c wr).mono ?_
      rintro e W9 ⟨rfl, k9⟩
      have P4 := gh (P3.out.kept k9)
      obtain ⟨d0, _, _⟩ := P4.out.yx.cells
      have HU : Hid ((mq.xs.length : Int) = (LW : Int)) := gh (by rw [R2.out.2.2.1, HLW.out])
      clear k9 P3
      go_wp2_with (fail)
      refine (yr_done w W4 W9 H y b x mb f mq ix q P4.out true R2.out.1).mono ?_
      rintro e w' ⟨rfl, rfl⟩
      go_wp2_with (fail)
      refine (now_used w W9 b mq LW P4.out.yx.now HU.out).mono ?_
      rintro e w' ⟨rfl, rfl⟩
      go_wp2
      go_ret
      exact ⟨rfl, P4.out.since⟩
end Go.Proofs.YtibnlaihiahjpaaGreat
