/-
  What HelpLogic answers: true. No conditions but those of its arguments.
-/
import Derived.Test.YtibnlaihiahjpaaGreatQHlD
import Derived.Deep.DeepCutAuto
import Derived.Deep.CutBlock
namespace Go.Proofs.YtibnlaihiahjpaaGreat
open Go.RowKit Go.Shelf

set_option maxRecDepth 100000 in
set_option maxHeartbeats 1000000 in
theorem helpLogic_c (w : World) (cells : Int) (a1 : Option Addr) (keys : List Int) (c1 : Nat) (a2 : Option Addr) (l : List Int) (c2 : Nat) (at_ : Int) (lay : Bool) (n : Int) (hr1 : Reads w a1 keys) (hc1 : keys.length ≤ c1) (hm1 : c1 ≤ maxLen) (hr2 : Reads w a2 l) (hc2 : l.length ≤ c2) (hm2 : c2 ≤ maxLen) (hi : ∀ z ∈ l, I64 z) :
    Calls Tryz.prog 8 #[.int .i64 cells, .slice a1 keys.length c1, .slice a2 l.length c2, .int .i64 at_, .bool lay, .int .i64 n] w fun e w' => e = .returned (.bool true) ∧ Kept w w' := by
  have NW := ynew_r w cells a1 keys c1 a2 l c2 hr1 hc1 hm1 hr2 hc2 hm2 hi
  have HNW := gh NW
  clear NW hr1 hc1 hm1 hr2 hc2 hm2 hi
  go_enter Tryz.func8, Tryz.ntmps8
  go_wp2_with (fail)
  refine HNW.out.mono ?_
  rintro e W1 ⟨y, m0, ix0, rfl, hyd, ok0⟩
  obtain ⟨b, x, mb, hy⟩ := hyd.sees
  have Y0 := gh hy
  have O0 := gh ok0
  clear hyd ok0 hy HNW
  go_wp2_with (fail)
  refine (lay_xx w W1 y b x mb m0 ix0 1680 Y0.out O0.out at_ lay).mono ?_
  rintro e W2 ⟨p, m, ix, rfl, hp, hm, h1, o1⟩
  have Y1 := gh h1
  have O1 := gh o1
  obtain ⟨D, hD⟩ : ∃ D, (Sd.layZ ix0.m p lay).2 = D := ⟨_, rfl⟩
  rw [hD]
  have DC : D ≠ 0 → ∃ k : Hc, k.Ok ∧ k.m = m ∧ k.D = D := fun h0 => by
    obtain ⟨g, hI, _⟩ := O0.out.wi
    obtain ⟨gd, ov, xv, q1, q2, q3, q4, q5⟩ := lay_dc hI hp lay (by rw [hD]; exact h0) (M := m) (by rw [o1.xs, hm]) (by rw [o1.size, hm])
    rw [hD] at q1 q2 q5
    exact ⟨⟨m, p.2, D, gd, ov, xv⟩, ⟨q1, q2, q3, q4, q5, o1.ok.2⟩, rfl, rfl⟩
  clear hp hm h1 o1 hD Y0 O0
  by_cases h0 : D = 0
  · subst h0
    go_wp2_with (fail)
    refine (known12_c W2).mono ?_
    rintro e W3 ⟨rfl, k3⟩
    go_wp2
    go_ret
    exact ⟨rfl, Y1.out.since.trans k3⟩
  obtain ⟨k, K, km, kD⟩ := DC h0
  have KH := gh K
  obtain ⟨km0, s, D0, gd, ov, xv⟩ := k
  simp only at km kD
  subst km kD
  have c1 : km0.look (D0 + 1) = s := K.dk.c1
  have c0 : km0.look (D0 + 0) = gd := by rw [Int.add_zero]; exact K.dk.c0
  have c2 : km0.look (D0 + 2) = ov := K.dk.c2
  have c3 : km0.look (D0 + 3) = xv := K.dk.c3
  have b := K.dk.b
  simp only at b
  have b1 := b.1
  have b2 := b.2
  have HC := gh (And.intro c0 (And.intro c1 (And.intro c2 c3)))
  have B := gh b
  have g0 : (D0 == 0) = false := by simp [h0]
  clear DC K c0 c1 c2 c3 b h0
  obtain ⟨d0, d1, d2⟩ := Y1.out.cells
  go_wp2_with (fail)
  obtain ⟨gv, hgv⟩ : ∃ gv, km0.look gd = gv := ⟨_, rfl⟩
  have HGV := gh hgv
  clear hgv
  refine (lk_p W2 b km0 (D0 + 1) s Y1.out.pm HC.out.2.1).mono ?_
  rintro e w' ⟨rfl, rfl⟩
  have x0 : ∀ u : Wd (Kept W2), u.w.cell? ⟨y, 0, none⟩ = some (.pointer (some ⟨b, 0, none⟩)) := fun u => u.ok.cell d0 id
  go_wp2_with (fail)
  refine region_quiet (Kept W2) (by kernel_rfl) (by kernel_rfl) (Kept.drew _) (fun _ => ?_)
  repeat (go_big_quiet_step (first | (go_at_call 36; rename_i u; refine (lk_p u.w b km0 _ _ (Y1.out.pm.kept u.ok) rfl).mono ?_; rintro e w' ⟨rfl, rfl⟩; exact ⟨rfl, u, rfl⟩)))
  refine wpQuiet_nil ?_
  intro u
  obtain ⟨V, hV⟩ : ∃ V, u.w = V := ⟨_, rfl⟩
  have KV : Hid (Kept W2 V) := gh (by rw [← hV]; exact u.ok)
  rw [hV]
  clear hV u x0
  try rw [HC.out.1]
  try rw [show km0.look D0 = gd from KH.out.dk.c0]
  rw [HGV.out]
  obtain ⟨cl, hcl⟩ : ∃ cl, (gv != 0) = cl := ⟨_, rfl⟩
  rw [hcl]
  have HCL := gh hcl
  clear hcl d0 d1 d2
  have Y2 := gh (Y1.out.kept KV.out)
  clear Y1 KV
  obtain ⟨d0, _, _⟩ := Y2.out.cells
  have x0 : ∀ u : Wd (Kept V), u.w.cell? ⟨y, 0, none⟩ = some (.pointer (some ⟨b, 0, none⟩)) := fun u => u.ok.cell d0 id
  go_wp2_with (fail)
  refine region_quiet (Kept V) (by kernel_rfl) (by kernel_rfl) (Kept.drew _) (fun _ => ?_)
  repeat (go_big_quiet_step (first | (go_at_call 36; rename_i u; refine (lk_p u.w b km0 _ _ (Y2.out.pm.kept u.ok) rfl).mono ?_; rintro e w' ⟨rfl, rfl⟩; exact ⟨rfl, u, rfl⟩)))
  refine wpQuiet_nil ?_
  intro u
  obtain ⟨V2, hV⟩ : ∃ V, u.w = V := ⟨_, rfl⟩
  have KV : Hid (Kept V V2) := gh (by rw [← hV]; exact u.ok)
  rw [hV, HC.out.2.2.1, HC.out.2.2.2]
  clear hV u x0 d0
  have Y3 := gh (Y2.out.kept KV.out)
  clear Y2 KV
  obtain ⟨d0, _, _⟩ := Y3.out.cells
  have LG : Hid (km0.logicZ s = ov) := gh (by
    have := Hc.hl_logic KH.out (Hc.start KH.out) (fun e => by cases e)
    simpa using this)
  go_wp2_with (fail)
  refine (logic_p V2 b km0 s ov Y3.out.pm O1.out.ok.2 LG.out).mono ?_
  rintro e w' ⟨rfl, rfl⟩
  go_wp2_with (fail)
  refine (hp_new V2 D0).mono ?_
  rintro e V3 ⟨rfl, q3, k3⟩
  obtain ⟨f0, hf0⟩ : ∃ f, V2.heap.size = f := ⟨_, rfl⟩
  rw [hf0] at q3
  rw [hf0]
  have N0 : Hid (f0 < V3.heap.size ∧ w.heap.size ≤ f0) := gh ⟨(Array.getElem?_eq_some_iff.1 q3).1, by rw [← hf0]; exact Y3.out.since.size⟩
  have Y4 := gh (Y3.out.kept k3)
  have A0 := gh q3
  clear q3 k3 hf0 Y3 d0
  go_wp2_with (fail)
  refine (hp_new V3 D0).mono ?_
  rintro e V4 ⟨rfl, q4, k4⟩
  obtain ⟨f1, hf1⟩ : ∃ f, V3.heap.size = f := ⟨_, rfl⟩
  rw [hf1] at q4
  rw [hf1]
  have N1 : Hid (f1 < V4.heap.size ∧ w.heap.size ≤ f1 ∧ f0 < f1) := gh ⟨(Array.getElem?_eq_some_iff.1 q4).1, by rw [← hf1]; exact Y4.out.since.size, by rw [← hf1]; exact N0.out.1⟩
  have Y5 := gh (Y4.out.kept k4)
  have A01 := gh (A0.out.kept k4)
  have A1 := gh q4
  clear q4 k4 hf1 Y4 A0
  obtain ⟨V5, hV5⟩ : ∃ V, V4.alloc (.cells #[.pointer (some ⟨f0, 0, none⟩), .pointer (some ⟨f1, 0, none⟩)] 92) = V := ⟨_, rfl⟩
  obtain ⟨fa, hfa⟩ : ∃ fa, V4.heap.size = fa := ⟨_, rfl⟩
  have kV : Kept V4 V5 := by rw [← hV5]; exact Td.alloc _ _ _
  have bV : V5.heap[fa]? = some (.cells #[.pointer (some ⟨f0, 0, none⟩), .pointer (some ⟨f1, 0, none⟩)] 92) := by rw [← hV5, ← hfa]; exact heap_new _ _
  have TH : Hid (Th w V5 y b x mb fa f0 f1 ix ⟨km0, s, D0, gd, ov, xv⟩ 0 false) := gh (th_new KH.out rfl ⟨Y5.out.kept kV, A01.out.kept kV, A1.out.kept kV, bV, N0.out.2, N1.out.2.1, Nat.ne_of_lt N1.out.2.2⟩)
  have HV5 := gh hV5
  have HFA := gh hfa
  clear kV bV hV5 hfa
  go_wp2_with (fail)
  rw [HV5.out, HFA.out]
  obtain ⟨kk, hkk⟩ : ∃ kk, (⟨km0, s, D0, gd, ov, xv⟩ : Hc) = kk := ⟨_, rfl⟩
  have KF : Hid (kk.Ok ∧ kk.s = s ∧ kk.o = ov ∧ kk.x = xv ∧ (kk.out = if gv = 0 then 1 else 2) ∧ ov ≠ xv) := gh (by
    rw [← hkk]
    exact ⟨KH.out, rfl, rfl, rfl, by unfold Hc.out Hp.outZ; rw [HGV.out], KH.out.ne⟩)
  rw [hkk] at TH
  clear hkk HV5 HFA KH HC LG HGV N0 N1 A01 A1 Y5 O1 B b1 b2 g0
  go_loopw [19, 20, 22] (fun vl vt vi wr => ∃ (i : Nat) (t : Bool), i ≤ 30 ∧ vl = .int .i64 (if t then xv else ov) ∧ vt = .int .i64 (if t then 1 else 0) ∧ vi = .int .i64 (i : Int) ∧ Hid (Th w wr y b x mb fa f0 f1 ix kk i t)) (fun _ _ vi _ => 30 - (intOf vi).toNat)
  case atStart => exact ⟨0, false, by omega, rfl, rfl, by simp, TH⟩
  case round =>
    obtain ⟨i, t, hi, rfl, rfl, rfl, T⟩ := hrel
    clear TH
    obtain ⟨lv, hlv⟩ : ∃ lv, (if t = true then xv else ov) = lv := ⟨_, rfl⟩
    obtain ⟨tv, htv⟩ : ∃ tv : Int, (if t = true then 1 else 0) = tv := ⟨_, rfl⟩
    rw [hlv, htv]
    have HLV := gh hlv
    have HTV := gh htv
    clear hlv htv
    by_cases hin : i < 30
    · have j1 : (i : Int) < 30 := by omega
      have j0 : (0 : Int) ≤ (i : Int) := by omega
      have tm : (i : Int).tmod 40 = (i : Int) := Int.tmod_eq_of_lt j0 (by omega)
      go_upto_region 14 with (fail)
      go_cut [] (fun wx => Hid (To w y b x mb fa f0 f1 ix kk i t wx))
      case first =>
        have KT : Hid (Kept wr wr.drew) := gh (Kept.drew _)
        obtain ⟨V, hV⟩ : ∃ V, wr.drew = V := ⟨_, rfl⟩
        rw [hV] at KT
        have T1 := gh (T.out.kept KT.out)
        have x0 : ∀ u : Wd (Ty w y b x mb fa f0 f1 ix kk i), u.w.cell? ⟨y, 0, none⟩ = some (.pointer (some ⟨b, 0, none⟩)) := fun u => u.ok.cells.1
        have x1 : ∀ u : Wd (Ty w y b x mb fa f0 f1 ix kk i), u.w.cell? ⟨fa, 0, none⟩ = some (.pointer (some ⟨f0, 0, none⟩)) := fun u => u.ok.cells.2.1
        have x2 : ∀ u : Wd (Ty w y b x mb fa f0 f1 ix kk i), u.w.cell? ⟨fa, 1, none⟩ = some (.pointer (some ⟨f1, 0, none⟩)) := fun u => u.ok.cells.2.2
        refine region_wide [0, 1, 2, 3, 4, 8, 9, 10, 11, 5, 6, 7, 12] (Ty w y b x mb fa f0 f1 ix kk i) (by kernel_rfl) (by kernel_rfl) ⟨t, by rw [hV]; exact T1.out⟩ (fun _ => ?_)
        rw [hV]
        iterate 9 (refine pq rfl rfl ?_; go_big_quiet_step (rfl); refine wpQuiet_nil ?_)
        refine pl rfl rfl ?_
        gi_wp2_with (fail)
        refine ⟨trivial, ?_⟩
        refine (callsIn_wide.2 (cut_g V (n / 2 ^ i) 2 (by omega) (by omega))).mono ?_
        rintro e w' ⟨rfl, rfl⟩
        obtain ⟨r, hr⟩ : ∃ r, n / 2 ^ i % 2 = r := ⟨_, rfl⟩
        have r01 : r = 0 ∨ r = 1 := by omega
        rw [hr]
        clear hr
        rcases r01 with rfl | rfl
        · gi_wp2_with (fail)
          refine ⟨Wd.mem ⟨t, T1.out⟩, ?_⟩
          iterate 2 (refine pq rfl rfl ?_; go_big_quiet_step (rfl); refine wpQuiet_nil ?_)
          refine pl rfl rfl ?_
          gi_wp2_with (fail)
          refine ⟨trivial, ?_⟩
          refine (callsIn_wide.2 (th_one KF.out.1 T1.out f0 (.inl rfl))).mono ?_
          rintro e V2 ⟨r, t2, rfl, T2, U2, _⟩
          have TT := gh T2
          have UU := gh U2
          clear T2 U2 x0 x1 x2
          gi_wp2_with (fail)
          refine ⟨Wd.mem ⟨t2, TT.out⟩, ?_⟩
          refine perm_done ?_
          go_wp2_with (fail)
          go_meet
          exact ⟨t2, TT.out, UU.out⟩
        · gi_wp2_with (fail)
          refine ⟨Wd.mem ⟨t, T1.out⟩, ?_⟩
          iterate 2 (refine pq rfl rfl ?_; go_big_quiet_step (rfl); refine wpQuiet_nil ?_)
          refine pl rfl rfl ?_
          gi_wp2_with (fail)
          refine ⟨trivial, ?_⟩
          refine (callsIn_wide.2 (th_one KF.out.1 T1.out f1 (.inr rfl))).mono ?_
          rintro e V2 ⟨r, t2, rfl, T2, U2, _⟩
          have TT := gh T2
          have UU := gh U2
          clear T2 U2 x0 x1 x2
          gi_wp2_with (fail)
          refine ⟨Wd.mem ⟨t2, TT.out⟩, ?_⟩
          refine perm_done ?_
          go_wp2_with (fail)
          go_meet
          exact ⟨t2, TT.out, UU.out⟩
      case rest =>
      obtain ⟨t1, T1, U1⟩ := hcut.out
      have TA := gh T1
      have UA := gh U1
      clear T hcut T1 U1 tm
      go_upto_region 15 with (fail)
      go_cut [] (fun wx => Hid (To w y b x mb fa f0 f1 ix kk (i + 1) t wx))
      case first =>
        obtain ⟨V, hV⟩ : ∃ V, wc.drew = V := ⟨_, rfl⟩
        have T1 : Hid (Th w V y b x mb fa f0 f1 ix kk i t1) := gh (by rw [← hV]; exact TA.out.kept (Kept.drew _))
        have x0 : ∀ u : Wd (Ty2 w y b x mb fa f0 f1 ix kk i), u.w.cell? ⟨y, 0, none⟩ = some (.pointer (some ⟨b, 0, none⟩)) := fun u => u.ok.cells.1
        have x1 : ∀ u : Wd (Ty2 w y b x mb fa f0 f1 ix kk i), u.w.cell? ⟨fa, 0, none⟩ = some (.pointer (some ⟨f0, 0, none⟩)) := fun u => u.ok.cells.2.1
        have x2 : ∀ u : Wd (Ty2 w y b x mb fa f0 f1 ix kk i), u.w.cell? ⟨fa, 1, none⟩ = some (.pointer (some ⟨f1, 0, none⟩)) := fun u => u.ok.cells.2.2
        by_cases i2 : i % 2 = 0
        · have tm : (i : Int).tmod 2 = 0 := by rw [Int.tmod_eq_emod_of_nonneg j0]; omega
          refine region_wide [0, 1, 2, 3, 4, 5, 6, 7, 8] (Ty2 w y b x mb fa f0 f1 ix kk i) (by kernel_rfl) (by kernel_rfl) (.inl ⟨t1, by rw [hV]; exact T1.out⟩) (fun _ => ?_)
          rw [hV]
          have I2 := gh i2
          clear i2 hV
          iterate 8 (refine pq rfl rfl ?_; go_big_quiet_step (rfl); refine wpQuiet_nil ?_)
          refine pl rfl rfl ?_
          gi_wp2_with (fail)
          refine ⟨trivial, ?_⟩
          refine (callsIn_wide.2 (th_one KF.out.1 T1.out f0 (.inl rfl))).mono ?_
          rintro e V2 ⟨r, t2, rfl, _, U2, T2⟩
          have TT := gh (T2 (.inl ⟨rfl, I2.out⟩))
          have UU : Hid (Up t t2) := gh (fun e => U2 (UA.out e))
          clear T2 U2 x0 x1 x2
          gi_wp2_with (fail)
          refine ⟨Wd.mem (.inr ⟨t2, TT.out⟩), ?_⟩
          refine perm_done ?_
          go_wp2_with (fail)
          go_meet
          exact ⟨t2, TT.out, UU.out⟩
        · have i3 : i % 2 = 1 := by omega
          have tm : (i : Int).tmod 2 = 1 := by rw [Int.tmod_eq_emod_of_nonneg j0]; omega
          refine region_wide [0, 1, 2, 3, 4, 5, 6, 7, 8] (Ty2 w y b x mb fa f0 f1 ix kk i) (by kernel_rfl) (by kernel_rfl) (.inl ⟨t1, by rw [hV]; exact T1.out⟩) (fun _ => ?_)
          rw [hV]
          have I2 := gh i3
          clear i2 i3 hV
          iterate 8 (refine pq rfl rfl ?_; go_big_quiet_step (rfl); refine wpQuiet_nil ?_)
          refine pl rfl rfl ?_
          gi_wp2_with (fail)
          refine ⟨trivial, ?_⟩
          refine (callsIn_wide.2 (th_one KF.out.1 T1.out f1 (.inr rfl))).mono ?_
          rintro e V2 ⟨r, t2, rfl, _, U2, T2⟩
          have TT := gh (T2 (.inr ⟨rfl, I2.out⟩))
          have UU : Hid (Up t t2) := gh (fun e => U2 (UA.out e))
          clear T2 U2 x0 x1 x2
          gi_wp2_with (fail)
          refine ⟨Wd.mem (.inr ⟨t2, TT.out⟩), ?_⟩
          refine perm_done ?_
          go_wp2_with (fail)
          go_meet
          exact ⟨t2, TT.out, UU.out⟩
      case rest =>
      obtain ⟨t2, T2, U2⟩ := hcut.out
      have TB := gh T2
      have UB := gh U2
      clear TA UA hcut T2 U2
      obtain ⟨nv, hnv⟩ : ∃ nv, (if t2 = true then xv else ov) = nv := ⟨_, rfl⟩
      have LGC := th_logic KF.out.1 TB.out nv (by rw [KF.out.2.2.1, KF.out.2.2.2.1]; exact hnv)
      rw [KF.out.2.1] at LGC
      have HLG := gh LGC
      have HNV := gh hnv
      obtain ⟨d0, _, _⟩ := TB.out.cells
      clear LGC hnv
      go_wp2_with (fail)
      refine HLG.out.mono ?_
      rintro e w' ⟨rfl, rfl⟩
      clear HLG
      by_cases htt : t = t2
      · have e1 : nv = lv := by rw [← HNV.out, ← HLV.out, htt]
        have HTT := gh htt
        subst e1
        clear htt
        go_wp2_with (fail)
        exact ⟨⟨i + 1, t2, by omega, by rw [HNV.out], by rw [← HTV.out, HTT.out], by simp, TB⟩, by simp only [intOf]; omega⟩
      · have tf : t = false ∧ t2 = true := by
          cases t with
          | true => exact absurd (UB.out rfl).symm htt
          | false => exact ⟨rfl, by cases t2 with | true => rfl | false => exact absurd rfl htt⟩
        obtain ⟨rfl, rfl⟩ := tf
        have e1 : lv = ov := HLV.out.symm
        have e2 : nv = xv := HNV.out.symm
        have e3 : tv = 0 := HTV.out.symm
        subst e1 e2 e3
        have g1 : (nv != lv) = true := by have := KF.out.2.2.2.2.2; simp; exact fun e => this e.symm
        clear htt
        go_wp2_with (fail)
        exact ⟨⟨i + 1, true, by omega, rfl, rfl, by simp, TB⟩, by simp only [intOf]; omega⟩
    · have hi30 : i = 30 := by omega
      subst hi30
      have ht := th_t T.out
      have hout := KF.out.2.2.2.2.1
      have T9 : Hid (∀ X, Kept wr X → Th w X y b x mb fa f0 f1 ix kk 30 t) := gh (fun X k => T.out.kept k)
      have j1 : ¬ (((30 : Nat) : Int) < 30) := by omega
      cases cl with
      | false =>
        have hg : gv = 0 := by have := HCL.out; simpa using this
        rw [if_pos hg] at hout
        have ht1 : t = true := by rw [ht]; simp [hout]
        subst ht1
        have e1 : lv = xv := HLV.out.symm
        have e3 : tv = 1 := HTV.out.symm
        subst e1 e3
        clear hg hout ht hin hi
        go_wp2_with (fail)
        refine (known12_c wr).mono ?_
        rintro e W9 ⟨rfl, k9⟩
        have TT := gh (T9.out _ k9)
        obtain ⟨_, x1, x2⟩ := TT.out.cells
        clear k9 T
        go_wp2_with (fail)
        refine (th_end TT.out f0 (.inl rfl)).mono ?_
        rintro e w' ⟨rfl, rfl⟩
        go_wp2_with (fail)
        refine (th_end TT.out f1 (.inr rfl)).mono ?_
        rintro e w' ⟨rfl, rfl⟩
        go_wp2
        go_ret
        exact ⟨rfl, TT.out.since⟩
      | true =>
        have hg : gv ≠ 0 := by have := HCL.out; simpa using this
        rw [if_neg hg] at hout
        have ht1 : t = false := by rw [ht]; simp [hout]
        subst ht1
        have e1 : lv = ov := HLV.out.symm
        have e3 : tv = 0 := HTV.out.symm
        subst e1 e3
        clear hg hout ht hin hi
        go_wp2_with (fail)
        refine (known12_c wr).mono ?_
        rintro e W9 ⟨rfl, k9⟩
        have TT := gh (T9.out _ k9)
        obtain ⟨_, x1, x2⟩ := TT.out.cells
        clear k9 T
        go_wp2_with (fail)
        refine (th_end TT.out f0 (.inl rfl)).mono ?_
        rintro e w' ⟨rfl, rfl⟩
        go_wp2_with (fail)
        refine (th_end TT.out f1 (.inr rfl)).mono ?_
        rintro e w' ⟨rfl, rfl⟩
        go_wp2
        go_ret
        exact ⟨rfl, TT.out.since⟩
end Go.Proofs.YtibnlaihiahjpaaGreat
