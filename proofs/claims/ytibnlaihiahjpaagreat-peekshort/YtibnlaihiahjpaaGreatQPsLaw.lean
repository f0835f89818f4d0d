/-
  What PeekShort answers: true. No conditions but those of its arguments.
-/
import Derived.Test.YtibnlaihiahjpaaGreatY10
import Derived.Deep.DeepCutAuto
import Derived.Deep.CutBlock
namespace Go.Proofs.YtibnlaihiahjpaaGreat
open Go.RowKit Go.Shelf

theorem field_own (a c : Value) (W : World) : Sem.run Tryz.prog (Instr.field 56 (.agg #[a, c]) 1) W = .ok c W := by
  first
  | kernel_rfl
  | (unfold Instr.field; simp [Tryz.underlying56, go_sem])
  | rfl
attribute [local go_sem] field_own
/-- A frame of peek, alone, behind so many accesses. -/
def pit (s : Int) (m : Mst) : Nat → Pk × Mst
  | 0 => (Pk.new s, m)
  | k + 1 => (pit s m k).1.step (pit s m k).2
theorem pit_xs (s : Int) (m : Mst) : ∀ k, (pit s m k).2.xs = m.xs ∧ (pit s m k).2.size = m.size
  | 0 => ⟨rfl, rfl⟩
  | k + 1 => ⟨(Pk.step_xs _ _).1.trans (pit_xs s m k).1, (Pk.step_xs _ _).2.trans (pit_xs s m k).2⟩
/-- It ends behind one access, or three, with what the slot stands for. -/
theorem pit_end (s : Int) (m : Mst) (N : Nat) (hN : N = if kd (m.look s) = 5 then 3 else 1) : (∀ k, k < N → ((pit s m (k + 1)).1.n == 4) = decide (k + 1 = N)) ∧ (pit s m N).1.n = 4 ∧ (pit s m N).1.w = m.logicZ s := by
  obtain ⟨z, hz⟩ : ∃ z, m.look s = z := ⟨_, rfl⟩
  rw [hz] at hN
  have e1 : (pit s m 1).1 = (Pk.new s).take z := by
    show ((Pk.new s).step m).1 = _
    unfold Pk.step Pk.new
    rw [if_pos rfl]
    show (Pk.take _ (m.look s)) = _
    rw [hz]
  by_cases k5 : kd z = 5
  · rw [if_pos k5] at hN
    subst hN
    have er := ad_range z
    have w4 : wrap64 (ad z + 4) = ad z + 4 := by unfold wrap64; omega
    have w3 : wrap64 (ad z + 3) = ad z + 3 := by unfold wrap64; omega
    have w2 : wrap64 (ad z + 2) = ad z + 2 := by unfold wrap64; omega
    have t1 : (Pk.new s).take z = ⟨1, s, ad z, 0⟩ := by unfold Pk.take Pk.new; rw [if_pos k5]
    rw [t1] at e1
    obtain ⟨o, ho⟩ : ∃ o, m.look (ad z + 4) = o := ⟨_, rfl⟩
    have e2 : (pit s m 2).1 = ⟨if o = 1 then 2 else 3, s, ad z, 0⟩ := by
      show ((pit s m 1).1.step (pit s m 1).2).1 = _
      rw [e1]
      unfold Pk.step
      rw [if_neg (show ¬ ((1 : Int) = 0) by decide), if_pos (show (1 : Int) = 1 from rfl)]
      show Pk.choose _ ((pit s m 1).2.look (wrap64 (ad z + 4))) = _
      rw [look_xs (pit_xs s m 1).1, w4, ho]
      rfl
    have lz : m.logicZ s = if o = 1 then m.look (ad z + 3) else m.look (ad z + 2) := by
      unfold Mst.logicZ
      rw [hz]
      have k5' : Rf.kindZ z = 5 := k5
      rw [if_pos k5']
      show (if m.look (ad z + 4) = 1 then m.look (ad z + 3) else m.look (ad z + 2)) = _
      rw [ho]
    have e3 : (pit s m 3).1 = ⟨4, s, ad z, m.logicZ s⟩ := by
      show ((pit s m 2).1.step (pit s m 2).2).1 = _
      rw [lz]
      by_cases o1 : o = 1
      · rw [if_pos o1] at e2
        rw [e2, if_pos o1]
        unfold Pk.step
        rw [if_neg (show ¬ ((2 : Int) = 0) by decide), if_neg (show ¬ ((2 : Int) = 1) by decide), if_pos (show (2 : Int) = 2 from rfl)]
        show Pk.fin _ ((pit s m 2).2.look (wrap64 (ad z + 3))) = _
        rw [look_xs (pit_xs s m 2).1, w3]
        rfl
      · rw [if_neg o1] at e2
        rw [e2, if_neg o1]
        unfold Pk.step
        rw [if_neg (show ¬ ((3 : Int) = 0) by decide), if_neg (show ¬ ((3 : Int) = 1) by decide), if_neg (show ¬ ((3 : Int) = 2) by decide), if_pos (show (3 : Int) = 3 from rfl)]
        show Pk.fin _ ((pit s m 2).2.look (wrap64 (ad z + 2))) = _
        rw [look_xs (pit_xs s m 2).1, w2]
        rfl
    refine ⟨fun k hk => ?_, by rw [e3], by rw [e3]⟩
    obtain rfl | rfl | rfl : k = 0 ∨ k = 1 ∨ k = 2 := by omega
    · rw [e1]; rfl
    · rw [e2]
      by_cases o1 : o = 1
      · rw [if_pos o1]; rfl
      · rw [if_neg o1]; rfl
    · rw [e3]; rfl
  · rw [if_neg k5] at hN
    subst hN
    have t1 : (Pk.new s).take z = ⟨4, s, 0, z⟩ := by unfold Pk.take Pk.new; rw [if_neg k5]
    rw [t1] at e1
    have lz : m.logicZ s = z := by
      unfold Mst.logicZ
      rw [hz]
      have k5' : ¬ Rf.kindZ z = 5 := k5
      rw [if_neg k5']
    refine ⟨fun k hk => ?_, by rw [e1], by rw [e1, lz]⟩
    obtain rfl : k = 0 := by omega
    rw [e1]; rfl
set_option maxRecDepth 100000 in
set_option maxHeartbeats 4000000 in
theorem peekShort_c (w : World) (cells : Int) (a1 : Option Addr) (keys : List Int) (c1 : Nat) (a2 : Option Addr) (l : List Int) (c2 : Nat) (at_ : Int) (lay : Bool) (hr1 : Reads w a1 keys) (hc1 : keys.length ≤ c1) (hm1 : c1 ≤ maxLen) (hr2 : Reads w a2 l) (hc2 : l.length ≤ c2) (hm2 : c2 ≤ maxLen) (hi : ∀ z ∈ l, I64 z) :
    Calls Tryz.prog 6 #[.int .i64 cells, .slice a1 keys.length c1, .slice a2 l.length c2, .int .i64 at_, .bool lay] w fun e w' => e = .returned (.bool true) ∧ Kept w w' := by
  have NW := ynew_r w cells a1 keys c1 a2 l c2 hr1 hc1 hm1 hr2 hc2 hm2 hi
  have HNW := gh NW
  clear NW hr1 hc1 hm1 hr2 hc2 hm2 hi
  go_enter Tryz.func6, Tryz.ntmps6
  go_wp2_with (fail)
  refine HNW.out.mono ?_
  rintro e W1 ⟨y, m0, ix0, rfl, hyd, ok0⟩
  obtain ⟨b, x, mb, hy⟩ := hyd.sees
  have Y0 := gh hy
  have O0 := gh ok0
  clear hyd ok0 hy HNW
  go_upto_if 20 with (fail)
  go_cut [] (fun wx => ∃ m ix, Hid (Yx w wx y b x mb m ix ∧ YOk m ix 1680))
  case first =>
    cases lay with
    | false =>
      go_wp2_with (fail)
      go_meet
      exact ⟨m0, ix0, Y0.out, O0.out⟩
    | true =>
      go_wp2_with (fail)
      refine (lay_x w W1 y b x mb m0 ix0 1680 Y0.out O0.out at_ _).mono ?_
      rintro e W2 ⟨r, m1, ix1, rfl, h1, o1⟩
      have Y1 := gh h1
      have O1 := gh o1
      clear h1 o1
      go_wp2_with (fail)
      go_meet
      exact ⟨m1, ix1, Y1.out, O1.out⟩
  case rest =>
  obtain ⟨m, ix, hc⟩ := hcut
  have Y := gh hc.out.1
  have O := gh hc.out.2
  clear hc Y0 O0
  obtain ⟨_, d1, d2⟩ := Y.out.cells
  go_wp2_with (fail)
  refine (slot_d wc mb ix.m Y.out.dm O.out.ok.1 O.out.sound at_).mono ?_
  rintro e W2 ⟨⟨nd, s⟩, hp, rfl, k2⟩
  dsimp only
  have Y2 := gh (Y.out.kept k2)
  clear hp k2 d1 d2 Y
  go_wp2_with (fail)
  refine (pk_begin w W2 y b x mb m ix 1680 Y2.out O.out s).mono ?_
  rintro e W3 ⟨f, rfl, h3⟩
  have P3 := gh h3
  clear h3 Y2
  obtain ⟨N, hN⟩ : ∃ N, N = if kd (m.look s) = 5 then 3 else 1 := ⟨_, rfl⟩
  have N3 : N ≤ 3 ∧ 1 ≤ N := by rw [hN]; split <;> omega
  have PE := gh (pit_end s m N hN)
  have HN := gh hN
  clear hN
  go_upto_block 0 with fail
  go_cut [14] (fun c wx => c = .int .i64 (N : Int) ∧ Hid (Yp w wx y b x mb (pit s m N).2 ix 1680 f (pit s m N).1))
  case first =>
    go_wp2_with (fail)
    go_loopw [14] (fun vi wr => ∃ k : Nat, k < N ∧ vi = .int .i64 ((k : Int) + 1) ∧ Hid (Yp w wr y b x mb (pit s m k).2 ix 1680 f (pit s m k).1)) (fun vi _ => N - (intOf vi).toNat)
    case atStart => exact ⟨0, by omega, by simp, P3⟩
    case round =>
      obtain ⟨k, hk, rfl, P⟩ := hrel
      have j1 : (k : Int) + 1 < 9 := by omega
      obtain ⟨d0, _, _⟩ := P.out.yx.cells
      have ST := gh (pk_x w wr y b x mb _ ix 1680 f _ P.out (pit s m (k + 1)).1 (pit s m (k + 1)).2 _ rfl (PE.out.1 k hk))
      clear P3
      by_cases hkN : k + 1 = N
      · rw [decide_eq_true hkN] at ST
        go_wp2_with (fail)
        refine ST.out.mono ?_
        rintro e W4 ⟨rfl, p4⟩
        have P4 := gh p4
        rw [hkN] at P4
        have EN : Hid ((k : Int) + 1 = (N : Int)) := gh (by omega)
        clear p4 ST P d0
        go_wp2_with (fail)
        go_meet
        exact ⟨by rw [EN.out], P4.out⟩
      · rw [decide_eq_false hkN] at ST
        go_wp2_with (fail)
        refine ST.out.mono ?_
        rintro e W4 ⟨rfl, p4⟩
        have P4 := gh p4
        clear p4 ST P d0
        go_wp2
        exact ⟨⟨k + 1, by omega, by simp, P4⟩, by simp only [intOf]; omega⟩
  case rest =>
  obtain ⟨rfl, P⟩ := hcut
  obtain ⟨d0, d1, d2⟩ := P.out.yx.cells
  obtain ⟨q, hq⟩ : ∃ q, (pit s m N).1 = q := ⟨_, rfl⟩
  obtain ⟨mq, hmq⟩ : ∃ mq, (pit s m N).2 = mq := ⟨_, rfl⟩
  obtain ⟨L, hL⟩ : ∃ L, m.logicZ s = L := ⟨_, rfl⟩
  obtain ⟨z, hz⟩ : ∃ z, m.look s = z := ⟨_, rfl⟩
  obtain ⟨k, hk⟩ : ∃ k, kd z = k := ⟨_, rfl⟩
  have XS : Hid (mq.xs = m.xs) := gh (by rw [← hmq]; exact (pit_xs s m N).1)
  have QN : Hid (q.n = 4 ∧ q.w = L) := gh (by rw [← hq, ← hL]; exact PE.out.2)
  have LZ : Hid (mq.logicZ s = L) := gh (by rw [← hL]; unfold Mst.logicZ; simp only [look_xs XS.out])
  have LK : Hid (mq.look s = z) := gh (by rw [look_xs XS.out]; exact hz)
  have IZ : Hid (I64 z) := gh (by rw [← hz]; exact O.out.ok.2.look s)
  have HK := gh hk
  rw [hz, hk] at HN
  rw [hq, hmq] at P
  clear hq hmq hL hz hk PE
  go_wp2_with (fail)
  refine (lk_p wc b mq s z P.out.yx.pm LK.out).mono ?_
  rintro e w' ⟨rfl, rfl⟩
  go_wp2_with (fail)
  refine (kd_q wc z k IZ.out HK.out).mono ?_
  rintro e w' ⟨rfl, rfl⟩
  go_upto_if 59 with (fail)
  go_cut [15] (fun c wx => c = .int .i64 (N : Int) ∧ wc = wx)
  case first =>
    have hn := HN.out
    by_cases k5 : k = 5
    · rw [if_pos k5] at hn
      subst hn
      have g5 : (k == 5) = true := by simp [k5]
      clear k5
      go_wp2_with (fail)
      go_meet
      exact ⟨rfl, rfl⟩
    · rw [if_neg k5] at hn
      subst hn
      have g5 : (k == 5) = false := by simp [k5]
      clear k5
      go_wp2_with (fail)
      go_meet
      exact ⟨rfl, rfl⟩
  case rest =>
  obtain ⟨rfl, rfl⟩ := hcut
  have x0 : ∀ u : Wd (Kept wc), u.w.cell? ⟨y, 0, none⟩ = some (.pointer (some ⟨b, 0, none⟩)) := fun u => u.ok.cell d0 id
  go_wp2_with (fail)
  refine region_quiet (Kept wc) (by kernel_rfl) (by kernel_rfl) (Kept.drew _) (fun _ => ?_)
  repeat (go_big_quiet_step (first
    | (go_at_call 27; rename_i u; refine (known11_c u.w).mono ?_; rintro e w' ⟨rfl, k⟩; exact ⟨rfl, Wd.mem (u.ok.trans k)⟩)
    | (go_at_call 33; rename_i u; refine (pk_word u.w f q (P.out.fr.kept u.ok) L QN.out.2).mono ?_; rintro e w' ⟨rfl, rfl⟩; exact ⟨rfl, u, rfl⟩)
    | (go_at_call 17; rename_i u; refine (logic_p u.w b mq s L (P.out.yx.pm.kept u.ok) P.out.ok.ok.2 LZ.out).mono ?_; rintro e w' ⟨rfl, rfl⟩; exact ⟨rfl, u, rfl⟩)
    | (go_at_call 30; rename_i u; refine (pk_idle u.w f b q (P.out.fr.kept u.ok) QN.out.1).mono ?_; rintro e w' ⟨rfl, rfl⟩; exact ⟨rfl, u, rfl⟩)
    | (go_at_call 28; rename_i u; refine (same_y w u.w y mq ix 1680 (P.out.yx.kept u.ok).yd P.out.ok).mono ?_; rintro e w' ⟨rfl, k⟩; exact ⟨rfl, Wd.mem (u.ok.trans k)⟩)))
  refine wpQuiet_nil ?_
  intro u
  go_wp2
  go_ret
  exact ⟨rfl, P.out.yx.since.trans u.ok⟩
end Go.Proofs.YtibnlaihiahjpaaGreat
