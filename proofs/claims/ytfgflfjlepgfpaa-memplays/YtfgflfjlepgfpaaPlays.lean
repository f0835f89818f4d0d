/-
  What ordinatehand's Like answers at two memories of one state, and what MemPlays answers: true; nothing that lay is turned.
-/
import Derived.Test.YtfgflfjlepgfpaaStep
import Derived.Test.YtfgflfjlepgfpaaFrame
namespace Go.Proofs.Ytfgflfjlepgfpaa
open Go.RowKit

set_option maxRecDepth 100000 in
theorem like_c (w W : World) (bm bx : Nat) (s : Mst) (hp : PD w W bm s bx s) :
    Calls Try.prog 24 #[.pointer (some ⟨bm, 0, none⟩), .pointer (some ⟨bx, 0, none⟩)] W fun e W' => e = .returned (.bool true) ∧ Kept W W' := by
  obtain ⟨v2, m2, -⟩ := hp.snd
  obtain ⟨ax, cx, rfl, hrx, hcx, hmx⟩ := m2.form
  have bC : ∀ y : Wd (Kept W), y.w.cell? ⟨bx, 1, none⟩ = some (.slice ax s.xs.length cx) := fun y => (DMem.opened (m2.kept y.ok)).1.1
  have bS : ∀ y : Wd (Kept W), y.w.cell? ⟨bx, 0, none⟩ = some (.int .i64 s.size) := fun y => (DMem.opened (m2.kept y.ok)).1.2.1
  have HX := hide hrx
  have HCX := hide hcx
  have hl := m2.len
  have KD := hide (Kept.drew W)
  have HP := hide hp
  clear m2 hrx hcx hmx hp
  go_enter Try.func24, Try.ntmps24
  go_wp2_with (fail)
  refine region_wide [0, 2, 3, 4, 5, 1, 6, 7, 8, 10, 11, 12, 13, 14, 9, 15, 16, 17, 18, 20, 21, 22, 23, 19, 24, 25, 26] (Kept W) (by kernel_rfl) (by kernel_rfl) KD.out (fun _ => ?_)
  repeat (refine pq rfl rfl ?_; go_big_quiet_step (fail); refine wpQuiet_nil ?_)
  refine pl rfl rfl ?_
  gi_wp2_with (fail)
  refine ⟨trivial, ?_⟩
  refine (callsIn_wide.2 (now_cells w _ bm s (HP.out.on KD.out).now1)).mono ?_
  rintro e W1 ⟨a1, cap1, rfl, hr1, hc1, hm1, -, -, hk⟩
  have K1 := hide (KD.out.trans hk)
  have HR1 := hide hr1
  have HC1 := hide hc1
  have HM1 := hide hm1
  clear hr1 hc1 hm1 hk
  gi_wp2_with (fail)
  refine ⟨Wd.mem K1.out, ?_⟩
  refine pl rfl rfl ?_
  gi_wp2_with (fail)
  refine ⟨trivial, ?_⟩
  refine (callsIn_wide.2 (words_k W1 a1 ax s.xs cap1 cx HR1.out (HX.out.kept K1.out) HC1.out HCX.out HM1.out)).mono ?_
  rintro e W2 ⟨rfl, hk⟩
  have K2 := hide (K1.out.trans hk)
  clear hk
  gi_wp2_with (fail)
  refine ⟨Wd.mem K2.out, ?_⟩
  repeat (refine pq rfl rfl ?_; go_big_quiet_step (fail); refine wpQuiet_nil ?_)
  refine pl rfl rfl ?_
  gi_wp2_with (fail)
  refine ⟨trivial, ?_⟩
  refine (callsIn_wide.2 (now_used w W2 bm s (s.xs.length : Int) (HP.out.on K2.out).now1 rfl)).mono ?_
  rintro e w' ⟨rfl, rfl⟩
  gi_wp2_with (fail)
  refine ⟨Wd.mem K2.out, ?_⟩
  repeat (refine pq rfl rfl ?_; go_big_quiet_step (fail); refine wpQuiet_nil ?_)
  refine pl rfl rfl ?_
  gi_wp2_with (fail)
  refine ⟨trivial, ?_⟩
  refine (callsIn_wide.2 (now_size w W2 bm s s.size (HP.out.on K2.out).now1 rfl)).mono ?_
  rintro e w' ⟨rfl, rfl⟩
  gi_wp2_with (fail)
  refine ⟨Wd.mem K2.out, ?_⟩
  repeat (refine pq rfl rfl ?_; go_big_quiet_step (fail); refine wpQuiet_nil ?_)
  refine perm_done ?_
  go_wp2
  go_ret
  exact ⟨rfl, K2.out⟩

/-- An operation of a slice of such, where it lies. -/
theorem AreOps.at {w : World} {a : Option Addr} {n i : Nat} (h : AreOps w a n) (hi : i < n) : ∃ bl off kind A near X Y aw ws cw, a = some ⟨bl, off, none⟩ ∧ (Reads w aw ws ∧ (aw = none → cw = 0)) ∧ ws.length ≤ cw ∧ cw ≤ maxLen ∧
    w.cell? ⟨bl, off + i * 6, none⟩ = some (.int .i64 kind) ∧ w.cell? ⟨bl, off + i * 6 + 1, none⟩ = some (.int .i64 A) ∧ w.cell? ⟨bl, off + i * 6 + 2, none⟩ = some (.bool near) ∧ w.cell? ⟨bl, off + i * 6 + 3, none⟩ = some (.int .i64 X) ∧ w.cell? ⟨bl, off + i * 6 + 4, none⟩ = some (.int .i64 Y) ∧ w.cell? ⟨bl, off + i * 6 + 5, none⟩ = some (.slice aw ws.length cw) := by
  rcases h with h | ⟨bl, off, ha, h⟩
  · omega
  · obtain ⟨cs, _, ⟨kind, A, near, X, Y, aw, ws, cw, rfl, hr, hc, hm⟩, hcell⟩ := h i hi
    refine ⟨bl, off, kind, A, near, X, Y, aw, ws, cw, ha, hr, hc, hm, ?_, ?_, ?_, ?_, ?_, ?_⟩
    · simpa using hcell 0 (by omega)
    · simpa [Nat.add_assoc] using hcell 1 (by omega)
    · simpa [Nat.add_assoc] using hcell 2 (by omega)
    · simpa [Nat.add_assoc] using hcell 3 (by omega)
    · simpa [Nat.add_assoc] using hcell 4 (by omega)
    · simpa [Nat.add_assoc] using hcell 5 (by omega)

theorem MemAt.of_block {T : TypeId} {lay : Value → Int → Int → Int → Int → Array Value} {w w' : World} {n₀ b : Nat} {v : Value} {s : Mst} (h : MemAt T lay w n₀ b v s) (hb : ∀ k, Foot b v k → w'.heap[k]? = w.heap[k]?) : MemAt T lay w' n₀ b v s := by
  refine ⟨h.le, (hb b (.inl rfl)).trans h.box, ?_, h.room, h.top⟩
  obtain ⟨h1, h2⟩ := h.row
  refine ⟨h1, ?_⟩
  rcases h2 with h2 | ⟨g, cap, cur, rfl, hg, hh, r⟩
  · exact .inl h2
  · exact .inr ⟨g, cap, cur, rfl, hg, (hb g (.inr rfl)).trans hh, r⟩
/-- A memory that lies beside two others stands in the first one's place. -/
theorem PairX.third {w W : World} {b' : Nat} {v' : Value} {bm bx : Nat} {s s1 s2 : Mst} (h : PDX (Foot b' v') w W bm s1 bx s2) (hc : PMem W w.heap.size b' v' s) : PD w W b' s bx s2 := by
  obtain ⟨v1, v2, _, h2, _, k, hx⟩ := h
  exact ⟨v', v2, hc, h2, fun i e => (hx i e).2.2, k⟩

set_option maxRecDepth 100000 in
set_option maxHeartbeats 8000000 in
theorem memPlays_c (w : World) (sz : Int) (a0 : Option Addr) (n cap : Nat) (at' : Int) (ho : AreOps w a0 n) (hc : n ≤ cap) (hm : cap ≤ maxLen) :
    Calls Try.prog 4 #[.int .i64 sz, .slice a0 n cap, .int .i64 at'] w fun e w' => e = .returned (.bool true) ∧ Kept w w' := by
  have hlm : (n : Int) ≤ 9223372036854775807 := by unfold maxLen at hm; omega
  obtain ⟨j, hj, -, HJ⟩ := cut_k sz 60 (by omega) (by omega)
  have HO := hide ho
  clear ho hm
  by_cases hbad : (j : Int) - 2 < 1
  · go_enter Try.func4, Try.ntmps4
    go_wp2_with (fail)
    refine (HJ _).mono ?_
    rintro e w' ⟨rfl, rfl⟩
    go_wp2_with (fail)
    refine (new0_p w ((j : Int) - 2) (by omega)).mono ?_
    rintro e w' ⟨rfl, rfl⟩
    go_wp2_with (fail)
    refine (new0_d w ((j : Int) - 2) (by omega)).mono ?_
    rintro e w' ⟨rfl, rfl⟩
    go_wp2_with (fail)
    refine (known_c w).mono ?_
    rintro e W1 ⟨rfl, hk⟩
    have HK := hide hk
    clear hk
    go_wp2
    go_ret
    exact ⟨rfl, HK.out⟩
  go_enter Try.func4, Try.ntmps4
  go_wp2_with (fail)
  refine (HJ _).mono ?_
  rintro e w' ⟨rfl, rfl⟩
  go_wp2_with (fail)
  refine (now_new w w ((j : Int) - 2) (Kept.refl w) (by omega) (by omega)).mono ?_
  rintro e W1 ⟨rfl, h1, -⟩
  have H1 := hide h1
  clear h1
  go_wp2_with (fail)
  refine (new_d W1 ((j : Int) - 2) (by omega) (by omega)).mono ?_
  rintro e W2 ⟨rfl, h2, k2, -⟩
  have P2 := hide (Pair.of H1.out.1 H1.out.2 ⟨_, h2⟩ k2)
  obtain ⟨bx, hbx⟩ : ∃ bx, W1.heap.size = bx := ⟨_, rfl⟩
  rw [hbx] at P2 ⊢
  clear h2 k2 H1 hbx
  go_wp2_with (fail)
  refine (known_c W2).mono ?_
  rintro e W3 ⟨rfl, hk⟩
  have P3 : Hid (PD w W3 w.heap.size (Mst.new ((j : Int) - 2)) bx (Mst.new ((j : Int) - 2))) := hide (P2.out.on hk)
  clear hk P2
  go_wp2
  go_loopw [8, 12] (fun m i wr => ∃ (t bm : Nat) (s : Mst), t ≤ n ∧ t ≤ 200 ∧ m = .pointer (some ⟨bm, 0, none⟩) ∧ i = .int .i64 (t : Int) ∧ Hid (PD w wr bm s bx s)) (fun _ i _ => 200 - (intOf i).toNat)
  case atStart => exact ⟨0, w.heap.size, _, Nat.zero_le _, Nat.zero_le _, rfl, rfl, P3⟩
  case round =>
    obtain ⟨t, bm, s, ht, ht1, rfl, rfl, HP⟩ := hrel
    clear P3
    by_cases hlt : t < n ∧ t < 200
    · obtain ⟨hlt, hlt1⟩ := hlt
      obtain ⟨bl, off, kind, A, near, X, Y, aw, ws, cw, rfl, hwr, hcw, hmw, g0, g1, g2, g3, g4, g5⟩ := HO.out.at hlt
      have i1 : (t : Int) < (n : Int) := by omega
      have i2 : (t : Int) < 200 := by omega
      have i3 : t < cap := by omega
      have hk0 := HP.out.kept
      have c0 := hk0.cell g0 id
      have c5 := hk0.cell g5 id
      have hwm : (ws.length : Int) ≤ 9223372036854775807 := by unfold maxLen at hmw; omega
      by_cases hwl : 100 < ws.length
      · have i4 : (100 : Int) < (ws.length : Int) := by omega
        have KW := hide hk0
        clear hk0 hwr hcw hmw g0 g1 g2 g3 g4 g5
        go_wp2_with (fail)
        refine (known_c _).mono ?_
        rintro e V1 ⟨rfl, hk⟩
        have HK := hide (KW.out.trans hk)
        clear hk
        go_wp2
        go_ret
        exact ⟨rfl, HK.out⟩
      have i4 : (ws.length : Int) ≤ 100 := by omega
      replace hwl : ws.length ≤ 100 := by omega
      obtain ⟨q, hq, -, HQ⟩ := cut_k kind 6 (by omega) (by omega)
      have HWR := hide hwr
      have x0 : ∀ y : Wd (Kept w), y.w.cell? ⟨bl, off + t * 6, none⟩ = some (.int .i64 kind) := fun y => y.ok.cell g0 id
      have x1 : ∀ y : Wd (Kept w), y.w.cell? ⟨bl, off + t * 6 + 1, none⟩ = some (.int .i64 A) := fun y => y.ok.cell g1 id
      have x2 : ∀ y : Wd (Kept w), y.w.cell? ⟨bl, off + t * 6 + 2, none⟩ = some (.bool near) := fun y => y.ok.cell g2 id
      have x3 : ∀ y : Wd (Kept w), y.w.cell? ⟨bl, off + t * 6 + 3, none⟩ = some (.int .i64 X) := fun y => y.ok.cell g3 id
      have x4 : ∀ y : Wd (Kept w), y.w.cell? ⟨bl, off + t * 6 + 4, none⟩ = some (.int .i64 Y) := fun y => y.ok.cell g4 id
      have x5 : ∀ y : Wd (Kept w), y.w.cell? ⟨bl, off + t * 6 + 5, none⟩ = some (.slice aw ws.length cw) := fun y => y.ok.cell g5 id
      clear hk0 hwr hcw hmw g0 g1 g2 g3 g4 g5
      by_cases hq5 : q = 5
      · subst hq5
        go_wp2_with (fail)
        refine (HQ _).mono ?_
        rintro e w' ⟨rfl, rfl⟩
        go_wp2_with (fail)
        refine (now_clone w wr bm s HP.out.now1).mono ?_
        rintro e V1 ⟨B5, rfl, ⟨vc, hc1⟩, kc⟩
        have hX : PDX (Foot B5 vc) w V1 bm s bx s := PairX.new HP.out kc (fun k e => hc1.lt k e)
        have P1 := hide hX
        have HC1 := hide (hc1.low HP.out.kept.size)
        clear hc1 kc hX c0 c5 HP
        go_wp2_with (fail)
        have P2 := P1.out.on (Turned.alloc (fun _ => False) V1 (.cells #[.int .i64 5] 2))
        obtain ⟨v1, m1, st1⟩ := P2.fst
        refine (make_p _ _ _ v1 _ _ [5] 1 m1 P2.pair.kept.size (Reads.new V1 2 [5]) (by decide) (fun _ ad e => by cases e; exact Nat.ne_of_gt P1.out.pair.now1.lt.2)).mono ?_
        rintro e V3 ⟨rfl, h3⟩
        have hst := st1 V3 _ h3
        have P3 := hide hst.1
        have HC3 := hide ((HC1.out.kept (Turned.alloc (fun _ => False) V1 (.cells #[.int .i64 5] 2))).of_block hst.2)
        clear h3 hst st1 m1 P2 P1 HC1
        go_wp2_with (fail)
        obtain ⟨v1, m1, st1⟩ := P3.out.fst
        refine (write_p _ _ _ v1 _ 1 77 m1).mono ?_
        rintro e V5 ⟨rfl, h4, t4⟩
        have hst := st1 V5 _ (Does.same h4 t4)
        have P5 := hide (PairX.third hst.1 (HC3.out.of_block hst.2))
        clear h4 t4 hst st1 m1 P3 HC3
        have PDr := hide (P5.out.on (Kept.drew V5))
        have SD := hide (P5.out.kept.trans (Kept.drew V5))
        go_wp2_with (fail)
        refine region_two [0, 1, 2, 3, 4, 5] 6 [7, 8, 9, 11, 12, 13, 14, 10, 15, 16, 17, 18, 20, 21, 22, 23, 19, 24, 25, 26, 27, 29, 30, 31, 32, 28, 33, 34] (Kept w) (by kernel_rfl) (by kernel_rfl) SD.out (fun _ => ?_)
        repeat (refine tq rfl rfl ?_; go_big_quiet_step (fail); refine wpQuiet_nil ?_)
        refine tl rfl ?_
        gi_wp2_with (fail)
        refine ⟨trivial, ?_⟩
        refine (callsIn_wide.2 (step_c w _ B5 bx s kind A near X Y aw ws cw PDr.out HWR.out.1 HWR.out.2 hwl)).mono ?_
        rintro e V6 ⟨rfl, s', h6⟩
        have P6 := hide h6
        clear h6 PDr SD P5
        obtain ⟨v2, m2, -⟩ := P6.out.snd
        have y2 : ∀ y : Wd (fun U => U = V6), y.w.cell? ⟨bx, 2, none⟩ = some (.int .i64 s'.count) := fun y => by rw [y.ok]; exact (DMem.opened m2).1.2.2.1
        have y3 : ∀ y : Wd (fun U => U = V6), y.w.cell? ⟨bx, 3, none⟩ = some (.int .i64 s'.odd) := fun y => by rw [y.ok]; exact (DMem.opened m2).1.2.2.2.1
        have y4 : ∀ y : Wd (fun U => U = V6), y.w.cell? ⟨bx, 4, none⟩ = some (.int .i64 s'.ref) := fun y => by rw [y.ok]; exact (DMem.opened m2).1.2.2.2.2
        clear m2
        gi_wp2_with (fail)
        refine ⟨fun U => U = V6, rfl, ?_⟩
        have hne6 : Nonempty (Wd (fun U => U = V6)) := ⟨⟨V6, rfl⟩⟩
        repeat (refine pq rfl rfl ?_; go_big_quiet_step (fail); refine wpQuiet_nil ?_)
        refine pl rfl rfl ?_
        gi_wp2_with (fail)
        refine ⟨trivial, ?_⟩
        refine (callsIn_wide.2 (now_count w V6 B5 s' _ P6.out.now1 rfl)).mono ?_
        rintro e w' ⟨rfl, rfl⟩
        gi_wp2_with (fail)
        refine ⟨Wd.mem rfl, ?_⟩
        repeat (refine pq rfl rfl ?_; go_big_quiet_step (fail); refine wpQuiet_nil ?_)
        refine pl rfl rfl ?_
        gi_wp2_with (fail)
        refine ⟨trivial, ?_⟩
        refine (callsIn_wide.2 (now_odd w V6 B5 s' _ P6.out.now1 rfl)).mono ?_
        rintro e w' ⟨rfl, rfl⟩
        gi_wp2_with (fail)
        refine ⟨Wd.mem rfl, ?_⟩
        repeat (refine pq rfl rfl ?_; go_big_quiet_step (fail); refine wpQuiet_nil ?_)
        refine pl rfl rfl ?_
        gi_wp2_with (fail)
        refine ⟨trivial, ?_⟩
        refine (callsIn_wide.2 (now_refused w V6 B5 s' _ P6.out.now1 rfl)).mono ?_
        rintro e w' ⟨rfl, rfl⟩
        gi_wp2_with (fail)
        refine ⟨Wd.mem rfl, ?_⟩
        repeat (refine pq rfl rfl ?_; go_big_quiet_step (fail); refine wpQuiet_nil ?_)
        refine perm_done ?_
        go_wp2
        exact ⟨⟨t + 1, B5, s', by omega, by omega, rfl, by simp, P6⟩, by simp [intOf]; omega⟩
      · have nq : ((q : Int) == 5) = false := by simp only [beq_eq_false_iff_ne, ne_eq]; omega
        go_wp2_with (fail)
        refine (HQ _).mono ?_
        rintro e w' ⟨rfl, rfl⟩
        have PDr := hide (HP.out.on (Kept.drew wr))
        have SD := hide (HP.out.kept.trans (Kept.drew wr))
        go_wp2_with (fail)
        refine region_two [0, 1, 2, 3, 4, 5] 6 [7, 8, 9, 11, 12, 13, 14, 10, 15, 16, 17, 18, 20, 21, 22, 23, 19, 24, 25, 26, 27, 29, 30, 31, 32, 28, 33, 34] (Kept w) (by kernel_rfl) (by kernel_rfl) SD.out (fun _ => ?_)
        repeat (refine tq rfl rfl ?_; go_big_quiet_step (fail); refine wpQuiet_nil ?_)
        refine tl rfl ?_
        gi_wp2_with (fail)
        refine ⟨trivial, ?_⟩
        refine (callsIn_wide.2 (step_c w _ bm bx s kind A near X Y aw ws cw PDr.out HWR.out.1 HWR.out.2 hwl)).mono ?_
        rintro e V6 ⟨rfl, s', h6⟩
        have P6 := hide h6
        clear h6 PDr SD HP
        obtain ⟨v2, m2, -⟩ := P6.out.snd
        have y2 : ∀ y : Wd (fun U => U = V6), y.w.cell? ⟨bx, 2, none⟩ = some (.int .i64 s'.count) := fun y => by rw [y.ok]; exact (DMem.opened m2).1.2.2.1
        have y3 : ∀ y : Wd (fun U => U = V6), y.w.cell? ⟨bx, 3, none⟩ = some (.int .i64 s'.odd) := fun y => by rw [y.ok]; exact (DMem.opened m2).1.2.2.2.1
        have y4 : ∀ y : Wd (fun U => U = V6), y.w.cell? ⟨bx, 4, none⟩ = some (.int .i64 s'.ref) := fun y => by rw [y.ok]; exact (DMem.opened m2).1.2.2.2.2
        clear m2
        gi_wp2_with (fail)
        refine ⟨fun U => U = V6, rfl, ?_⟩
        have hne6 : Nonempty (Wd (fun U => U = V6)) := ⟨⟨V6, rfl⟩⟩
        repeat (refine pq rfl rfl ?_; go_big_quiet_step (fail); refine wpQuiet_nil ?_)
        refine pl rfl rfl ?_
        gi_wp2_with (fail)
        refine ⟨trivial, ?_⟩
        refine (callsIn_wide.2 (now_count w V6 bm s' _ P6.out.now1 rfl)).mono ?_
        rintro e w' ⟨rfl, rfl⟩
        gi_wp2_with (fail)
        refine ⟨Wd.mem rfl, ?_⟩
        repeat (refine pq rfl rfl ?_; go_big_quiet_step (fail); refine wpQuiet_nil ?_)
        refine pl rfl rfl ?_
        gi_wp2_with (fail)
        refine ⟨trivial, ?_⟩
        refine (callsIn_wide.2 (now_odd w V6 bm s' _ P6.out.now1 rfl)).mono ?_
        rintro e w' ⟨rfl, rfl⟩
        gi_wp2_with (fail)
        refine ⟨Wd.mem rfl, ?_⟩
        repeat (refine pq rfl rfl ?_; go_big_quiet_step (fail); refine wpQuiet_nil ?_)
        refine pl rfl rfl ?_
        gi_wp2_with (fail)
        refine ⟨trivial, ?_⟩
        refine (callsIn_wide.2 (now_refused w V6 bm s' _ P6.out.now1 rfl)).mono ?_
        rintro e w' ⟨rfl, rfl⟩
        gi_wp2_with (fail)
        refine ⟨Wd.mem rfl, ?_⟩
        repeat (refine pq rfl rfl ?_; go_big_quiet_step (fail); refine wpQuiet_nil ?_)
        refine perm_done ?_
        go_wp2
        exact ⟨⟨t + 1, bm, s', by omega, by omega, rfl, by simp, P6⟩, by simp [intOf]; omega⟩
    · by_cases h1 : t < n
      · have e1 : (t : Int) < (n : Int) := by omega
        have e2 : ¬ ((t : Int) < 200) := by omega
        clear hlt
        have KD := hide (Kept.drew wr)
        obtain ⟨v2, m2, -⟩ := HP.out.snd
        have y2 : ∀ y : Wd (Kept wr), y.w.cell? ⟨bx, 2, none⟩ = some (.int .i64 s.count) := fun y => (DMem.opened (m2.kept y.ok)).1.2.2.1
        clear m2
        go_wp2_with (fail)
        refine region_wide [0, 1, 2, 3, 4, 5, 7, 8, 6, 9, 10, 11, 12, 13, 15, 16, 17, 18, 14, 19, 20, 21] (Kept wr) (by kernel_rfl) (by kernel_rfl) KD.out (fun _ => ?_)
        repeat (refine pq rfl rfl ?_; go_big_quiet_step (fail); refine wpQuiet_nil ?_)
        refine pl rfl rfl ?_
        gi_wp2_with (fail)
        refine ⟨trivial, ?_⟩
        refine (callsIn_wide.2 (like_c w _ bm bx s (HP.out.on KD.out))).mono ?_
        rintro e V1 ⟨rfl, hk⟩
        have K1 := hide (KD.out.trans hk)
        have P1 := hide (HP.out.on K1.out)
        clear hk
        gi_wp2_with (fail)
        refine ⟨Wd.mem K1.out, ?_⟩
        repeat (refine pq rfl rfl ?_; go_big_quiet_step (fail); refine wpQuiet_nil ?_)
        refine pl rfl rfl ?_
        gi_wp2_with (fail)
        refine ⟨trivial, ?_⟩
        refine (callsIn_wide.2 (now_look w V1 bm s at' _ P1.out.now1 rfl)).mono ?_
        rintro e w' ⟨rfl, rfl⟩
        gi_wp2_with (fail)
        refine ⟨Wd.mem K1.out, ?_⟩
        refine pl rfl rfl ?_
        gi_wp2_with (fail)
        refine ⟨trivial, ?_⟩
        obtain ⟨v3, m3, -⟩ := P1.out.snd
        refine (callsIn_wide.2 (look_d V1 _ bx v3 s at' m3)).mono ?_
        rintro e w' ⟨rfl, rfl⟩
        clear m3
        gi_wp2_with (fail)
        refine ⟨Wd.mem K1.out, ?_⟩
        repeat (refine pq rfl rfl ?_; go_big_quiet_step (fail); refine wpQuiet_nil ?_)
        refine pl rfl rfl ?_
        gi_wp2_with (fail)
        refine ⟨trivial, ?_⟩
        refine (callsIn_wide.2 (now_count w V1 bm s _ P1.out.now1 rfl)).mono ?_
        rintro e w' ⟨rfl, rfl⟩
        gi_wp2_with (fail)
        refine ⟨Wd.mem K1.out, ?_⟩
        repeat (refine pq rfl rfl ?_; go_big_quiet_step (fail); refine wpQuiet_nil ?_)
        refine perm_done ?_
        go_wp2
        go_ret
        exact ⟨rfl, P1.out.kept⟩
      · have e1 : ¬ ((t : Int) < (n : Int)) := by omega
        clear hlt
        have KD := hide (Kept.drew wr)
        obtain ⟨v2, m2, -⟩ := HP.out.snd
        have y2 : ∀ y : Wd (Kept wr), y.w.cell? ⟨bx, 2, none⟩ = some (.int .i64 s.count) := fun y => (DMem.opened (m2.kept y.ok)).1.2.2.1
        clear m2
        go_wp2_with (fail)
        refine region_wide [0, 1, 2, 3, 4, 5, 7, 8, 6, 9, 10, 11, 12, 13, 15, 16, 17, 18, 14, 19, 20, 21] (Kept wr) (by kernel_rfl) (by kernel_rfl) KD.out (fun _ => ?_)
        repeat (refine pq rfl rfl ?_; go_big_quiet_step (fail); refine wpQuiet_nil ?_)
        refine pl rfl rfl ?_
        gi_wp2_with (fail)
        refine ⟨trivial, ?_⟩
        refine (callsIn_wide.2 (like_c w _ bm bx s (HP.out.on KD.out))).mono ?_
        rintro e V1 ⟨rfl, hk⟩
        have K1 := hide (KD.out.trans hk)
        have P1 := hide (HP.out.on K1.out)
        clear hk
        gi_wp2_with (fail)
        refine ⟨Wd.mem K1.out, ?_⟩
        repeat (refine pq rfl rfl ?_; go_big_quiet_step (fail); refine wpQuiet_nil ?_)
        refine pl rfl rfl ?_
        gi_wp2_with (fail)
        refine ⟨trivial, ?_⟩
        refine (callsIn_wide.2 (now_look w V1 bm s at' _ P1.out.now1 rfl)).mono ?_
        rintro e w' ⟨rfl, rfl⟩
        gi_wp2_with (fail)
        refine ⟨Wd.mem K1.out, ?_⟩
        refine pl rfl rfl ?_
        gi_wp2_with (fail)
        refine ⟨trivial, ?_⟩
        obtain ⟨v3, m3, -⟩ := P1.out.snd
        refine (callsIn_wide.2 (look_d V1 _ bx v3 s at' m3)).mono ?_
        rintro e w' ⟨rfl, rfl⟩
        clear m3
        gi_wp2_with (fail)
        refine ⟨Wd.mem K1.out, ?_⟩
        repeat (refine pq rfl rfl ?_; go_big_quiet_step (fail); refine wpQuiet_nil ?_)
        refine pl rfl rfl ?_
        gi_wp2_with (fail)
        refine ⟨trivial, ?_⟩
        refine (callsIn_wide.2 (now_count w V1 bm s _ P1.out.now1 rfl)).mono ?_
        rintro e w' ⟨rfl, rfl⟩
        gi_wp2_with (fail)
        refine ⟨Wd.mem K1.out, ?_⟩
        repeat (refine pq rfl rfl ?_; go_big_quiet_step (fail); refine wpQuiet_nil ?_)
        refine perm_done ?_
        go_wp2
        go_ret
        exact ⟨rfl, P1.out.kept⟩
end Go.Proofs.Ytfgflfjlepgfpaa
