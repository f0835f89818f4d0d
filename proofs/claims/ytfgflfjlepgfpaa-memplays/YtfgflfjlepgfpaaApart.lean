/-
  What MemApart answers: true; nothing that lay is turned.
-/
import Derived.Test.YtfgflfjlepgfpaaPair
namespace Go.Proofs.Ytfgflfjlepgfpaa
open Go.RowKit

/-- Cut, its answer a letter. -/
theorem cut_k (x n : Int) (h0 : 0 < n) (h1 : n ≤ 100000) : ∃ j : Nat, (j : Int) < n ∧ (j : Int) = x % n ∧ ∀ W : World, Calls Try.prog 17 #[.int .i64 x, .int .i64 n] W fun e w' => e = .returned (.int .i64 (j : Int)) ∧ W = w' := by
  have b1 := Int.emod_nonneg x (show n ≠ 0 by omega)
  have b2 := Int.emod_lt_of_pos x h0
  refine ⟨(x % n).toNat, by omega, Int.toNat_of_nonneg b1, fun W => (cut_g W x n h0 h1).mono fun _ _ h => ⟨?_, h.2⟩⟩
  rw [h.1, Int.toNat_of_nonneg b1]

theorem make_full (zs : List Int) (n : Int) (h0 : zs ≠ []) (h : (zs.length : Int) ≤ n) : (Mst.new n).make zs = ⟨zs, n, 1, 0, 0⟩ ∧ (Mst.new n).fits zs.length = true := by
  have : 0 < zs.length := List.length_pos_iff.2 h0
  constructor
  · simp [Mst.make, Mst.fits, Mst.new, wrap64, this, h]
  · simp [Mst.fits, Mst.new, this, h]

/-- A row of numbers, whatever they are. -/
def Some (w : World) (n₀ : Nat) (v : Value) (n : Nat) : Prop := ∃ ys : List Int, w.ownsRow n₀ 2 1 v n (cellsOf ys)
theorem Some.at {w : World} {n₀ n k : Nat} {v : Value} (h : Some w n₀ v n) (hk : k < n) : ∃ g cap z, v = .slice (some ⟨g, 0, none⟩) n cap ∧ w.cell? ⟨g, k, none⟩ = some (.int .i64 z) ∧ w.frozen? ⟨g, k, none⟩ = false ∧ n₀ ≤ g ∧ n ≤ cap ∧ cap ≤ maxLen ∧ ∀ x, Some (w.setCell ⟨g, k, none⟩ (.int .i64 x)) n₀ v n := by
  obtain ⟨ys, h⟩ := h
  rcases h.2 with ⟨_, h0⟩ | ⟨g, cap, cur, rfl, hg, _, hc, hm, _⟩
  · omega
  · have hl : ys.length = n := by have := h.1; simpa [cellsOf] using this
    refine ⟨g, cap, ys[k]'(by omega), rfl, ?_, h.frozenAt k, hg, hc, hm, fun x => ⟨ys.set k x, ?_⟩⟩
    · rw [h.cellAt k (by omega)]
      simp [cellsOf, hl, hk]
    · have : cellsOf (ys.set k x) = (cellsOf ys).set k (.int .i64 x) := by simp [cellsOf, List.map_set]
      rw [this]
      exact (h.stored k (.int .i64 x)).1

set_option maxRecDepth 100000 in
set_option maxHeartbeats 4000000 in
theorem memApart_c (w : World) (a0 : Option Addr) (zs : List Int) (cap : Nat) (a x : Int) (hr : Reads w a0 zs) (hc : zs.length ≤ cap) (hm : cap ≤ maxLen) :
    Calls Try.prog 8 #[.slice a0 zs.length cap, .int .i64 a, .int .i64 x] w fun e w' => e = .returned (.bool true) ∧ Kept w w' := by
  have hlm : (zs.length : Int) ≤ 9223372036854775807 := by unfold maxLen at hm; omega
  by_cases hlen : 200 < zs.length
  · have i1 : (200 : Int) < (zs.length : Int) := by omega
    have n0 : ((zs.length : Int) == 0) = false := by simp only [beq_eq_false_iff_ne, ne_eq]; omega
    go_enter Try.func8, Try.ntmps8
    go_wp2_with (fail)
    refine (known_c w).mono ?_
    rintro e W1 ⟨rfl, hk⟩
    have HK := hide hk
    clear hk
    go_wp2
    go_ret
    exact ⟨rfl, HK.out⟩
  by_cases h0 : zs = []
  · have n0 : ((zs.length : Int) == 0) = true := by simp [h0]
    go_enter Try.func8, Try.ntmps8
    go_wp2_with (fail)
    refine (known_c w).mono ?_
    rintro e W1 ⟨rfl, hk⟩
    have HK := hide hk
    clear hk
    go_wp2
    go_ret
    exact ⟨rfl, HK.out⟩
  have hp : 0 < zs.length := List.length_pos_iff.2 h0
  have i1 : (zs.length : Int) ≤ 200 := by omega
  have n0 : ((zs.length : Int) == 0) = false := by simp only [beq_eq_false_iff_ne, ne_eq]; omega
  obtain ⟨hmk, hft⟩ := make_full zs 300 h0 (by omega)
  obtain ⟨j, hj, -, HJ⟩ := cut_k a zs.length (by omega) (by omega)
  have hj' : j < zs.length := by omega
  obtain ⟨z, hz⟩ : ∃ z, zs[j]? = some z := ⟨_, List.getElem?_eq_getElem hj'⟩
  obtain ⟨bl, off, rfl, hbl, hcell⟩ := hr.at hz
  have hjc : j < cap := by omega
  have HR := hide hr
  have HMK := hide hmk
  have HFT := hide hft
  have HC := hide hc
  have HM := hide hm
  have HZ := hide hz
  have HCELL := hide hcell
  clear hr hmk hlen hc hm hft hz hcell h0
  go_enter Try.func8, Try.ntmps8
  go_wp2_with (fail)
  refine (now_new w w 300 (Kept.refl w) (by decide) (by decide)).mono ?_
  rintro e W1 ⟨rfl, h1, -⟩
  have H1 := hide h1
  clear h1
  go_wp2_with (fail)
  refine (now_put w W1 w.heap.size _ _ zs cap _ _ ⟨zs, 300, 1, 0, 0⟩ H1.out HR.out (by have := HC.out; have := HM.out; omega) rfl rfl HMK.out).mono ?_
  rintro e W2 ⟨rfl, h2⟩
  have H2 := hide h2
  clear h2 H1
  go_wp2_with (fail)
  refine (now_clone w W2 w.heap.size _ H2.out).mono ?_
  rintro e W3 ⟨c, rfl, h3⟩
  have P3 := hide (Pair.of H2.out.1 H2.out.2 h3.1 h3.2)
  clear h3 H2
  go_wp2_with (fail)
  refine (now_count w W3 c _ 1 P3.out.now2 rfl).mono ?_
  rintro e w' ⟨rfl, rfl⟩
  go_wp2_with (fail)
  refine (now_size w W3 c _ 300 P3.out.now2 rfl).mono ?_
  rintro e w' ⟨rfl, rfl⟩
  go_wp2_with (fail)
  refine (now_cells w W3 w.heap.size _ P3.out.now1).mono ?_
  rintro e W4 ⟨a4, cap4, rfl, -, hc4, hm4, -, hrow, hk⟩
  have HS : Hid (Some W4 W3.heap.size (.slice a4 zs.length cap4) zs.length) := hide ⟨zs, hrow⟩
  have HK := hide hk
  clear hk hrow hm4 hc4
  go_wp2
  go_loopw [11] (fun i wr => ∃ t : Nat, t ≤ zs.length ∧ i = .int .i64 (t : Int) ∧ Hid (Some wr W3.heap.size (.slice a4 zs.length cap4) zs.length) ∧ Hid (Kept W3 wr)) (fun i _ => zs.length - (intOf i).toNat)
  case atStart => exact ⟨0, Nat.zero_le _, rfl, HS, HK⟩
  case round =>
    obtain ⟨t, ht, rfl, hs, hk⟩ := hrel
    clear HS HK
    by_cases hlt : t < zs.length
    · obtain ⟨g, cap5, y, he, hcl, hfr, hg, hn5, hm5, hst⟩ := hs.out.at hlt
      cases he
      have i2 : (t : Int) < (zs.length : Int) := by omega
      have i3 : t < cap4 := by omega
      have HST := hide hst
      clear hst hs hm5
      go_wp2
      exact ⟨⟨t + 1, by omega, by simp, hide (HST.out _), hide (hk.out.did hg (Turned.setCell (R := fun i => i = g) wr ⟨g, t, none⟩ _ rfl))⟩, by simp [intOf]; omega⟩
    · have i2 : ¬ ((t : Int) < (zs.length : Int)) := by omega
      have P5 := hide (P3.out.on hk.out)
      rename World => W5
      clear P3 hs hk
      go_wp2_with (fail)
      refine (HJ _).mono ?_
      rintro e w' ⟨rfl, rfl⟩
      go_wp2_with (fail)
      obtain ⟨v1, m1, st1⟩ := P5.out.fst
      refine (write_p _ _ _ v1 _ (1 + (j : Int)) x m1).mono ?_
      rintro e W6 ⟨rfl, h6, t6⟩
      have P6 := hide (st1 W6 _ (Does.same h6 t6))
      clear h6 t6 st1 m1 P5
      go_wp2_with (fail)
      have P7 := P6.out.on (Turned.alloc (fun _ => False) W6 (.cells #[.int .i64 4, .int .i64 5] 2))
      obtain ⟨v2, m2, st2⟩ := P7.snd
      refine (make_p _ _ _ v2 _ _ [4, 5] 2 m2 P7.kept.size (Reads.new W6 2 [4, 5]) (by decide) (fun _ ad e => by cases e; exact Nat.ne_of_gt P6.out.now2.lt.2)).mono ?_
      rintro e W8 ⟨rfl, h8⟩
      have P8 := hide (st2 W8 _ h8)
      clear h8 st2 m2 P7 P6
      have hs1 : (Mst.mk zs 300 1 0 0).write (1 + (j : Int)) x = ⟨zs.set j x, 300, 2, 0, 0⟩ := by rw [Int.add_comm, Mst.write_in hj']; simp [wrap64]
      have hs2 : (Mst.mk zs 300 1 0 0).make [4, 5] = ⟨zs ++ [4, 5], 300, 2, 0, 0⟩ := by
        have : (zs.length : Int) + 2 ≤ 300 := by omega
        simp [Mst.make, Mst.fits, wrap64, this]
      rw [hs1, hs2] at P8
      clear hs1 hs2
      have L1 : (Mst.mk zs 300 1 0 0).xs = zs := rfl
      have l1 : (Mst.mk (zs ++ [4, 5]) 300 2 0 0).look (1 + (j : Int)) = z := by
        rw [Int.add_comm]
        exact Mst.look_succ (by show (zs ++ [4, 5])[j]? = some z; rw [List.getElem?_append_left hj']; exact HZ.out)
      have l2 : (Mst.mk (zs.set j x) 300 2 0 0).look (1 + (j : Int)) = x := by
        rw [Int.add_comm]
        exact Mst.look_succ (by show (zs.set j x)[j]? = some x; simp [hj'])
      have LL := hide (And.intro l1 l2)
      clear l1 l2 L1
      have cz : ∀ y : Wd (Kept W8), y.w.cell? ⟨bl, off + j, none⟩ = some (.int .i64 z) := fun y => (P8.out.kept.trans y.ok).cell HCELL.out id
      have KD := hide (Kept.drew W8)
      go_wp2_with (fail)
      refine region_wide [0, 1, 2, 3, 5, 6, 7, 8, 9, 4, 10, 11, 12, 13, 14, 16, 15, 17, 18, 19, 20, 22, 23, 21, 24, 25, 26, 27, 29, 30, 31, 28, 32, 33, 34] (Kept W8) (by kernel_rfl) (by kernel_rfl) KD.out (fun _ => ?_)
      refine pl rfl rfl ?_
      gi_wp2_with (fail)
      refine ⟨trivial, ?_⟩
      refine (callsIn_wide.2 (known_c _)).mono ?_
      rintro e W9 ⟨rfl, hk⟩
      have K9 := hide (KD.out.trans hk)
      have P9 := hide (P8.out.on K9.out)
      clear hk
      gi_wp2_with (fail)
      refine ⟨Wd.mem K9.out, ?_⟩
      repeat (refine pq rfl rfl ?_; go_big_quiet_step (fail); refine wpQuiet_nil ?_)
      refine pl rfl rfl ?_
      gi_wp2_with (fail)
      refine ⟨trivial, ?_⟩
      refine (callsIn_wide.2 (now_look w W9 c _ _ z P9.out.now2 LL.out.1)).mono ?_
      rintro e w' ⟨rfl, rfl⟩
      gi_wp2_with (fail)
      refine ⟨Wd.mem K9.out, ?_⟩
      repeat (refine pq rfl rfl ?_; go_big_quiet_step (fail); refine wpQuiet_nil ?_)
      refine pl rfl rfl ?_
      gi_wp2_with (fail)
      refine ⟨trivial, ?_⟩
      refine (callsIn_wide.2 (now_look w W9 w.heap.size _ _ x P9.out.now1 LL.out.2)).mono ?_
      rintro e w' ⟨rfl, rfl⟩
      gi_wp2_with (fail)
      refine ⟨Wd.mem K9.out, ?_⟩
      repeat (refine pq rfl rfl ?_; go_big_quiet_step (fail); refine wpQuiet_nil ?_)
      refine pl rfl rfl ?_
      gi_wp2_with (fail)
      refine ⟨trivial, ?_⟩
      refine (callsIn_wide.2 (now_used w W9 w.heap.size _ (zs.length : Int) P9.out.now1 (by simp))).mono ?_
      rintro e w' ⟨rfl, rfl⟩
      gi_wp2_with (fail)
      refine ⟨Wd.mem K9.out, ?_⟩
      repeat (refine pq rfl rfl ?_; go_big_quiet_step (fail); refine wpQuiet_nil ?_)
      refine pl rfl rfl ?_
      gi_wp2_with (fail)
      refine ⟨trivial, ?_⟩
      refine (callsIn_wide.2 (now_used w W9 c _ ((zs.length : Int) + 2) P9.out.now2 (by simp))).mono ?_
      rintro e w' ⟨rfl, rfl⟩
      gi_wp2_with (fail)
      refine ⟨Wd.mem K9.out, ?_⟩
      repeat (refine pq rfl rfl ?_; go_big_quiet_step (fail); refine wpQuiet_nil ?_)
      refine perm_done ?_
      go_wp2
      go_ret
      exact ⟨rfl, P9.out.kept⟩
end Go.Proofs.Ytfgflfjlepgfpaa
