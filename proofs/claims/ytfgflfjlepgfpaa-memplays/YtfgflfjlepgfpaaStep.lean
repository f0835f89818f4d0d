/-
  What 'place' and 'step' of the statements of chapter 7 answer, where both memories are of one state: 'step' true, and both are of one state again.
-/
import Derived.Test.YtfgflfjlepgfpaaBeside
namespace Go.Proofs.Ytfgflfjlepgfpaa
open Go.RowKit

abbrev opV (kind A : Int) (near : Bool) (X Y : Int) (aw : Option Addr) (ws : List Int) (cw : Nat) : List Value := [.int .i64 kind, .int .i64 A, .bool near, .int .i64 X, .int .i64 Y, .slice aw ws.length cw]

theorem place_c (kind A : Int) (near : Bool) (X Y : Int) (aw : Option Addr) (ws : List Int) (cw : Nat) (u : Nat) (hu : u ≤ 65536) : ∃ a : Int, ∀ W : World,
    Calls Try.prog 33 #[.agg #[.int .i64 kind, .int .i64 A, .bool near, .int .i64 X, .int .i64 Y, .slice aw ws.length cw], .int .i64 (u : Int)] W fun e W' => e = .returned (.int .i64 a) ∧ Kept W W' := by
  cases near with
  | true =>
    obtain ⟨j, hj, -, HJ⟩ := cut_k A ((u : Int) + 3) (by omega) (by omega)
    refine ⟨(j : Int) - 1, fun W => ?_⟩
    go_enter Try.func33, Try.ntmps33
    go_wp2_with (fail)
    refine (HJ _).mono ?_
    rintro e w' ⟨rfl, rfl⟩
    go_wp2
    go_ret
    exact ⟨rfl, Turned.alloc _ _ _⟩
  | false =>
    refine ⟨A, fun W => ?_⟩
    go_enter Try.func33, Try.ntmps33
    go_wp2
    go_ret
    exact ⟨rfl, Turned.alloc _ _ _⟩

set_option maxRecDepth 100000 in
set_option maxHeartbeats 4000000 in
theorem step_c (w W : World) (bm bx : Nat) (s : Mst) (kind A : Int) (near : Bool) (X Y : Int) (aw : Option Addr) (ws : List Int) (cw : Nat) (hp : PD w W bm s bx s) (hr : Reads w aw ws) (h0 : aw = none → cw = 0) (hl : ws.length ≤ 100) :
    Calls Try.prog 21 #[.pointer (some ⟨bm, 0, none⟩), .pointer (some ⟨bx, 0, none⟩), .agg #[.int .i64 kind, .int .i64 A, .bool near, .int .i64 X, .int .i64 Y, .slice aw ws.length cw]] W fun e W' => e = .returned (.bool true) ∧ ∃ s', PD w W' bm s' bx s' := by
  obtain ⟨V, hV⟩ : ∃ V, W.alloc (.cells #[.int .i64 kind, .int .i64 A, .bool near, .int .i64 X, .int .i64 Y, .slice aw ws.length cw] 39) = V := ⟨_, rfl⟩
  have k0 : Kept W V := by rw [← hV]; exact Turned.alloc _ _ _
  have hbox : V.heap[W.heap.size]? = some (.cells #[.int .i64 kind, .int .i64 A, .bool near, .int .i64 X, .int .i64 Y, .slice aw ws.length cw] 39) := by rw [← hV]; exact heap_new W _
  have zV : W.heap.size < V.heap.size := by rw [← hV]; simp
  have hpx : PDX (fun k => k = W.heap.size) w V bm s bx s := PairX.new hp k0 (fun k e => by subst e; exact ⟨Nat.le_refl _, zV⟩)
  have hxl : s.xs.length ≤ 65536 := by
    obtain ⟨v1, v2, h1, _⟩ := hp
    exact h1.len
  obtain ⟨a, HA⟩ := place_c kind A near X Y aw ws cw s.xs.length hxl
  obtain ⟨q, hq, -, HQ⟩ := cut_k kind 6 (by omega) (by omega)
  obtain ⟨v2, m2, -⟩ := hpx.snd
  obtain ⟨ax, cx, rfl, _⟩ := m2.form
  have box : ∀ U : World, U.heap[W.heap.size]? = V.heap[W.heap.size]? → U.cell? ⟨W.heap.size, 0, none⟩ = some (.int .i64 kind) ∧ U.cell? ⟨W.heap.size, 1, none⟩ = some (.int .i64 A) ∧ U.cell? ⟨W.heap.size, 2, none⟩ = some (.bool near) ∧ U.cell? ⟨W.heap.size, 3, none⟩ = some (.int .i64 X) ∧ U.cell? ⟨W.heap.size, 4, none⟩ = some (.int .i64 Y) ∧ U.cell? ⟨W.heap.size, 5, none⟩ = some (.slice aw ws.length cw) := fun U e => by
    rw [hbox] at e
    simp [World.cell?, e]
  have b0 : ∀ y : Wd (Kept V), y.w.cell? ⟨W.heap.size, 0, none⟩ = some (.int .i64 kind) := fun y => (box y.w (y.ok.block _ zV id)).1
  have b1 : ∀ y : Wd (Kept V), y.w.cell? ⟨W.heap.size, 1, none⟩ = some (.int .i64 A) := fun y => (box y.w (y.ok.block _ zV id)).2.1
  have b2 : ∀ y : Wd (Kept V), y.w.cell? ⟨W.heap.size, 2, none⟩ = some (.bool near) := fun y => (box y.w (y.ok.block _ zV id)).2.2.1
  have b3 : ∀ y : Wd (Kept V), y.w.cell? ⟨W.heap.size, 3, none⟩ = some (.int .i64 X) := fun y => (box y.w (y.ok.block _ zV id)).2.2.2.1
  have b4 : ∀ y : Wd (Kept V), y.w.cell? ⟨W.heap.size, 4, none⟩ = some (.int .i64 Y) := fun y => (box y.w (y.ok.block _ zV id)).2.2.2.2.1
  have b5 : ∀ y : Wd (Kept V), y.w.cell? ⟨W.heap.size, 5, none⟩ = some (.slice aw ws.length cw) := fun y => (box y.w (y.ok.block _ zV id)).2.2.2.2.2
  have bC : ∀ y : Wd (Kept V), y.w.cell? ⟨bx, 1, none⟩ = some (.slice ax s.xs.length cx) := fun y => (DMem.opened (m2.kept y.ok)).1.1
  have KD := hide (Kept.drew V)
  have HV := hide hV
  have HBOX := hide box
  have HPX := hide hpx
  have HR := hide hr
  have H0 := hide h0
  have e6 : q = 0 ∨ q = 1 ∨ q = 2 ∨ q = 3 ∨ q = 4 ∨ q = 5 := by omega
  clear hV hbox zV hpx hp m2 hr h0 k0 box hq
  go_enter Try.func21, Try.ntmps21
  go_wp2_with (fail)
  rw [HV.out]
  refine region_wide [0, 1, 2, 3, 4, 5, 6, 7] (Kept V) (by kernel_rfl) (by kernel_rfl) KD.out (fun _ => ?_)
  repeat (refine pq rfl rfl ?_; go_big_quiet_step (fail); refine wpQuiet_nil ?_)
  refine pl rfl rfl ?_
  gi_wp2_with (fail)
  refine ⟨trivial, ?_⟩
  refine (callsIn_wide.2 (HA _)).mono ?_
  rintro e V1 ⟨rfl, hk⟩
  have K1 := hide (KD.out.trans hk)
  have P1 := hide (HPX.out.on K1.out)
  have E1 := hide (K1.out.block _ (HPX.out.lt rfl).1 id)
  clear hk HPX KD bC b0 b1 b2 b3 b4 b5
  gi_wp2_with (fail)
  refine ⟨Wd.mem K1.out, ?_⟩
  repeat (refine pq rfl rfl ?_; go_big_quiet_step (fail); refine wpQuiet_nil ?_)
  refine perm_done ?_
  obtain ⟨c0, c1, c2, c3, c4, c5⟩ := HBOX.out V1 E1.out
  go_wp2_with (fail)
  refine (HQ _).mono ?_
  rintro e w' ⟨rfl, rfl⟩
  rcases e6 with rfl | rfl | rfl | rfl | rfl | rfl
  · have r0 : (V1.alloc (.cells #[] 2)).ownsRow V1.heap.size 2 1 (.slice (some ⟨V1.heap.size, 0, none⟩) 0 0) 0 [] := ⟨rfl, .inr ⟨V1.heap.size, 0, #[], rfl, Nat.le_refl _, heap_new V1 _, Nat.le_refl _, Nat.zero_le _, rfl, rfl⟩⟩
    have KA : Hid (Kept V1 (V1.alloc (.cells #[] 2))) := hide (Turned.alloc _ _ _)
    have RA := hide ((HR.out.kept P1.out.pair.kept).kept KA.out)
    have c6 := KA.out.cell c5 id
    go_wp2_with (at_builtin; refine Stop.out ?_)
    refine ⟨?_⟩
    refine wpList_append_reads rfl _ _ rfl V1.heap.size _ 0 [] rfl r0 aw ws cw rfl RA.out H0.out (by omega) (by simp) ?_
    intro v8 V2 hown hg hat
    have hg' : (V1.alloc (.cells #[] 2)).grownBy V2 (some V1.heap.size) := hg
    have K2 := hide (KA.out.did (Nat.le_refl _) (Turned.of_grownBy (R := fun i => i = V1.heap.size) hg' (fun k hk => (Option.some.inj hk).symm)))
    have hrow : Row V2 V1.heap.size 2 v8 ws := by simpa using hown
    have P2 := hide (P1.out.more (Y := fun k => v8.ownBlock = some k) K2.out (fun k hk => hrow.lt k hk))
    have HS : Hid (Some V2 V1.heap.size v8 ws.length) := hide ⟨ws, hrow⟩
    obtain ⟨a8, cap8, rfl, hr8, -, -, -⟩ := hrow.reads
    have HR8 := hide hr8
    have E2 := hide ((K2.out.block _ (P1.out.lt rfl).1 id).trans E1.out)
    have Z1 := hide P1.out.pair.kept.size
    clear hown hg hg' hat hr8 hrow r0 c0 c1 c2 c3 c4 c5 c6 KA RA P1 K2 E1 K1
    go_wp2_with (fail)
    obtain ⟨v1, m1, st1⟩ := P2.out.fst
    refine (make_p _ _ _ v1 _ a8 ws cap8 m1 P2.out.pair.kept.size HR8.out (by unfold maxLen; omega) (fun _ ad e => (P2.out.lt (.inr (by rw [e]; rfl))).2.1)).mono ?_
    rintro e V3 ⟨rfl, h3⟩
    have hst := st1 V3 _ h3
    have P3 := hide hst.1
    have S3 := hide (HS.out.of_block (fun k hk => hst.2 k (.inr hk)))
    have E3 := hide ((hst.2 _ (.inl rfl)).trans E2.out)
    obtain ⟨-, -, -, -, -, d5⟩ := HBOX.out V3 E3.out
    clear h3 st1 m1 P2 hst HS HR8 E2
    go_wp2_with (fail)
    obtain ⟨v2, m2, st2⟩ := P3.out.snd
    refine (make_d _ _ _ v2 _ aw ws cw m2 P3.out.pair.kept.size (HR.out.kept P3.out.pair.kept) (by unfold maxLen; omega) (fun hn ad e => Nat.ne_of_lt (Nat.lt_of_lt_of_le (HR.out.lt hn ad e) (m2.lt bx (.inl rfl)).1))).mono ?_
    rintro e V4 ⟨rfl, h4⟩
    have hst := st2 V4 _ h4
    have P4 := hide hst.1
    have S4 := hide (S3.out.of_block (fun k hk => hst.2 k (.inr hk)))
    clear h4 st2 m2 P3 hst S3 d5 E3
    obtain ⟨nx, hnx⟩ : ∃ nx, s.next ws = nx := ⟨_, rfl⟩
    obtain ⟨ft, hft⟩ : ∃ ft, s.fits ws.length = ft := ⟨_, rfl⟩
    rw [hnx, hft]
    clear hnx hft
    go_wp2
    go_loopw [13] (fun i wr => ∃ t : Nat, t ≤ ws.length ∧ i = .int .i64 (t : Int) ∧ Hid (Some wr V1.heap.size (.slice a8 ws.length cap8) ws.length) ∧ Hid (PDX (fun k => k = W.heap.size ∨ (Value.slice a8 ws.length cap8).ownBlock = some k) w wr bm (s.make ws) bx (s.make ws))) (fun i _ => ws.length - (intOf i).toNat)
    case atStart => exact ⟨0, Nat.zero_le _, rfl, S4, P4⟩
    case round =>
      obtain ⟨t, ht, rfl, hs, hk⟩ := hrel
      clear S4 P4
      by_cases hlt : t < ws.length
      · obtain ⟨g, cap5, y, he, hcl, hfr, hg, hn5, hm5, hst⟩ := hs.out.at hlt
        cases he
        have i2 : (t : Int) < (ws.length : Int) := by omega
        have i3 : t < cap8 := by omega
        have HST := hide hst
        have hge : w.heap.size ≤ g := Nat.le_trans Z1.out hg
        clear hst hs hm5
        go_wp2
        exact ⟨⟨t + 1, by omega, by simp, hide (HST.out _), hide (hk.out.set (.inr rfl) hge _ _)⟩, by simp [intOf]; omega⟩
      · have i2 : ¬ ((t : Int) < (ws.length : Int)) := by omega
        clear hs
        go_wp2
        go_ret
        exact ⟨rfl, _, hk.out.pair⟩
  · go_wp2_with (fail)
    obtain ⟨v1, m1, st1⟩ := P1.out.fst
    refine (read_p _ _ _ v1 _ a m1).mono ?_
    rintro e V2 ⟨rfl, h2, t2⟩
    have P2 := hide (st1 V2 _ (Does.same h2 (t2.mono (fun _ _ e => .inl e)))).1
    clear h2 t2 st1 m1 P1
    go_wp2_with (fail)
    obtain ⟨v2, m2, st2⟩ := P2.out.snd
    refine (read_d _ _ _ v2 _ a m2).mono ?_
    rintro e V3 ⟨rfl, h3, t3⟩
    have P3 := hide (st2 V3 _ (Does.same h3 (t3.mono (fun _ _ e => .inl e)))).1.pair
    clear h3 t3 st2 m2 P2
    go_wp2
    go_ret
    exact ⟨rfl, _, P3.out⟩
  · go_wp2_with (fail)
    obtain ⟨v1, m1, st1⟩ := P1.out.fst
    refine (write_p _ _ _ v1 _ a X m1).mono ?_
    rintro e V2 ⟨rfl, h2, t2⟩
    have hst := st1 V2 _ (Does.same h2 t2)
    have P2 := hide hst.1
    obtain ⟨-, -, -, d3, -, -⟩ := HBOX.out V2 ((hst.2 _ rfl).trans E1.out)
    clear h2 t2 st1 m1 P1 hst
    go_wp2_with (fail)
    obtain ⟨v2, m2, st2⟩ := P2.out.snd
    refine (write_d _ _ _ v2 _ a X m2).mono ?_
    rintro e V3 ⟨rfl, h3, t3⟩
    have P3 := hide (st2 V3 _ (Does.same h3 t3)).1.pair
    clear h3 t3 st2 m2 P2
    go_wp2
    go_ret
    exact ⟨rfl, _, P3.out⟩
  · cases ho : (X.tmod 2 == 0) with
    | true =>
      have ho' : (X.tmod 2 == 0) = true := ho
      go_wp2_with (fail)
      obtain ⟨v2, m2, -⟩ := P1.out.snd
      refine (look_d _ _ _ v2 _ a m2).mono ?_
      rintro e w' ⟨rfl, rfl⟩
      clear m2
      go_wp2_with (fail)
      have SD : Hid (V1.drew.heap[W.heap.size]? = V.heap[W.heap.size]?) := hide E1.out
      have PD1 := hide (P1.out.on (Kept.drew V1))
      have x3 : ∀ y : Wd (fun U => U.heap[W.heap.size]? = V.heap[W.heap.size]?), y.w.cell? ⟨W.heap.size, 3, none⟩ = some (.int .i64 X) := fun y => (HBOX.out y.w y.ok).2.2.2.1
      refine region_wide [0, 1, 2, 3, 4, 6, 7, 8, 9, 10, 5, 11, 12, 13] (fun U => U.heap[W.heap.size]? = V.heap[W.heap.size]?) (by kernel_rfl) (by kernel_rfl) SD.out (fun _ => ?_)
      repeat (refine pq rfl rfl ?_; go_big_quiet_step (fail); refine wpQuiet_nil ?_)
      refine pl rfl rfl ?_
      gi_wp2_with (fail)
      refine ⟨trivial, ?_⟩
      obtain ⟨v1, m1, st1⟩ := PD1.out.fst
      refine (callsIn_wide.2 (cas_p _ _ _ v1 _ a (s.look a) X m1)).mono ?_
      rintro e V2 ⟨rfl, h2, t2⟩
      have hst := st1 V2 _ (Does.same h2 t2)
      have P2 := hide hst.1
      have S2 := hide ((hst.2 _ rfl).trans SD.out)
      clear h2 t2 st1 m1 P1 PD1 hst
      gi_wp2_with (fail)
      refine ⟨Wd.mem S2.out, ?_⟩
      refine pl rfl rfl ?_
      gi_wp2_with (fail)
      refine ⟨trivial, ?_⟩
      obtain ⟨v2, m2, st2⟩ := P2.out.snd
      refine (callsIn_wide.2 (cas_d _ _ _ v2 _ a (s.look a) X m2)).mono ?_
      rintro e V3 ⟨rfl, h3, t3⟩
      have hst := st2 V3 _ (Does.same h3 t3)
      have P3 := hide hst.1.pair
      have S3 := hide ((hst.2 _ rfl).trans S2.out)
      clear h3 t3 st2 m2 P2 hst
      gi_wp2_with (fail)
      refine ⟨Wd.mem S3.out, ?_⟩
      repeat (refine pq rfl rfl ?_; go_big_quiet_step (fail); refine wpQuiet_nil ?_)
      refine perm_done ?_
      go_wp2
      go_ret
      exact ⟨rfl, _, P3.out⟩
    | false =>
      have ho' : (X.tmod 2 == 0) = false := ho
      go_wp2_with (fail)
      have SD : Hid (V1.drew.heap[W.heap.size]? = V.heap[W.heap.size]?) := hide E1.out
      have PD1 := hide (P1.out.on (Kept.drew V1))
      have x3 : ∀ y : Wd (fun U => U.heap[W.heap.size]? = V.heap[W.heap.size]?), y.w.cell? ⟨W.heap.size, 3, none⟩ = some (.int .i64 X) := fun y => (HBOX.out y.w y.ok).2.2.2.1
      refine region_wide [0, 1, 2, 3, 4, 6, 7, 8, 9, 10, 5, 11, 12, 13] (fun U => U.heap[W.heap.size]? = V.heap[W.heap.size]?) (by kernel_rfl) (by kernel_rfl) SD.out (fun _ => ?_)
      repeat (refine pq rfl rfl ?_; go_big_quiet_step (fail); refine wpQuiet_nil ?_)
      refine pl rfl rfl ?_
      gi_wp2_with (fail)
      refine ⟨trivial, ?_⟩
      obtain ⟨v1, m1, st1⟩ := PD1.out.fst
      refine (callsIn_wide.2 (cas_p _ _ _ v1 _ a (Y) X m1)).mono ?_
      rintro e V2 ⟨rfl, h2, t2⟩
      have hst := st1 V2 _ (Does.same h2 t2)
      have P2 := hide hst.1
      have S2 := hide ((hst.2 _ rfl).trans SD.out)
      clear h2 t2 st1 m1 P1 PD1 hst
      gi_wp2_with (fail)
      refine ⟨Wd.mem S2.out, ?_⟩
      refine pl rfl rfl ?_
      gi_wp2_with (fail)
      refine ⟨trivial, ?_⟩
      obtain ⟨v2, m2, st2⟩ := P2.out.snd
      refine (callsIn_wide.2 (cas_d _ _ _ v2 _ a (Y) X m2)).mono ?_
      rintro e V3 ⟨rfl, h3, t3⟩
      have hst := st2 V3 _ (Does.same h3 t3)
      have P3 := hide hst.1.pair
      have S3 := hide ((hst.2 _ rfl).trans S2.out)
      clear h3 t3 st2 m2 P2 hst
      gi_wp2_with (fail)
      refine ⟨Wd.mem S3.out, ?_⟩
      repeat (refine pq rfl rfl ?_; go_big_quiet_step (fail); refine wpQuiet_nil ?_)
      refine perm_done ?_
      go_wp2
      go_ret
      exact ⟨rfl, _, P3.out⟩
  · skip
    go_wp2_with (fail)
    have SD : Hid (V1.drew.heap[W.heap.size]? = V.heap[W.heap.size]?) := hide E1.out
    have PD1 := hide (P1.out.on (Kept.drew V1))
    have x3 : ∀ y : Wd (fun U => U.heap[W.heap.size]? = V.heap[W.heap.size]?), y.w.cell? ⟨W.heap.size, 3, none⟩ = some (.int .i64 X) := fun y => (HBOX.out y.w y.ok).2.2.2.1
    refine region_wide [0, 1, 2, 3, 5, 6, 7, 8, 4, 9, 10, 11] (fun U => U.heap[W.heap.size]? = V.heap[W.heap.size]?) (by kernel_rfl) (by kernel_rfl) SD.out (fun _ => ?_)
    repeat (refine pq rfl rfl ?_; go_big_quiet_step (fail); refine wpQuiet_nil ?_)
    refine pl rfl rfl ?_
    gi_wp2_with (fail)
    refine ⟨trivial, ?_⟩
    obtain ⟨v1, m1, st1⟩ := PD1.out.fst
    refine (callsIn_wide.2 (add_p _ _ _ v1 _ a X m1)).mono ?_
    rintro e V2 ⟨rfl, h2, t2⟩
    have hst := st1 V2 _ (Does.same h2 t2)
    have P2 := hide hst.1
    have S2 := hide ((hst.2 _ rfl).trans SD.out)
    clear h2 t2 st1 m1 P1 PD1 hst
    gi_wp2_with (fail)
    refine ⟨Wd.mem S2.out, ?_⟩
    refine pl rfl rfl ?_
    gi_wp2_with (fail)
    refine ⟨trivial, ?_⟩
    obtain ⟨v2, m2, st2⟩ := P2.out.snd
    refine (callsIn_wide.2 (add_d _ _ _ v2 _ a X m2)).mono ?_
    rintro e V3 ⟨rfl, h3, t3⟩
    have hst := st2 V3 _ (Does.same h3 t3)
    have P3 := hide hst.1.pair
    have S3 := hide ((hst.2 _ rfl).trans S2.out)
    clear h3 t3 st2 m2 P2 hst
    gi_wp2_with (fail)
    refine ⟨Wd.mem S3.out, ?_⟩
    repeat (refine pq rfl rfl ?_; go_big_quiet_step (fail); refine wpQuiet_nil ?_)
    refine perm_done ?_
    go_wp2
    go_ret
    exact ⟨rfl, _, P3.out⟩
  · go_wp2
    go_ret
    exact ⟨rfl, s, P1.out.pair⟩
end Go.Proofs.Ytfgflfjlepgfpaa
