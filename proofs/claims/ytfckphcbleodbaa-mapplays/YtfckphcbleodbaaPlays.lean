/-
  What 'MapPlays' of the statements of chapter 4 answers, for any slices of keys and numbers and any key: true; nothing that lay is turned.
-/
import Derived.Test.YtfckphcbleodbaaRefD
import Derived.Test.YtfckphcbleodbaaFill
import Derived.Test.YtfckphcbleodbaaHand
import Derived.Test.YtfckphcbleodbaaNearLaw
namespace Go.Proofs.Ytfckphcbleodbaa
open Go.RowKit Go.Shelf

/-- A row that is from a later block on is from an earlier one on. -/
theorem row_base {w : World} {n m : Nat} {v : Value} {xs : List (Int × Int)} (h : w.ownsRow n 45 2 v xs.length (flat xs)) (hm : m ≤ n) : w.ownsRow m 45 2 v xs.length (flat xs) := by
  obtain ⟨h1, h2⟩ := h
  refine ⟨h1, ?_⟩
  rcases h2 with h2 | ⟨g, cap, cur, rfl, hg, r⟩
  · exact .inl h2
  · exact .inr ⟨g, cap, cur, rfl, by omega, r⟩
/-- A row of pairs lies as it lay behind a change of a map. -/
theorem row_did {w w' : World} {b n : Nat} {v : Value} {xs ys : List (Int × Int)} (hM : Mp_i w b xs) (h : w.ownsRow n 45 2 v ys.length (flat ys)) (ht : Turned (fun i => i = b) w w') : w'.ownsRow n 45 2 v ys.length (flat ys) := by
  refine Pst.row_turned h ht ?_
  rintro g hg rfl
  obtain ⟨t, p, hb, _⟩ := hM
  rcases h.2 with ⟨rfl, _⟩ | ⟨g', cap, cur, rfl, _, hgb, _⟩
  · simp [Value.ownBlock] at hg
  · obtain rfl : g' = g := by simpa [Value.ownBlock] using hg
    rw [show w.heap[g']? = _ from hb] at hgb
    cases hgb
/-- A pair in a block of its own. -/
def PairAt (w : World) (b : Nat) (x y : Int) : Prop := w.heap[b]? = some (.cells #[.int .i64 x, .int .i64 y] 45)
theorem PairAt.kept {w w' : World} {b : Nat} {x y : Int} (h : PairAt w b x y) (ht : Kept w w') : PairAt w' b x y := ht.heap h id
theorem PairAt.cells {w : World} {b : Nat} {x y : Int} (h : PairAt w b x y) : w.cell? ⟨b, 0, none⟩ = some (.int .i64 x) ∧ w.cell? ⟨b, 1, none⟩ = some (.int .i64 y) := by
  unfold PairAt at h
  simp [World.cell?, h]

set_option maxRecDepth 100000 in
set_option maxHeartbeats 4000000 in
theorem mapPlays_c (w : World) (a : Option Addr) (zs : List Int) (cap : Nat) (hr : Reads w a zs) (hc : zs.length ≤ cap) (a2 : Option Addr) (ls : List Int) (cap2 : Nat) (hr2 : Reads w a2 ls) (hc2 : ls.length ≤ cap2) (near0 : Int) :
    Calls Try.prog 4 #[.slice a zs.length cap, .slice a2 ls.length cap2, .int .i64 near0] w fun e w' => e = .returned (.bool true) ∧ Kept w w' := by
  have HR := Lib.hid hr
  have HR2 := Lib.hid hr2
  clear hr hr2
  have M0 := Lib.hid (Mp_i.new w)
  have K0 : Hid (Kept w (w.alloc (.cells #[.pointer none, .int .i64 0] 26))) := Lib.hid (Turned.alloc _ _ _)
  go_enter Try.func4, Try.ntmps4
  go_wp2_with (fail)
  go_loopw [8, 9] (fun v i wr => ∃ k : Nat, k ≤ ls.length ∧ k ≤ 200 ∧ i = .int .i64 k ∧ ∃ xs, Hid (Mp_i wr w.heap.size xs) ∧ Hid (wr.ownsRow w.heap.size 45 2 v xs.length (flat xs)) ∧ xs.length ≤ k ∧ Hid (Kept w wr)) (fun _ i _ => 200 - (intOf i).toNat)
  case atStart => exact ⟨0, Nat.zero_le _, by omega, rfl, [], M0, Lib.hid ⟨rfl, .inl ⟨rfl, rfl⟩⟩, Nat.le_refl _, K0⟩
  case round =>
    obtain ⟨k, hk1, hk2, rfl, xs, M, R, hxl, K⟩ := hrel
    clear M0 K0
    obtain ⟨va, vc, hve, hpr, hvc⟩ := preads_of_row R.out
    subst hve
    have RV := Lib.hid hpr
    clear hpr
    by_cases hlt : k < ls.length ∧ k < 200
    · obtain ⟨hlt1, hlt2⟩ := hlt
      obtain ⟨z, hz⟩ : ∃ z, ls[k]? = some z := ⟨_, List.getElem?_eq_getElem hlt1⟩
      obtain ⟨bl2, off2, rfl, _, hrow2⟩ := (HR2.out.kept K.out).at hz
      have i1 : (k : Int) < (ls.length : Int) := by omega
      have i2 : k < cap2 := by omega
      have c0 := Int.emod_nonneg z (show (31 : Int) ≠ 0 by decide)
      have c1 := Int.emod_lt_of_pos z (show (0 : Int) < 31 by decide)
      clear hz
      by_cases hkey : k < zs.length
      · obtain ⟨κ, hκ⟩ : ∃ κ, zs[k]? = some κ := ⟨_, List.getElem?_eq_getElem hkey⟩
        obtain ⟨bl, off, rfl, _, hrow⟩ := (HR.out.kept K.out).at hκ
        have i4 : (k : Int) < (zs.length : Int) := by omega
        have i5 : k < cap := by omega
        clear hκ
        obtain ⟨ge, hge⟩ : ∃ ge, get ltI xs κ = ge := ⟨_, rfl⟩
        have HGE := Lib.hid hge
        clear hge
        by_cases hq : z.tmod 4 = 0
        · have hq' : (z.tmod 4 == 0) = true := by simp only [beq_iff_eq]; exact hq
          clear hq
          go_wp2_with (fail)
          refine (cut_g _ z 31 (by decide) (by decide)).mono ?_
          rintro e w' ⟨rfl, rfl⟩
          go_wp2_with (fail)
          refine (refGet_c _ va xs vc κ RV.out hvc (by omega)).mono ?_
          rintro e w' ⟨rfl, rfl⟩
          rw [HGE.out]
          go_wp2_with (fail)
          refine (del_i _ _ _ M.out κ (by omega)).mono ?_
          rintro e w2 ⟨rfl, hd⟩
          rw [HGE.out]
          have M2 := Lib.hid hd.1
          have r2 := row_did M.out R.out hd.2
          have R2 := Lib.hid r2
          have K2 := Lib.hid (K.out.did (Nat.le_refl _) hd.2)
          clear hd r2
          go_wp2_with (fail)
          refine (refDel_c _ _ _ xs κ R2.out (by omega)).mono ?_
          rintro e w3 ⟨v3, rfl, hr3, hk3⟩
          have M3 := Lib.hid (M2.out.kept hk3)
          have R3 := Lib.hid (row_base hr3 K2.out.size)
          have K3 := Lib.hid (K2.out.trans hk3)
          have L3 := (del_sub (lt := ltI) (xs := xs) (k := κ)).length_le
          clear hr3 hk3
          go_wp2
          exact ⟨⟨k + 1, by omega, by omega, by simp, _, M3, R3, by omega, K3⟩, by simp [intOf]; omega⟩
        · have hq' : (z.tmod 4 == 0) = false := by simp only [beq_eq_false_iff_ne, ne_eq]; exact hq
          clear hq
          go_wp2_with (fail)
          refine (cut_g _ z 31 (by decide) (by decide)).mono ?_
          rintro e w' ⟨rfl, rfl⟩
          go_wp2_with (fail)
          refine (refGet_c _ va xs vc κ RV.out hvc (by omega)).mono ?_
          rintro e w' ⟨rfl, rfl⟩
          rw [HGE.out]
          go_wp2_with (fail)
          refine (put_i _ _ _ M.out κ (k : Int) (by omega)).mono ?_
          rintro e w2 ⟨rfl, hd⟩
          rw [HGE.out]
          have M2 := Lib.hid hd.1
          have R2 := Lib.hid (row_did M.out R.out hd.2)
          have K2 := Lib.hid (K.out.did (Nat.le_refl _) hd.2)
          have G2 : Hid (get ltI (put ltI xs κ (k : Int)) κ = some (k : Int)) := Lib.hid (get_put_same linI)
          clear hd
          go_wp2_with (fail)
          refine (get_i _ _ _ M2.out κ).mono ?_
          rintro e w' ⟨rfl, rfl⟩
          rw [G2.out]
          simp only [Option.getD_some, Option.isSome_some]
          go_wp2_with (fail)
          refine (refPut_c _ _ _ xs κ (k : Int) R2.out (by omega)).mono ?_
          rintro e w3 ⟨v3, rfl, hr3, hk3⟩
          have M3 := Lib.hid (M2.out.kept hk3)
          have R3 := Lib.hid (row_base hr3 K2.out.size)
          have K3 := Lib.hid (K2.out.trans hk3)
          have L3 := length_put_le (lt := ltI) (xs := xs) (k := κ) (v := (k : Int))
          clear hr3 hk3
          go_wp2
          exact ⟨⟨k + 1, by omega, by omega, by simp, _, M3, R3, by omega, K3⟩, by simp [intOf]; omega⟩
      · have i4 : ¬ ((k : Int) < (zs.length : Int)) := by omega
        obtain ⟨κ, hκ⟩ : ∃ κ, z % 31 - 9 = κ := ⟨_, rfl⟩
        obtain ⟨ge, hge⟩ : ∃ ge, get ltI xs κ = ge := ⟨_, rfl⟩
        have HGE := Lib.hid hge
        clear hge
        by_cases hq : z.tmod 4 = 0
        · have hq' : (z.tmod 4 == 0) = true := by simp only [beq_iff_eq]; exact hq
          clear hq
          go_wp2_with (fail)
          refine (cut_g _ z 31 (by decide) (by decide)).mono ?_
          rintro e w' ⟨rfl, rfl⟩
          go_wp2_with (fail)
          refine (refGet_c _ va xs vc κ RV.out hvc (by omega)).mono ?_
          rintro e w' ⟨rfl, rfl⟩
          rw [HGE.out]
          go_wp2_with (fail)
          refine (del_i _ _ _ M.out κ (by omega)).mono ?_
          rintro e w2 ⟨rfl, hd⟩
          rw [HGE.out]
          have M2 := Lib.hid hd.1
          have r2 := row_did M.out R.out hd.2
          have R2 := Lib.hid r2
          have K2 := Lib.hid (K.out.did (Nat.le_refl _) hd.2)
          clear hd r2
          go_wp2_with (fail)
          refine (refDel_c _ _ _ xs κ R2.out (by omega)).mono ?_
          rintro e w3 ⟨v3, rfl, hr3, hk3⟩
          have M3 := Lib.hid (M2.out.kept hk3)
          have R3 := Lib.hid (row_base hr3 K2.out.size)
          have K3 := Lib.hid (K2.out.trans hk3)
          have L3 := (del_sub (lt := ltI) (xs := xs) (k := κ)).length_le
          clear hr3 hk3
          go_wp2
          exact ⟨⟨k + 1, by omega, by omega, by simp, _, M3, R3, by omega, K3⟩, by simp [intOf]; omega⟩
        · have hq' : (z.tmod 4 == 0) = false := by simp only [beq_eq_false_iff_ne, ne_eq]; exact hq
          clear hq
          go_wp2_with (fail)
          refine (cut_g _ z 31 (by decide) (by decide)).mono ?_
          rintro e w' ⟨rfl, rfl⟩
          go_wp2_with (fail)
          refine (refGet_c _ va xs vc κ RV.out hvc (by omega)).mono ?_
          rintro e w' ⟨rfl, rfl⟩
          rw [HGE.out]
          go_wp2_with (fail)
          refine (put_i _ _ _ M.out κ (k : Int) (by omega)).mono ?_
          rintro e w2 ⟨rfl, hd⟩
          rw [HGE.out]
          have M2 := Lib.hid hd.1
          have R2 := Lib.hid (row_did M.out R.out hd.2)
          have K2 := Lib.hid (K.out.did (Nat.le_refl _) hd.2)
          have G2 : Hid (get ltI (put ltI xs κ (k : Int)) κ = some (k : Int)) := Lib.hid (get_put_same linI)
          clear hd
          go_wp2_with (fail)
          refine (get_i _ _ _ M2.out κ).mono ?_
          rintro e w' ⟨rfl, rfl⟩
          rw [G2.out]
          simp only [Option.getD_some, Option.isSome_some]
          go_wp2_with (fail)
          refine (refPut_c _ _ _ xs κ (k : Int) R2.out (by omega)).mono ?_
          rintro e w3 ⟨v3, rfl, hr3, hk3⟩
          have M3 := Lib.hid (M2.out.kept hk3)
          have R3 := Lib.hid (row_base hr3 K2.out.size)
          have K3 := Lib.hid (K2.out.trans hk3)
          have L3 := length_put_le (lt := ltI) (xs := xs) (k := κ) (v := (k : Int))
          clear hr3 hk3
          go_wp2
          exact ⟨⟨k + 1, by omega, by omega, by simp, _, M3, R3, by omega, K3⟩, by simp [intOf]; omega⟩
    · obtain ⟨fa, fv, fo, hfl, hpf, ca, cv, co, hcl, hpc⟩ : ∃ fa fv fo, near (floor ltI xs near0) = .tuple #[.int .i64 fa, .int .i64 fv, .bool fo] ∧ pairOf (floor ltI xs near0) = .tuple #[.agg #[.int .i64 fa, .int .i64 fv], .bool fo] ∧ ∃ ca cv co, near (ceil ltI xs near0) = .tuple #[.int .i64 ca, .int .i64 cv, .bool co] ∧ pairOf (ceil ltI xs near0) = .tuple #[.agg #[.int .i64 ca, .int .i64 cv], .bool co] := ⟨_, _, _, rfl, rfl, _, _, _, rfl, rfl⟩
      have HFL := Lib.hid hfl
      have HPF := Lib.hid hpf
      have HCL := Lib.hid hcl
      have HPC := Lib.hid hpc
      clear hfl hpf hcl hpc
      by_cases h1 : k < ls.length
      · have h2 : (200 : Int) ≤ (k : Int) := by omega
        clear hlt
        go_wp2_with (fail)
        refine (floor_k _ _ _ M.out near0).mono ?_
        rintro e w2 ⟨rfl, hk⟩
        rw [HFL.out]
        have M2 := Lib.hid (M.out.kept hk)
        have RV2 := Lib.hid (RV.out.kept hk)
        have K2 := Lib.hid (K.out.trans hk)
        clear hk M RV K R
        go_wp2_with (fail)
        refine (refFloor_c _ va xs vc near0 RV2.out hvc (by omega) M2.out.asc).mono ?_
        rintro e w3 ⟨rfl, hk⟩
        rw [HPF.out]
        have M3 := Lib.hid ((M2.out.kept hk).kept (show Kept w3 (w3.alloc (.cells #[.int .i64 fa, .int .i64 fv] 45)) from Turned.alloc _ _ _))
        have RV3 := Lib.hid ((RV2.out.kept hk).kept (show Kept w3 (w3.alloc (.cells #[.int .i64 fa, .int .i64 fv] 45)) from Turned.alloc _ _ _))
        have K3 := Lib.hid ((K2.out.trans hk).trans (show Kept w3 (w3.alloc (.cells #[.int .i64 fa, .int .i64 fv] 45)) from Turned.alloc _ _ _))
        have P3 : Hid (PairAt (w3.alloc (.cells #[.int .i64 fa, .int .i64 fv] 45)) w3.heap.size fa fv) := Lib.hid (World.alloc_heap_new w3 _)
        clear hk M2 RV2 K2
        go_wp2_with (fail)
        refine (ceil_k _ _ _ M3.out near0).mono ?_
        rintro e w4 ⟨rfl, hk⟩
        rw [HCL.out]
        have M4 := Lib.hid (M3.out.kept hk)
        have RV4 := Lib.hid (RV3.out.kept hk)
        have K4 := Lib.hid (K3.out.trans hk)
        have P4 := Lib.hid (P3.out.kept hk)
        clear hk M3 RV3 K3 P3
        go_wp2_with (fail)
        refine (refCeil_c _ va xs vc near0 RV4.out hvc (by omega)).mono ?_
        rintro e w5 ⟨rfl, hk⟩
        rw [HPC.out]
        have kb : Kept w5 (w5.alloc (.cells #[.int .i64 ca, .int .i64 cv] 45)) := Turned.alloc _ _ _
        have M5 := Lib.hid ((M4.out.kept hk).kept kb)
        have RV5 := Lib.hid ((RV4.out.kept hk).kept kb)
        have K5 := Lib.hid ((K4.out.trans hk).trans kb)
        have P5 := Lib.hid ((P4.out.kept hk).kept kb)
        have Q5 : Hid (PairAt (w5.alloc (.cells #[.int .i64 ca, .int .i64 cv] 45)) w5.heap.size ca cv) := Lib.hid (World.alloc_heap_new w5 _)
        clear hk kb M4 RV4 K4 P4
        go_wp2_with (fail)
        refine (known_c _).mono ?_
        rintro e w6 ⟨rfl, hk⟩
        have M6 := Lib.hid (M5.out.kept hk)
        have RV6 := Lib.hid (RV5.out.kept hk)
        have K6 := Lib.hid (K5.out.trans hk)
        have P6 := Lib.hid (P5.out.kept hk)
        have Q6 := Lib.hid (Q5.out.kept hk)
        clear hk M5 RV5 K5 P5 Q5
        go_wp2_with (fail)
        refine (same_c _ _ xs M6.out va vc RV6.out hvc (by omega)).mono ?_
        rintro e w7 ⟨rfl, hk⟩
        have K7 := Lib.hid (K6.out.trans hk)
        obtain ⟨p0, p1⟩ := (P6.out.kept hk).cells
        obtain ⟨q0, q1⟩ := (Q6.out.kept hk).cells
        clear hk M6 RV6 K6 P6 Q6
        go_wp2
        go_ret
        exact ⟨rfl, K7.out⟩
      · clear hlt
        go_wp2_with (fail)
        refine (floor_k _ _ _ M.out near0).mono ?_
        rintro e w2 ⟨rfl, hk⟩
        rw [HFL.out]
        have M2 := Lib.hid (M.out.kept hk)
        have RV2 := Lib.hid (RV.out.kept hk)
        have K2 := Lib.hid (K.out.trans hk)
        clear hk M RV K R
        go_wp2_with (fail)
        refine (refFloor_c _ va xs vc near0 RV2.out hvc (by omega) M2.out.asc).mono ?_
        rintro e w3 ⟨rfl, hk⟩
        rw [HPF.out]
        have M3 := Lib.hid ((M2.out.kept hk).kept (show Kept w3 (w3.alloc (.cells #[.int .i64 fa, .int .i64 fv] 45)) from Turned.alloc _ _ _))
        have RV3 := Lib.hid ((RV2.out.kept hk).kept (show Kept w3 (w3.alloc (.cells #[.int .i64 fa, .int .i64 fv] 45)) from Turned.alloc _ _ _))
        have K3 := Lib.hid ((K2.out.trans hk).trans (show Kept w3 (w3.alloc (.cells #[.int .i64 fa, .int .i64 fv] 45)) from Turned.alloc _ _ _))
        have P3 : Hid (PairAt (w3.alloc (.cells #[.int .i64 fa, .int .i64 fv] 45)) w3.heap.size fa fv) := Lib.hid (World.alloc_heap_new w3 _)
        clear hk M2 RV2 K2
        go_wp2_with (fail)
        refine (ceil_k _ _ _ M3.out near0).mono ?_
        rintro e w4 ⟨rfl, hk⟩
        rw [HCL.out]
        have M4 := Lib.hid (M3.out.kept hk)
        have RV4 := Lib.hid (RV3.out.kept hk)
        have K4 := Lib.hid (K3.out.trans hk)
        have P4 := Lib.hid (P3.out.kept hk)
        clear hk M3 RV3 K3 P3
        go_wp2_with (fail)
        refine (refCeil_c _ va xs vc near0 RV4.out hvc (by omega)).mono ?_
        rintro e w5 ⟨rfl, hk⟩
        rw [HPC.out]
        have kb : Kept w5 (w5.alloc (.cells #[.int .i64 ca, .int .i64 cv] 45)) := Turned.alloc _ _ _
        have M5 := Lib.hid ((M4.out.kept hk).kept kb)
        have RV5 := Lib.hid ((RV4.out.kept hk).kept kb)
        have K5 := Lib.hid ((K4.out.trans hk).trans kb)
        have P5 := Lib.hid ((P4.out.kept hk).kept kb)
        have Q5 : Hid (PairAt (w5.alloc (.cells #[.int .i64 ca, .int .i64 cv] 45)) w5.heap.size ca cv) := Lib.hid (World.alloc_heap_new w5 _)
        clear hk kb M4 RV4 K4 P4
        go_wp2_with (fail)
        refine (known_c _).mono ?_
        rintro e w6 ⟨rfl, hk⟩
        have M6 := Lib.hid (M5.out.kept hk)
        have RV6 := Lib.hid (RV5.out.kept hk)
        have K6 := Lib.hid (K5.out.trans hk)
        have P6 := Lib.hid (P5.out.kept hk)
        have Q6 := Lib.hid (Q5.out.kept hk)
        clear hk M5 RV5 K5 P5 Q5
        go_wp2_with (fail)
        refine (same_c _ _ xs M6.out va vc RV6.out hvc (by omega)).mono ?_
        rintro e w7 ⟨rfl, hk⟩
        have K7 := Lib.hid (K6.out.trans hk)
        obtain ⟨p0, p1⟩ := (P6.out.kept hk).cells
        obtain ⟨q0, q1⟩ := (Q6.out.kept hk).cells
        clear hk M6 RV6 K6 P6 Q6
        go_wp2
        go_ret
        exact ⟨rfl, K7.out⟩
end Go.Proofs.Ytfckphcbleodbaa
