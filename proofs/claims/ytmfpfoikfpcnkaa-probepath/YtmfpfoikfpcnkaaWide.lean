/-
  What ordinatehand's Wide answers (a contract): the keys of the first 80 numbers, strictly ascending, each once, in new memory; nothing that lay is turned.
-/
import Derived.Test.YtmfpfoikfpcnkaaPairs
import Derived.Test.YtmfpfoikfpcnkaaPaths
namespace Go.Proofs.Ytmfpfoikfpcnkaa
open Go.RowKit

/-- The map of the first t numbers. -/
def fillW (zs : List Int) : Nat → List (Int × Int)
  | 0 => []
  | t + 1 => match zs[t]? with
    | some z => put ltI (fillW zs t) z 0
    | none => fillW zs t
theorem fillW_step {zs : List Int} {t : Nat} {z : Int} (h : zs[t]? = some z) : fillW zs (t + 1) = put ltI (fillW zs t) z 0 := by
  rw [fillW, h]
theorem fillW_le (zs : List Int) : (t : Nat) → (fillW zs t).length ≤ t
  | 0 => Nat.le_refl _
  | t + 1 => by
    have := fillW_le zs t
    unfold fillW
    split
    · rename_i z _
      have := length_put_le (lt := ltI) (xs := fillW zs t) (k := z) (v := (0 : Int))
      omega
    · omega
theorem fillW_asc (zs : List Int) : (t : Nat) → Asc ltI (fillW zs t)
  | 0 => List.Pairwise.nil
  | t + 1 => by
    unfold fillW
    split
    · exact asc_put linI (fillW_asc zs t)
    · exact fillW_asc zs t
theorem fillW_mem (zs : List Int) : (t : Nat) → ∀ p ∈ fillW zs t, p.1 ∈ zs
  | 0 => by simp [fillW]
  | t + 1 => by
    intro p hp
    unfold fillW at hp
    split at hp
    · rename_i z hz
      rcases mem_put hp with rfl | hp
      · exact List.mem_of_getElem? hz
      · exact fillW_mem zs t p hp
    · exact fillW_mem zs t p hp
/-- The keys of the first 80 numbers. -/
def wideP (zs : List Int) : List Int := (fillW zs (min zs.length 80)).map Prod.fst
theorem wide_up (zs : List Int) : (wideP zs).Pairwise (· < ·) := by
  have := fillW_asc zs (min zs.length 80)
  unfold wideP
  rw [List.pairwise_map]
  exact List.Pairwise.imp (fun h => ltI_true.1 h) this
theorem wide_le (zs : List Int) : (wideP zs).length ≤ 80 := by
  have := fillW_le zs (min zs.length 80)
  unfold wideP
  rw [List.length_map]
  omega
theorem wide_mem {zs : List Int} {z : Int} (h : z ∈ wideP zs) : z ∈ zs := by
  unfold wideP at h
  obtain ⟨p, hp, rfl⟩ := List.mem_map.1 h
  exact fillW_mem zs _ p hp

/-- A new slice of these int64s. -/
def Sliced2 (xs : List Int) (w : World) (e : Ending) (w' : World) : Prop := ∃ v, e = .returned v ∧ Row w' w.heap.size 2 v xs ∧ Kept w w'
theorem info2 : (Try.prog.info? 2).map (fun i => (i.zero, i.size, i.bytes)) = some (some (.int .i64 0), 1, 8) := by kernel_rfl

theorem row_base {w : World} {b b' : Nat} {e : TypeId} {size : Nat} {v : Value} {n : Nat} {xs : List Value} (h : w.ownsRow b e size v n xs) (hb : b' ≤ b) : w.ownsRow b' e size v n xs := by
  obtain ⟨h1, h2⟩ := h
  refine ⟨h1, ?_⟩
  rcases h2 with h2 | ⟨g, cap, cur, rfl, hg, r⟩
  · exact .inl h2
  · exact .inr ⟨g, cap, cur, rfl, by omega, r⟩
theorem row_append2 {w : World} {n₀ g gc : Nat} {zs : List Int} {x : Int} (h : w.ownsRow n₀ 2 1 (.slice (some ⟨g, 0, none⟩) (zs.length + 1) gc) (zs.length + 1) (cellsOf zs ++ [.int .i64 x])) : Row w n₀ 2 (.slice (some ⟨g, 0, none⟩) (zs.length + 1) gc) (zs ++ [x]) := by
  unfold Row
  rw [List.length_append, List.length_singleton]
  rw [show cellsOf (zs ++ [x]) = cellsOf zs ++ [.int .i64 x] by simp [cellsOf]]
  exact h
theorem pread_old {w w' : World} {a : Option Addr} {L : List (Int × Int)} (h : PReads w a L) (ht : From w.heap.size w w') : PReads w' a L := by
  rcases h with h | ⟨bl, rfl, h⟩
  · exact .inl h
  · refine .inr ⟨bl, rfl, fun j p hp => ?_⟩
    have h1 := h j p hp
    have hb := World.block_lt_of_cell? _ _ h1.1
    exact ⟨ht.cell h1.1 (by simp only at hb ⊢; omega), ht.cell h1.2 (by simp only at hb ⊢; omega)⟩
theorem map_take {L : List (Int × Int)} {t : Nat} {p : Int × Int} (h : L[t]? = some p) : (L.take (t + 1)).map Prod.fst = (L.take t).map Prod.fst ++ [p.1] := by
  obtain ⟨h1, rfl⟩ := List.getElem?_eq_some_iff.1 h
  rw [List.take_succ_eq_append_getElem h1, List.map_append]
  rfl

set_option maxRecDepth 100000 in
set_option maxHeartbeats 1000000 in
theorem wide_c (w : World) (a : Option Addr) (zs : List Int) (cap : Nat) (hr : Reads w a zs) (hc : zs.length ≤ cap) (hm : cap ≤ maxLen) :
    Calls Try.prog 16 #[.slice a zs.length cap] w (Sliced2 (wideP zs) w) := by
  obtain ⟨y0, hi', hz0, hz1, hz2⟩ := info_parts info2
  have hm' : (zs.length : Int) ≤ 9223372036854775807 := by unfold maxLen at hm; omega
  have HR := hide hr
  clear hr hm
  go_enter Try.func16, Try.ntmps16
  go_wp2
  go_loopw [3, 4] (fun v i wr => ∃ t : Nat, t ≤ zs.length ∧ t ≤ 80 ∧ i = .int .i64 t ∧ Hid (wr.ownsRow w.heap.size 47 2 v (fillW zs t).length (flat (fillW zs t))) ∧ Hid (Kept w wr)) (fun _ i _ => 80 - (intOf i).toNat)
  case atStart => exact ⟨0, Nat.zero_le _, by omega, rfl, hide (World.ownsRow_nil _ _ _ _), hide (Kept.refl _)⟩
  case round =>
    obtain ⟨t, ht1, ht2, rfl, HV, HK⟩ := hrel
    by_cases hlt : t < zs.length ∧ t < 80
    · obtain ⟨hlt1, hlt2⟩ := hlt
      obtain ⟨z, hz⟩ : ∃ z, zs[t]? = some z := ⟨_, List.getElem?_eq_getElem hlt1⟩
      obtain ⟨bl, off, rfl, _, hrow⟩ := (HR.out.kept HK.out).at hz
      have HZ := hide (fillW_step hz)
      have i1 : (t : Int) < (zs.length : Int) := by omega
      have i2 : (t : Int) < 80 := by omega
      have i3 : t < cap := by omega
      have zr := HK.out.size
      clear hz
      go_wp2_with (fail)
      refine (refPut_c _ _ _ (fillW zs t) z 0 HV.out (by have := fillW_le zs t; omega)).mono ?_
      rintro e w1 ⟨v1, rfl, hrow1, hk1⟩
      have V1 : Hid (w1.ownsRow w.heap.size 47 2 v1 (fillW zs (t + 1)).length (flat (fillW zs (t + 1)))) := hide (by rw [HZ.out]; exact row_base hrow1 zr)
      have K1 := hide (HK.out.trans hk1)
      clear hrow1 hk1
      go_wp2
      exact ⟨⟨t + 1, by omega, by omega, by simp, V1, K1⟩, by simp [intOf]; omega⟩
    · have e : min zs.length 80 = t := by omega
      have E : Hid (wideP zs = (fillW zs t).map Prod.fst) := hide (by unfold wideP; rw [e])
      have hL : (fillW zs t).length ≤ 80 := by have := fillW_le zs t; omega
      obtain ⟨L, eL⟩ : ∃ L, fillW zs t = L := ⟨_, rfl⟩
      rw [eL] at HV E hL
      obtain ⟨pa, pc, rfl, hp, hpc⟩ := preads_of_row HV.out
      have HP := hide hp
      have zr := HK.out.size
      have hex : ¬ ((t : Int) < (zs.length : Int)) ∨ ((t : Int) < (zs.length : Int) ∧ ¬ ((t : Int) < 80)) := by omega
      clear eL e hlt HV hp ht1
      rename World => W1
      rcases hex with hx | ⟨hx1, hx2⟩
      · go_wp2
        go_loopw [5, 6] (fun u vi wt => ∃ (s : Nat) (ys : List Int), s ≤ L.length ∧ ys.length ≤ s ∧ vi = .int .i64 s ∧ Hid (ys = (L.take s).map Prod.fst) ∧ Hid (Row wt W1.heap.size 2 u ys) ∧ Hid (From W1.heap.size W1 wt)) (fun _ vi _ => L.length - (intOf vi).toNat)
        case atStart => exact ⟨0, [], Nat.zero_le _, Nat.le_refl _, rfl, hide rfl, hide (World.ownsRow_nil _ _ _ _), hide (Turned.refl _ _)⟩
        case round =>
          obtain ⟨s, ys, hs, hys, rfl, HY, HW, HT⟩ := hrel
          by_cases hsl : s < L.length
          · obtain ⟨⟨x, xv⟩, hx⟩ : ∃ p, L[s]? = some p := ⟨_, List.getElem?_eq_getElem hsl⟩
            obtain ⟨bl, rfl, hbl, g1, g2⟩ := (pread_old HP.out HT.out).at hx
            have HX := hide (map_take hx)
            have j1 : (s : Int) < (L.length : Int) := by omega
            have j2 : s < pc := by omega
            have zt := HT.out.size
            have hrow := HW.out.alloc (.cells #[.int .i64 x] 2)
            simp only at g1 g2
            have hyl : ys.length ≤ 80 := by omega
            clear hx
            go_wp2_with (at_builtin; refine Stop.out ?_)
            refine ⟨?_⟩
            refine wpList_append_lies _ rfl _ _ 22 rfl W1.heap.size 2 y0 (.int .i64 0) 1 8 Try.underlying22 hi' hz0 hz1 hz2 rfl (by decide) _ _ _ rfl hrow ⟨wr.heap.size, 0, none⟩ 1 1 [.int .i64 x] rfl rfl (one_new _ _ _) (by simp [Value.oneCell']) (by decide) (by unfold maxLen; omega) (by omega) (by simp; omega) (wr.heap.size + 1) (by simp) ?_
            intro g gc A1 hown hgrow hat hlt2
            have T1 := hide (HT.out.trans (turned_append HW.out hgrow))
            have R1 := hide (row_append2 hown)
            have HY1 : Hid (ys ++ [x] = (L.take (s + 1)).map Prod.fst) := hide (by rw [HX.out, HY.out])
            have HYL : Hid ((ys ++ [x]).length ≤ s + 1) := hide (by simp; omega)
            clear hown hgrow hat hlt2 hrow HW HT HX HY
            go_wp2
            exact ⟨⟨s + 1, ys ++ [x], by omega, HYL.out, by simp, HY1, R1, T1⟩, by simp [intOf]; omega⟩
          · have j1 : ¬ ((s : Int) < (L.length : Int)) := by omega
            have HY1 : Hid (ys = L.map Prod.fst) := hide (by have := HY.out; rwa [List.take_of_length_le (by omega)] at this)
            clear HY
            go_wp2
            go_ret
            exact ⟨_, rfl, by rw [E.out, ← HY1.out]; exact row_base HW.out zr, HK.out.own (fun i hi => by omega) HT.out⟩
      · go_wp2
        go_loopw [5, 6] (fun u vi wt => ∃ (s : Nat) (ys : List Int), s ≤ L.length ∧ ys.length ≤ s ∧ vi = .int .i64 s ∧ Hid (ys = (L.take s).map Prod.fst) ∧ Hid (Row wt W1.heap.size 2 u ys) ∧ Hid (From W1.heap.size W1 wt)) (fun _ vi _ => L.length - (intOf vi).toNat)
        case atStart => exact ⟨0, [], Nat.zero_le _, Nat.le_refl _, rfl, hide rfl, hide (World.ownsRow_nil _ _ _ _), hide (Turned.refl _ _)⟩
        case round =>
          obtain ⟨s, ys, hs, hys, rfl, HY, HW, HT⟩ := hrel
          by_cases hsl : s < L.length
          · obtain ⟨⟨x, xv⟩, hx⟩ : ∃ p, L[s]? = some p := ⟨_, List.getElem?_eq_getElem hsl⟩
            obtain ⟨bl, rfl, hbl, g1, g2⟩ := (pread_old HP.out HT.out).at hx
            have HX := hide (map_take hx)
            have j1 : (s : Int) < (L.length : Int) := by omega
            have j2 : s < pc := by omega
            have zt := HT.out.size
            have hrow := HW.out.alloc (.cells #[.int .i64 x] 2)
            simp only at g1 g2
            have hyl : ys.length ≤ 80 := by omega
            clear hx
            go_wp2_with (at_builtin; refine Stop.out ?_)
            refine ⟨?_⟩
            refine wpList_append_lies _ rfl _ _ 22 rfl W1.heap.size 2 y0 (.int .i64 0) 1 8 Try.underlying22 hi' hz0 hz1 hz2 rfl (by decide) _ _ _ rfl hrow ⟨wr.heap.size, 0, none⟩ 1 1 [.int .i64 x] rfl rfl (one_new _ _ _) (by simp [Value.oneCell']) (by decide) (by unfold maxLen; omega) (by omega) (by simp; omega) (wr.heap.size + 1) (by simp) ?_
            intro g gc A1 hown hgrow hat hlt2
            have T1 := hide (HT.out.trans (turned_append HW.out hgrow))
            have R1 := hide (row_append2 hown)
            have HY1 : Hid (ys ++ [x] = (L.take (s + 1)).map Prod.fst) := hide (by rw [HX.out, HY.out])
            have HYL : Hid ((ys ++ [x]).length ≤ s + 1) := hide (by simp; omega)
            clear hown hgrow hat hlt2 hrow HW HT HX HY
            go_wp2
            exact ⟨⟨s + 1, ys ++ [x], by omega, HYL.out, by simp, HY1, R1, T1⟩, by simp [intOf]; omega⟩
          · have j1 : ¬ ((s : Int) < (L.length : Int)) := by omega
            have HY1 : Hid (ys = L.map Prod.fst) := hide (by have := HY.out; rwa [List.take_of_length_le (by omega)] at this)
            clear HY
            go_wp2
            go_ret
            exact ⟨_, rfl, by rw [E.out, ← HY1.out]; exact row_base HW.out zr, HK.out.own (fun i hi => by omega) HT.out⟩
end Go.Proofs.Ytmfpfoikfpcnkaa
