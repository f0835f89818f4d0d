/-
  What 'known' of the statements of chapter 6 answers: true; nothing that lay is turned.
-/
import Derived.Test.YtmfpfoikfpcnkaaPaths
namespace Go.Proofs.Ytmfpfoikfpcnkaa
open Go.RowKit

theorem right_k (w : World) (a : Option Addr) (q : List Int) (cap : Nat) (b : Bool) (hr : Reads w a q) (hc : q.length ≤ cap) (hm : cap ≤ maxLen) (hb : upB q = b) :
    Calls Try.prog 11 #[.slice a q.length cap] w fun e w' => e = .returned (.bool b) ∧ Kept w w' :=
  (right_c w a q cap hr hc hm).mono fun _ _ ⟨h1, m, h2⟩ => ⟨by rw [h1, hb], by rw [h2]; exact Kept.drewN _ _⟩
theorem find_k (w : World) (a : Option Addr) (q : List Int) (cap : Nat) (k : Int) (r : Nat) (hr : Reads w a q) (hc : q.length ≤ cap) (hm : cap ≤ maxLen) (hb : findN q k = r) :
    Calls Try.prog 12 #[.slice a q.length cap, .int .i64 k] w fun e w' => e = .returned (.int .i64 (r : Int)) ∧ Kept w w' :=
  (find_c w a q cap k hr hc hm).mono fun _ _ ⟨h1, m, h2⟩ => ⟨by rw [h1, hb], by rw [h2]; exact Kept.drewN _ _⟩
theorem guess_k (a b k n r : Int) (ha : (Lit.int .i64 a).wf = true) (hb : (Lit.int .i64 b).wf = true) (hk : (Lit.int .i64 k).wf = true) (hg : guessZ a b k n = r) (w : World) :
    Calls Try.prog 15 #[.int .i64 a, .int .i64 b, .int .i64 k, .int .i64 n] w fun e w' => e = .returned (.int .i64 r) ∧ Kept w w' :=
  (guess_c a b k n ha hb hk w).mono fun _ _ ⟨h1, m, h2⟩ => ⟨by rw [h1, hg], by rw [h2]; exact Kept.drewN _ _⟩
theorem ints_k (w : World) (a b : Option Addr) (q : List Int) (cap cap' : Nat) (hr : Reads w a q) (hr' : Reads w b q) (hc : q.length ≤ cap) (hc' : q.length ≤ cap') (hm : cap ≤ maxLen) :
    Calls Try.prog 14 #[.slice a q.length cap, .slice b q.length cap'] w fun e w' => e = .returned (.bool true) ∧ Kept w w' :=
  (ints_c w a b q cap cap' hr hr' hc hc' hm).mono fun _ _ ⟨h1, m, h2⟩ => ⟨h1, by rw [h2]; exact Kept.drewN _ _⟩
theorem sliced_at {xs : List Int} {w : World} {e : Ending} {w' : World} (h : Sliced xs w e w') : ∃ a cap, e = .returned (.slice a xs.length cap) ∧ Reads w' a xs ∧ xs.length ≤ cap ∧ cap ≤ maxLen ∧ Kept w w' := by
  obtain ⟨v, rfl, hr, hk⟩ := h
  obtain ⟨a, cap, rfl, h1, h2, h3, _⟩ := hr.reads
  exact ⟨a, cap, rfl, h1, h2, h3, hk⟩
theorem path_k (w : World) (a : Option Addr) (q : List Int) (cap : Nat) (k : Int) (r : List Int) (hr : Reads w a q) (hc : q.length ≤ cap) (hm : cap ≤ maxLen) (hw : ∀ z ∈ q, (Lit.int .i64 z).wf = true) (wk : (Lit.int .i64 k).wf = true) (hb : pathP q k = r) :
    Calls Try.prog 13 #[.slice a q.length cap, .int .i64 k] w fun e w' => ∃ a' cap', e = .returned (.slice a' r.length cap') ∧ Reads w' a' r ∧ r.length ≤ cap' ∧ cap' ≤ maxLen ∧ Kept w w' :=
  (path_c w a q cap k hr hc hm hw wk).mono fun _ _ h => by rw [hb] at h; exact sliced_at h

set_option maxRecDepth 100000 in
set_option maxHeartbeats 2000000 in
theorem known_c (w : World) : Calls Try.prog 10 #[] w fun e w' => e = .returned (.bool true) ∧ Kept w w' := by
  have KK : Hid (Kept w (w.alloc (.cells #[.int .i64 10, .int .i64 20, .int .i64 30, .int .i64 40] 2))) := hide (Turned.alloc _ _ _)
  have HA : Hid (Reads (w.alloc (.cells #[.int .i64 10, .int .i64 20, .int .i64 30, .int .i64 40] 2)) (some ⟨w.heap.size, 0, none⟩) [10, 20, 30, 40]) := hide (Reads.new w 2 [10, 20, 30, 40])
  go_enter Try.func10, Try.ntmps10
  go_wp2_with (fail)
  refine (find_k _ _ [10, 20, 30, 40] 4 (25) 2 HA.out (by decide) (by decide) (by decide)).mono ?_
  rintro e V1 ⟨rfl, hk⟩
  have kk : Kept (w.alloc (.cells #[.int .i64 10, .int .i64 20, .int .i64 30, .int .i64 40] 2)) V1 := hk
  have KK1 := hide (KK.out.trans kk)
  have HA' := hide (HA.out.kept kk)
  clear KK kk HA
  have KK := KK1
  clear KK1
  have HA := HA'
  clear HA'
  clear hk
  go_wp2_with (fail)
  refine (path_k _ _ [10, 20, 30, 40] 4 (25) [1, 4, 2, 3] HA.out (by decide) (by decide) (by decide) (by decide) (by decide)).mono ?_
  rintro e V2 ⟨pa, pc, rfl, hr, hc, hm, hk⟩
  have kk : Kept V1 V2 := hk
  have KK2 := hide (KK.out.trans kk)
  have HA' := hide (HA.out.kept kk)
  clear KK kk HA
  have KK := KK2
  clear KK2
  have HA := HA'
  clear HA'
  clear hk
  have HPR := hide hr
  have HPC := hide hc
  have HPM := hide hm
  clear hr hc hm
  go_wp2_with (fail)
  refine (ints_k _ _ _ [1, 4, 2, 3] _ _ (HPR.out.kept (Turned.alloc _ _ _)) (Reads.new _ 3 [1, 4, 2, 3]) HPC.out (by decide) HPM.out).mono ?_
  rintro e V3 ⟨rfl, hk⟩
  have kk : Kept V2 V3 := Kept.trans (Turned.alloc _ _ _) hk
  have KK3 := hide (KK.out.trans kk)
  have HA' := hide (HA.out.kept kk)
  clear KK kk HA
  have KK := KK3
  clear KK3
  have HA := HA'
  clear HA'
  clear hk HPR HPC HPM
  go_wp2_with (fail)
  refine (path_k _ _ [10, 20, 30, 40] 4 (5) [1] HA.out (by decide) (by decide) (by decide) (by decide) (by decide)).mono ?_
  rintro e V4 ⟨pa, pc, rfl, hr, hc, hm, hk⟩
  have kk : Kept V3 V4 := hk
  have KK4 := hide (KK.out.trans kk)
  have HA' := hide (HA.out.kept kk)
  clear KK kk HA
  have KK := KK4
  clear KK4
  have HA := HA'
  clear HA'
  clear hk
  have HPR := hide hr
  have HPC := hide hc
  have HPM := hide hm
  clear hr hc hm
  go_wp2_with (fail)
  refine (ints_k _ _ _ [1] _ _ (HPR.out.kept (Turned.alloc _ _ _)) (Reads.new _ 3 [1]) HPC.out (by decide) HPM.out).mono ?_
  rintro e V5 ⟨rfl, hk⟩
  have kk : Kept V4 V5 := Kept.trans (Turned.alloc _ _ _) hk
  have KK5 := hide (KK.out.trans kk)
  have HA' := hide (HA.out.kept kk)
  clear KK kk HA
  have KK := KK5
  clear KK5
  have HA := HA'
  clear HA'
  clear hk HPR HPC HPM
  go_wp2_with (fail)
  refine (path_k _ _ [10, 20, 30, 40] 4 (40) [1, 4] HA.out (by decide) (by decide) (by decide) (by decide) (by decide)).mono ?_
  rintro e V6 ⟨pa, pc, rfl, hr, hc, hm, hk⟩
  have kk : Kept V5 V6 := hk
  have KK6 := hide (KK.out.trans kk)
  have HA' := hide (HA.out.kept kk)
  clear KK kk HA
  have KK := KK6
  clear KK6
  have HA := HA'
  clear HA'
  clear hk
  have HPR := hide hr
  have HPC := hide hc
  have HPM := hide hm
  clear hr hc hm
  go_wp2_with (fail)
  refine (ints_k _ _ _ [1, 4] _ _ (HPR.out.kept (Turned.alloc _ _ _)) (Reads.new _ 3 [1, 4]) HPC.out (by decide) HPM.out).mono ?_
  rintro e V7 ⟨rfl, hk⟩
  have kk : Kept V6 V7 := Kept.trans (Turned.alloc _ _ _) hk
  have KK7 := hide (KK.out.trans kk)
  have HA' := hide (HA.out.kept kk)
  clear KK kk HA
  have KK := KK7
  clear KK7
  have HA := HA'
  clear HA'
  clear hk HPR HPC HPM
  go_wp2_with (fail)
  refine (path_k _ _ [7] 1 (9) [1] (Reads.new _ 2 [7]) (by decide) (by decide) (by decide) (by decide) (by decide)).mono ?_
  rintro e V8 ⟨pa, pc, rfl, hr, hc, hm, hk⟩
  have kk : Kept V7 V8 := Kept.trans (Turned.alloc _ _ _) hk
  have KK8 := hide (KK.out.trans kk)
  have HA' := hide (HA.out.kept kk)
  clear KK kk HA
  have KK := KK8
  clear KK8
  have HA := HA'
  clear HA'
  clear hk
  have HPR := hide hr
  have HPC := hide hc
  have HPM := hide hm
  clear hr hc hm
  go_wp2_with (fail)
  refine (ints_k _ _ _ [1] _ _ (HPR.out.kept (Turned.alloc _ _ _)) (Reads.new _ 3 [1]) HPC.out (by decide) HPM.out).mono ?_
  rintro e V9 ⟨rfl, hk⟩
  have kk : Kept V8 V9 := Kept.trans (Turned.alloc _ _ _) hk
  have KK9 := hide (KK.out.trans kk)
  have HA' := hide (HA.out.kept kk)
  clear KK kk HA
  have KK := KK9
  clear KK9
  have HA := HA'
  clear HA'
  clear hk HPR HPC HPM
  go_wp2_with (fail)
  refine (path_k _ _ [] 0 (1) [] (.inl rfl) (by decide) (by decide) (by decide) (by decide) (by decide)).mono ?_
  rintro e V10 ⟨pa, pc, rfl, hr, hc, hm, hk⟩
  have kk : Kept V9 V10 := hk
  have KK10 := hide (KK.out.trans kk)
  have HA' := hide (HA.out.kept kk)
  clear KK kk HA
  have KK := KK10
  clear KK10
  have HA := HA'
  clear HA'
  clear hk
  clear hr hc hm
  go_wp2_with (fail)
  refine (path_k _ _ [0, 1, 2, 3, 1000] 5 (900) [1, 5, 4] (Reads.new _ 2 [0, 1, 2, 3, 1000]) (by decide) (by decide) (by decide) (by decide) (by decide)).mono ?_
  rintro e V11 ⟨pa, pc, rfl, hr, hc, hm, hk⟩
  have kk : Kept V10 V11 := Kept.trans (Turned.alloc _ _ _) hk
  have KK11 := hide (KK.out.trans kk)
  have HA' := hide (HA.out.kept kk)
  clear KK kk HA
  have KK := KK11
  clear KK11
  have HA := HA'
  clear HA'
  clear hk
  have HPR := hide hr
  have HPC := hide hc
  have HPM := hide hm
  clear hr hc hm
  go_wp2_with (fail)
  refine (ints_k _ _ _ [1, 5, 4] _ _ (HPR.out.kept (Turned.alloc _ _ _)) (Reads.new _ 3 [1, 5, 4]) HPC.out (by decide) HPM.out).mono ?_
  rintro e V12 ⟨rfl, hk⟩
  have kk : Kept V11 V12 := Kept.trans (Turned.alloc _ _ _) hk
  have KK12 := hide (KK.out.trans kk)
  have HA' := hide (HA.out.kept kk)
  clear KK kk HA
  have KK := KK12
  clear KK12
  have HA := HA'
  clear HA'
  clear hk HPR HPC HPM
  go_wp2_with (fail)
  refine (path_k _ _ [0, 997, 998, 999, 1000] 5 (500) [1, 5, 3, 2] (Reads.new _ 2 [0, 997, 998, 999, 1000]) (by decide) (by decide) (by decide) (by decide) (by decide)).mono ?_
  rintro e V13 ⟨pa, pc, rfl, hr, hc, hm, hk⟩
  have kk : Kept V12 V13 := Kept.trans (Turned.alloc _ _ _) hk
  have KK13 := hide (KK.out.trans kk)
  have HA' := hide (HA.out.kept kk)
  clear KK kk HA
  have KK := KK13
  clear KK13
  have HA := HA'
  clear HA'
  clear hk
  have HPR := hide hr
  have HPC := hide hc
  have HPM := hide hm
  clear hr hc hm
  go_wp2_with (fail)
  refine (ints_k _ _ _ [1, 5, 3, 2] _ _ (HPR.out.kept (Turned.alloc _ _ _)) (Reads.new _ 3 [1, 5, 3, 2]) HPC.out (by decide) HPM.out).mono ?_
  rintro e V14 ⟨rfl, hk⟩
  have kk : Kept V13 V14 := Kept.trans (Turned.alloc _ _ _) hk
  have KK14 := hide (KK.out.trans kk)
  have HA' := hide (HA.out.kept kk)
  clear KK kk HA
  have KK := KK14
  clear KK14
  have HA := HA'
  clear HA'
  clear hk HPR HPC HPM
  go_wp2
  go_ret
  exact ⟨rfl, KK.out⟩

set_option maxRecDepth 100000 in
set_option maxHeartbeats 2000000 in
theorem probeKnown_c (w : World) : Calls Try.prog 3 #[] w fun e w' => e = .returned (.bool true) ∧ Kept w w' := by
  have KK : Hid (Kept w (w.alloc (.cells #[.int .i64 (-9223372036854775808), .int .i64 0, .int .i64 9223372036854775807] 2))) := hide (Turned.alloc _ _ _)
  have HA : Hid (Reads (w.alloc (.cells #[.int .i64 (-9223372036854775808), .int .i64 0, .int .i64 9223372036854775807] 2)) (some ⟨w.heap.size, 0, none⟩) [-9223372036854775808, 0, 9223372036854775807]) := hide (Reads.new w 2 [-9223372036854775808, 0, 9223372036854775807])
  go_enter Try.func3, Try.ntmps3
  go_wp2_with (fail)
  refine (known_c _).mono ?_
  rintro e V1 ⟨rfl, hk⟩
  have kk : Kept (w.alloc (.cells #[.int .i64 (-9223372036854775808), .int .i64 0, .int .i64 9223372036854775807] 2)) V1 := hk
  have KK1 := hide (KK.out.trans kk)
  have HA' := hide (HA.out.kept kk)
  clear KK kk HA
  have KK := KK1
  clear KK1
  have HA := HA'
  clear HA'
  clear hk
  go_wp2_with (fail)
  refine (right_k _ _ [] 0 true (.inl rfl) (by decide) (by decide) (by decide)).mono ?_
  rintro e V2 ⟨rfl, hk⟩
  have kk : Kept V1 V2 := hk
  have KK2 := hide (KK.out.trans kk)
  have HA' := hide (HA.out.kept kk)
  clear KK kk HA
  have KK := KK2
  clear KK2
  have HA := HA'
  clear HA'
  clear hk
  go_wp2_with (fail)
  refine (right_k _ _ [(-9223372036854775808), 0, 9223372036854775807] 3 true HA.out (by decide) (by decide) (by decide)).mono ?_
  rintro e V3 ⟨rfl, hk⟩
  have kk : Kept V2 V3 := hk
  have KK3 := hide (KK.out.trans kk)
  have HA' := hide (HA.out.kept kk)
  clear KK kk HA
  have KK := KK3
  clear KK3
  have HA := HA'
  clear HA'
  clear hk
  go_wp2_with (fail)
  refine (right_k _ _ [1, 1] 2 false (Reads.new _ 2 [1, 1]) (by decide) (by decide) (by decide)).mono ?_
  rintro e V4 ⟨rfl, hk⟩
  have kk : Kept V3 V4 := Kept.trans (Turned.alloc _ _ _) hk
  have KK4 := hide (KK.out.trans kk)
  have HA' := hide (HA.out.kept kk)
  clear KK kk HA
  have KK := KK4
  clear KK4
  have HA := HA'
  clear HA'
  clear hk
  go_wp2_with (fail)
  refine (right_k _ _ [2, 1] 2 false (Reads.new _ 2 [2, 1]) (by decide) (by decide) (by decide)).mono ?_
  rintro e V5 ⟨rfl, hk⟩
  have kk : Kept V4 V5 := Kept.trans (Turned.alloc _ _ _) hk
  have KK5 := hide (KK.out.trans kk)
  have HA' := hide (HA.out.kept kk)
  clear KK kk HA
  have KK := KK5
  clear KK5
  have HA := HA'
  clear HA'
  clear hk
  go_wp2_with (fail)
  refine (find_k _ _ [2, 1] 2 (5) 0 (Reads.new _ 2 [2, 1]) (by decide) (by decide) (by decide)).mono ?_
  rintro e V6 ⟨rfl, hk⟩
  have kk : Kept V5 V6 := Kept.trans (Turned.alloc _ _ _) hk
  have KK6 := hide (KK.out.trans kk)
  have HA' := hide (HA.out.kept kk)
  clear KK kk HA
  have KK := KK6
  clear KK6
  have HA := HA'
  clear HA'
  clear hk
  go_wp2_with (fail)
  refine (path_k _ _ [1, 1] 2 (5) [] (Reads.new _ 2 [1, 1]) (by decide) (by decide) (by decide) (by decide) (by decide)).mono ?_
  rintro e V7 ⟨pa, pc, rfl, hr, hc, hm, hk⟩
  have kk : Kept V6 V7 := Kept.trans (Turned.alloc _ _ _) hk
  have KK7 := hide (KK.out.trans kk)
  have HA' := hide (HA.out.kept kk)
  clear KK kk HA
  have KK := KK7
  clear KK7
  have HA := HA'
  clear HA'
  clear hk
  clear hr hc hm
  go_wp2_with (fail)
  refine (find_k _ _ [(-9223372036854775808), 0, 9223372036854775807] 3 (-1) 1 HA.out (by decide) (by decide) (by decide)).mono ?_
  rintro e V8 ⟨rfl, hk⟩
  have kk : Kept V7 V8 := hk
  have KK8 := hide (KK.out.trans kk)
  have HA' := hide (HA.out.kept kk)
  clear KK kk HA
  have KK := KK8
  clear KK8
  have HA := HA'
  clear HA'
  clear hk
  go_wp2_with (fail)
  refine (path_k _ _ [(-9223372036854775808), 0, 9223372036854775807] 3 (-1) [1, 3, 2] HA.out (by decide) (by decide) (by decide) (by decide) (by decide)).mono ?_
  rintro e V9 ⟨pa, pc, rfl, hr, hc, hm, hk⟩
  have kk : Kept V8 V9 := hk
  have KK9 := hide (KK.out.trans kk)
  have HA' := hide (HA.out.kept kk)
  clear KK kk HA
  have KK := KK9
  clear KK9
  have HA := HA'
  clear HA'
  clear hk
  have HPR := hide hr
  have HPC := hide hc
  have HPM := hide hm
  clear hr hc hm
  go_wp2_with (fail)
  refine (ints_k _ _ _ [1, 3, 2] _ _ (HPR.out.kept (Turned.alloc _ _ _)) (Reads.new _ 3 [1, 3, 2]) HPC.out (by decide) HPM.out).mono ?_
  rintro e V10 ⟨rfl, hk⟩
  have kk : Kept V9 V10 := Kept.trans (Turned.alloc _ _ _) hk
  have KK10 := hide (KK.out.trans kk)
  have HA' := hide (HA.out.kept kk)
  clear KK kk HA
  have KK := KK10
  clear KK10
  have HA := HA'
  clear HA'
  clear hk HPR HPC HPM
  go_wp2_with (fail)
  refine (guess_k (-9223372036854775808) (9223372036854775807) (0) (3) (2) (by decide) (by decide) (by decide) (by decide) _).mono ?_
  rintro e V11 ⟨rfl, hk⟩
  have kk : Kept V10 V11 := hk
  have KK11 := hide (KK.out.trans kk)
  have HA' := hide (HA.out.kept kk)
  clear KK kk HA
  have KK := KK11
  clear KK11
  have HA := HA'
  clear HA'
  clear hk
  go_wp2_with (fail)
  refine (guess_k (0) (10) (10) (5) (0) (by decide) (by decide) (by decide) (by decide) _).mono ?_
  rintro e V12 ⟨rfl, hk⟩
  have kk : Kept V11 V12 := hk
  have KK12 := hide (KK.out.trans kk)
  have HA' := hide (HA.out.kept kk)
  clear KK kk HA
  have KK := KK12
  clear KK12
  have HA := HA'
  clear HA'
  clear hk
  go_wp2_with (fail)
  refine (guess_k (0) (10) (-1) (5) (0) (by decide) (by decide) (by decide) (by decide) _).mono ?_
  rintro e V13 ⟨rfl, hk⟩
  have kk : Kept V12 V13 := hk
  have KK13 := hide (KK.out.trans kk)
  have HA' := hide (HA.out.kept kk)
  clear KK kk HA
  have KK := KK13
  clear KK13
  have HA := HA'
  clear HA'
  clear hk
  go_wp2_with (fail)
  refine (guess_k (0) (10) (9) (1) (0) (by decide) (by decide) (by decide) (by decide) _).mono ?_
  rintro e V14 ⟨rfl, hk⟩
  have kk : Kept V13 V14 := hk
  have KK14 := hide (KK.out.trans kk)
  have HA' := hide (HA.out.kept kk)
  clear KK kk HA
  have KK := KK14
  clear KK14
  have HA := HA'
  clear HA'
  clear hk
  go_wp2_with (fail)
  refine (guess_k (0) (10) (9) (65537) (0) (by decide) (by decide) (by decide) (by decide) _).mono ?_
  rintro e V15 ⟨rfl, hk⟩
  have kk : Kept V14 V15 := hk
  have KK15 := hide (KK.out.trans kk)
  have HA' := hide (HA.out.kept kk)
  clear KK kk HA
  have KK := KK15
  clear KK15
  have HA := HA'
  clear HA'
  clear hk
  go_wp2_with (fail)
  refine (guess_k (0) (10) (0) (7) (1) (by decide) (by decide) (by decide) (by decide) _).mono ?_
  rintro e V16 ⟨rfl, hk⟩
  have kk : Kept V15 V16 := hk
  have KK16 := hide (KK.out.trans kk)
  have HA' := hide (HA.out.kept kk)
  clear KK kk HA
  have KK := KK16
  clear KK16
  have HA := HA'
  clear HA'
  clear hk
  go_wp2
  go_ret
  exact ⟨rfl, KK.out⟩
end Go.Proofs.Ytmfpfoikfpcnkaa
