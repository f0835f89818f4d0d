/-
  What 'known' of the statements of chapter 4 answers: true; nothing that lay is turned.
-/
import Derived.Test.YtfckphcbleodbaaNear
import Derived.Test.YtfckphcbleodbaaEnd
namespace Go.Proofs.Ytfckphcbleodbaa
open Go.RowKit Go.Shelf

theorem Kept.drewN (w : World) (n : Nat) : Kept w (w.drewN n) := Turned.drewN _ w n

set_option maxRecDepth 100000 in
set_option maxHeartbeats 2000000 in
theorem known_c (w : World) : Calls Try.prog 10 #[] w fun e w' => e = .returned (.bool true) ∧ Kept w w' := by
  have M0 := Lib.hid (Mp_i.new w)
  have K0 : Hid (Kept w (w.alloc (.cells #[.pointer none, .int .i64 0] 26))) := Lib.hid (Turned.alloc _ _ _)
  go_enter Try.func10, Try.ntmps10
  go_wp2_with (fail)
  refine (show Calls Try.prog 14 _ _ (fun e w' => e = .returned (.tuple #[.int .i64 0, .bool false]) ∧ Did_i w.heap.size [(5, 50)] _ w') from put_i _ _ _ M0.out 5 50 (by decide)).mono ?_
  rintro e w1 ⟨rfl, m, k⟩
  have M1 := Lib.hid m
  have K1 := Lib.hid (K0.out.did (Nat.le_refl _) k)
  clear m k
  go_wp2_with (fail)
  refine (show Calls Try.prog 14 _ _ (fun e w' => e = .returned (.tuple #[.int .i64 0, .bool false]) ∧ Did_i w.heap.size [(3, 30), (5, 50)] _ w') from put_i _ _ _ M1.out 3 30 (by decide)).mono ?_
  rintro e w2 ⟨rfl, m, k⟩
  have M2 := Lib.hid m
  have K2 := Lib.hid (K1.out.did (Nat.le_refl _) k)
  clear m k
  go_wp2_with (fail)
  refine (show Calls Try.prog 14 _ _ (fun e w' => e = .returned (.tuple #[.int .i64 50, .bool true]) ∧ Did_i w.heap.size [(3, 30), (5, 51)] _ w') from put_i _ _ _ M2.out 5 51 (by decide)).mono ?_
  rintro e w3 ⟨rfl, m, k⟩
  have M3 := Lib.hid m
  have K3 := Lib.hid (K2.out.did (Nat.le_refl _) k)
  clear m k
  go_wp2_with (fail)
  refine (show Calls Try.prog 11 _ _ (fun e w' => e = .returned (.tuple #[.int .i64 51, .bool true]) ∧ _ = w') from get_i _ _ _ M3.out 5).mono ?_
  rintro e w' ⟨rfl, rfl⟩
  go_wp2_with (fail)
  refine (show Calls Try.prog 15 _ _ (fun e w' => e = .returned (.tuple #[.int .i64 3, .int .i64 30, .bool true]) ∧ ∃ n, w' = _) from floor_i _ _ _ M3.out 4).mono ?_
  rintro e w' ⟨rfl, n1, rfl⟩
  have M4 := Lib.hid (M3.out.kept (Kept.drewN _ n1))
  go_wp2_with (fail)
  refine (show Calls Try.prog 12 _ _ (fun e w' => e = .returned (.tuple #[.int .i64 5, .int .i64 51, .bool true]) ∧ ∃ n, w' = _) from ceil_i _ _ _ M4.out 4).mono ?_
  rintro e w' ⟨rfl, n2, rfl⟩
  have M5 := Lib.hid (M3.out.kept (Kept.drewN _ (n1 + n2)))
  go_wp2_with (fail)
  refine (show Calls Try.prog 15 _ _ (fun e w' => e = .returned (.tuple #[.int .i64 0, .int .i64 0, .bool false]) ∧ ∃ n, w' = _) from floor_i _ _ _ M5.out 2).mono ?_
  rintro e w' ⟨rfl, n3, rfl⟩
  have M6 := Lib.hid (M3.out.kept (Kept.drewN _ (n1 + n2 + n3)))
  have K6 := Lib.hid (K3.out.trans (Kept.drewN _ (n1 + n2 + n3)))
  go_wp2_with (fail)
  refine (show Calls Try.prog 17 _ _ (fun e w' => e = .returned (.int .i64 2) ∧ _ = w') from len_i _ _ _ M6.out).mono ?_
  rintro e w' ⟨rfl, rfl⟩
  go_wp2_with (fail)
  refine (show Calls Try.prog 20 _ _ (fun e w' => e = .returned (.tuple #[.int .i64 30, .bool true]) ∧ Did_i w.heap.size [(5, 51)] _ w') from del_i _ _ _ M6.out 3 (by decide)).mono ?_
  rintro e w7 ⟨rfl, m, k⟩
  have M7 := Lib.hid m
  have K7 := Lib.hid (K6.out.did (Nat.le_refl _) k)
  clear m k
  go_wp2_with (fail)
  refine (show Calls Try.prog 20 _ _ (fun e w' => e = .returned (.tuple #[.int .i64 0, .bool false]) ∧ Did_i w.heap.size [(5, 51)] _ w') from del_i _ _ _ M7.out 3 (by decide)).mono ?_
  rintro e w8 ⟨rfl, m, k⟩
  have K8 := Lib.hid (K7.out.did (Nat.le_refl _) k)
  clear m k
  go_wp2
  go_ret
  exact ⟨rfl, K8.out⟩
end Go.Proofs.Ytfckphcbleodbaa
