/-
  That the chapter's examples hold ('known'); the world is turned by draws alone.
-/
import Derived.Test.YtnhjedohbpbpgaaDoc
namespace Go.Proofs.Ytnhjedohbpbpgaa
open Go.ChangeShapes Go.WideShapes Go.ChangeAt Go.RowKit

theorem grown_drewN (w : World) (n : Nat) : Grown w (w.drewN n) := Grown.refl w

set_option maxHeartbeats 2000000 in
theorem known_c (w : World) : Calls Try.prog 10 #[] w fun e w' => e = .returned (.bool true) ∧ ∃ k, w' = w.drewN k := by
  have a1 := deg_2
  have a2 := deg_8
  have a3 := deg_9
  have a4 := deg_100
  have a5 := size_11_0
  have a6 := size_11_2
  have a7 := size_11_3
  have a8 := from_11_2
  have a9 := dep_is_1
  have a10 := dep_is_2
  have a11 := dep_is_3
  have a12 := dep_is_16
  have a13 := cel_is_0
  have a14 := cel_is_2
  have a15 := cel_is_3
  have a16 : limZ 2 = 2 := by decide
  have a17 : limZ 8 = 4 := by decide
  go_enter Try.func10, Try.ntmps10
  go_wp2_with (first | (go_at_call 11; refine (deg_c _ (by decide) _).mono ?_; rintro e w' ⟨rfl, rfl⟩) | (go_at_call 12; refine (size_c _ _ (by decide) _).mono ?_; rintro e w' ⟨rfl, k, rfl⟩) | (go_at_call 13; refine (from_c _ _ (by decide) _).mono ?_; rintro e w' ⟨rfl, k, rfl⟩) | (go_at_call 14; refine (cells_c _ (by decide) _).mono ?_; rintro e w' ⟨rfl, k, rfl⟩) | (go_at_call 15; refine (lim_c _ (by decide) _).mono ?_; rintro e w' ⟨rfl, rfl⟩) | (go_at_call 16; refine (depth_c _ (by decide) _).mono ?_; rintro e w' ⟨rfl, k, rfl⟩))
  go_ret
  exact ⟨rfl, _, rfl⟩
end Go.Proofs.Ytnhjedohbpbpgaa
