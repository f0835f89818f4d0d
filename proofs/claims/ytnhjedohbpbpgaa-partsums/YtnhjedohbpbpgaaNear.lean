/-
  Plain arithmetic of chapter 5: two parts of a node are unlike by one at most, the longer ones first.
-/
import Derived.Test.YtnhjedohbpbpgaaPart
namespace Go.Proofs.Ytnhjedohbpbpgaa
open Go
theorem size_near {n i j : Int} (h0 : 0 ≤ i) (h1 : i ≤ j) (h2 : j < degZ n) : sizeZ n j ≤ sizeZ n i ∧ sizeZ n i ≤ sizeZ n j + 1 := by
  rcases size_cases (n := n) (i := i) h0 (by omega) with ⟨a, e⟩ | ⟨a, e⟩ <;> rcases size_cases (n := n) (i := j) (by omega) h2 with ⟨b, f⟩ | ⟨b, f⟩ <;> rw [e, f] <;> omega
end Go.Proofs.Ytnhjedohbpbpgaa
