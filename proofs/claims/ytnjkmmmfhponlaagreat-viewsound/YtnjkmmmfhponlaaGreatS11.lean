/-
  What the frame of a proof tells of a slice of numbers that came in. No conditions beyond the theorem's own.
-/
import Derived.Test.YtnjkmmmfhponlaaGreatS10
import Derived.WalkKit
import Derived.WalkSmall
import Derived.Maps.AppendAt
import Derived.OwnWalk
import Derived.Deep.AppendLies
import Derived.OpenShut
namespace Go.Proofs.YtnjkmmmfhponlaaGreat
open Go.RowKit
theorem reads_in {w : World} {a : Option Addr} {len cap : Nat} {z : List Int} (h : (a = none ∧ len = 0 ∧ cap = 0 ∧ z = []) ∨
    ∃ x, a = some x ∧ len ≤ cap ∧ cap ≤ maxLen ∧ z.length = cap ∧ (∀ i, i < z.length → w.cell? (x.add i) = some (.int .i64 (z.getD i 0))) ∧ ∀ n ∈ z, (Lit.int .i64 n).wf = true) :
    ∃ zs : List Int, zs.length = len ∧ zs.length ≤ cap ∧ cap ≤ maxLen ∧ Reads w a zs ∧ ∀ n ∈ zs, (Lit.int .i64 n).wf = true := by
  rcases h with ⟨rfl, rfl, rfl, rfl⟩ | ⟨x, rfl, h1, h2, h3, h4, h5⟩
  · exact ⟨[], rfl, Nat.zero_le _, Nat.zero_le _, .inl rfl, by simp⟩
  · refine ⟨z.take len, by rw [List.length_take]; omega, by rw [List.length_take]; omega, h2, ?_, fun n hn => h5 n (List.mem_of_mem_take hn)⟩
    by_cases hl : len = 0
    · subst hl
      exact .inl (by simp)
    · obtain ⟨b, off, rfl, hc⟩ := ints_at h4 (by omega)
      refine .inr ⟨b, off, rfl, fun j y hy => ?_⟩
      obtain ⟨hj, e⟩ := List.getElem?_eq_some_iff.1 hy
      rw [List.length_take] at hj
      rw [hc j (by omega)]
      rw [List.getElem_take] at e
      rw [← e, List.getD_eq_getElem?_getD, List.getElem?_eq_getElem (by omega)]
      rfl
end Go.Proofs.YtnjkmmmfhponlaaGreat
