/-
  Plain facts that stand in no other part. No conditions beyond each theorem's own.
-/
import Derived.Test.YtibnlaihiahjpaaGreatY10
namespace Go.Proofs.YtibnlaihiahjpaaGreat
open Go.RowKit
namespace Mst
theorem touch_look (s : Mst) (a c : Int) : (s.touch a).look c = s.look c := by simp [Mst.look, touch_used, touch_xs]
end Mst
theorem now_look (w W : World) (b : Nat) (s : Mst) (a r : Int) (h : Now w W b s) (e1 : s.look a = r) :
    Calls Tryz.prog 36 #[.pointer (some ⟨b, 0, none⟩), .int .i64 a] W fun e W' => e = .returned (.int .i64 r) ∧ W = W' := by
  obtain ⟨⟨v, h⟩, hk⟩ := h
  subst e1
  exact (look_p W _ b v s a h).mono fun _ _ h => h
end Go.Proofs.YtibnlaihiahjpaaGreat
