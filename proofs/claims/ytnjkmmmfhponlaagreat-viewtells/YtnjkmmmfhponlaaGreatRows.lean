/-
  No cell of these rows narrows 'for every input' (looked for: loops, veiled, ifaces, maps, wideKeys, modest, calm, conditions, laid).
  DERIVED. THE GIVEN ROWS OF THIS SEAT. 7 by the template 'for every input the law returns true; each argument reads behind the call as it read before'; 0 by the template 'total and deterministic' (their statements: YtnjkmmmfhponlaaGreatTotals.lean).
  GIVEN WITH THE SEED: the statements are not yours to turn. If you find one false, say at which input.
  Laid BY PROGRAM, IN A SANDBOX (cutbox-rows.mjs): the forced cells as the released guide's own fill.sh prints them over the translation 1bd05735b07a5ef6… (all of the seat's roots in one cut). By AI agents, Wed Nov 11 2026. No macro, syntax, notation, axiom, sorry.
-/
import Derived.Test.YtnjkmmmfhponlaaGreatChecked
import GoSem.Claim
import GoSem.ClaimJoined
import GoSem.ClaimMapViews
import Derived.JoinedTies
import Derived.KernelRfl
namespace Go.Proofs.YtnjkmmmfhponlaaGreat
/- THE CELL 'sum', in the pinned program and in every row, IS THE sha256 OF THE DUMP (.gsa) THAT YtnjkmmmfhponlaaGreatProg.lean LOADS. Nothing in Lean hashes anything: it is a label: what it is worth is what the hold of that sum in a sandbox is worth. -/
noncomputable def Tryz.pinned : Pinned := { name := "ytnjkmmmfhponlaagreat", sum := "1bd05735b07a5ef6f7d81e9790770d99f61ef8a90c4d57c6cc17831cb797d868", checked := Tryz.checked }
namespace Rows
def none {H : Type} : Left H := { results := [], args := [] }

/-- 'ordinatelaw11.PeekPlays': WHATEVER THE INPUT: true; the input reads as it did. -/
def peekPlaysSpec : ChangeSpec := { name := "peekPlays", fn := fun _ => fun
  | [d1, d2, d3, d4, d5, d6] => { results := [.lit (.bool true)], args := [d1, d2, d3, d4, d5, d6] }
  | _ => none }
def peekPlaysRow : OpenClaim := { program := "ytnjkmmmfhponlaagreat", sum := "1bd05735b07a5ef6f7d81e9790770d99f61ef8a90c4d57c6cc17831cb797d868", func := "ordinate/ordinatelaw11.PeekPlays", spec := "peekPlays", recurses := true, apart := false }
def PeekPlaysSaid : Prop := peekPlaysRow.holds Tryz.pinned (OpenSpec.ofChange peekPlaysSpec)

/-- ITS FALSE NEIGHBOUR: 'it returns false'. Refute it at one input. -/
def peekPlaysWrong : ChangeSpec := { name := "peekPlays", fn := fun _ => fun
  | [d1, d2, d3, d4, d5, d6] => { results := [.lit (.bool false)], args := [d1, d2, d3, d4, d5, d6] }
  | _ => none }
def PeekPlaysWrongFalsely : Prop := peekPlaysRow.holds Tryz.pinned (OpenSpec.ofChange peekPlaysWrong)

/-- 'ordinatelaw11.PeekMoment': WHATEVER THE INPUT: true; the input reads as it did. -/
def peekMomentSpec : ChangeSpec := { name := "peekMoment", fn := fun _ => fun
  | [d1, d2, d3, d4, d5] => { results := [.lit (.bool true)], args := [d1, d2, d3, d4, d5] }
  | _ => none }
def peekMomentRow : OpenClaim := { program := "ytnjkmmmfhponlaagreat", sum := "1bd05735b07a5ef6f7d81e9790770d99f61ef8a90c4d57c6cc17831cb797d868", func := "ordinate/ordinatelaw11.PeekMoment", spec := "peekMoment", recurses := true, apart := false }
def PeekMomentSaid : Prop := peekMomentRow.holds Tryz.pinned (OpenSpec.ofChange peekMomentSpec)

/-- ITS FALSE NEIGHBOUR: 'it returns false'. Refute it at one input. -/
def peekMomentWrong : ChangeSpec := { name := "peekMoment", fn := fun _ => fun
  | [d1, d2, d3, d4, d5] => { results := [.lit (.bool false)], args := [d1, d2, d3, d4, d5] }
  | _ => none }
def PeekMomentWrongFalsely : Prop := peekMomentRow.holds Tryz.pinned (OpenSpec.ofChange peekMomentWrong)

/-- 'ordinatelaw11.PeekShort': WHATEVER THE INPUT: true; the input reads as it did. -/
def peekShortSpec : ChangeSpec := { name := "peekShort", fn := fun _ => fun
  | [d1, d2, d3, d4, d5] => { results := [.lit (.bool true)], args := [d1, d2, d3, d4, d5] }
  | _ => none }
def peekShortRow : OpenClaim := { program := "ytnjkmmmfhponlaagreat", sum := "1bd05735b07a5ef6f7d81e9790770d99f61ef8a90c4d57c6cc17831cb797d868", func := "ordinate/ordinatelaw11.PeekShort", spec := "peekShort", recurses := true, apart := false }
def PeekShortSaid : Prop := peekShortRow.holds Tryz.pinned (OpenSpec.ofChange peekShortSpec)

/-- ITS FALSE NEIGHBOUR: 'it returns false'. Refute it at one input. -/
def peekShortWrong : ChangeSpec := { name := "peekShort", fn := fun _ => fun
  | [d1, d2, d3, d4, d5] => { results := [.lit (.bool false)], args := [d1, d2, d3, d4, d5] }
  | _ => none }
def PeekShortWrongFalsely : Prop := peekShortRow.holds Tryz.pinned (OpenSpec.ofChange peekShortWrong)

/-- 'ordinatelaw9.ViewSound': WHATEVER THE INPUT: true; the input reads as it did. -/
def viewSoundSpec : ChangeSpec := { name := "viewSound", fn := fun _ => fun
  | [d1, d2, d3, d4, d5] => { results := [.lit (.bool true)], args := [d1, d2, d3, d4, d5] }
  | _ => none }
def viewSoundRow : OpenClaim := { program := "ytnjkmmmfhponlaagreat", sum := "1bd05735b07a5ef6f7d81e9790770d99f61ef8a90c4d57c6cc17831cb797d868", func := "ordinate/ordinatelaw9.ViewSound", spec := "viewSound", unfollowed := true, recurses := true, apart := false }
def ViewSoundSaid : Prop := viewSoundRow.holds Tryz.pinned (OpenSpec.ofChange viewSoundSpec)

/-- ITS FALSE NEIGHBOUR: 'it returns false'. Refute it at one input. -/
def viewSoundWrong : ChangeSpec := { name := "viewSound", fn := fun _ => fun
  | [d1, d2, d3, d4, d5] => { results := [.lit (.bool false)], args := [d1, d2, d3, d4, d5] }
  | _ => none }
def ViewSoundWrongFalsely : Prop := viewSoundRow.holds Tryz.pinned (OpenSpec.ofChange viewSoundWrong)

/-- 'ordinatelaw9.ViewTells': WHATEVER THE INPUT: true; the input reads as it did. -/
def viewTellsSpec : ChangeSpec := { name := "viewTells", fn := fun _ => fun
  | [d1, d2, d3, d4, d5, d6] => { results := [.lit (.bool true)], args := [d1, d2, d3, d4, d5, d6] }
  | _ => none }
def viewTellsRow : OpenClaim := { program := "ytnjkmmmfhponlaagreat", sum := "1bd05735b07a5ef6f7d81e9790770d99f61ef8a90c4d57c6cc17831cb797d868", func := "ordinate/ordinatelaw9.ViewTells", spec := "viewTells", unfollowed := true, recurses := true, apart := false }
def ViewTellsSaid : Prop := viewTellsRow.holds Tryz.pinned (OpenSpec.ofChange viewTellsSpec)

/-- ITS FALSE NEIGHBOUR: 'it returns false'. Refute it at one input. -/
def viewTellsWrong : ChangeSpec := { name := "viewTells", fn := fun _ => fun
  | [d1, d2, d3, d4, d5, d6] => { results := [.lit (.bool false)], args := [d1, d2, d3, d4, d5, d6] }
  | _ => none }
def ViewTellsWrongFalsely : Prop := viewTellsRow.holds Tryz.pinned (OpenSpec.ofChange viewTellsWrong)

/-- 'ordinatelaw9.ViewOrder': WHATEVER THE INPUT: true; the input reads as it did. -/
def viewOrderSpec : ChangeSpec := { name := "viewOrder", fn := fun _ => fun
  | [d1, d2, d3] => { results := [.lit (.bool true)], args := [d1, d2, d3] }
  | _ => none }
def viewOrderRow : OpenClaim := { program := "ytnjkmmmfhponlaagreat", sum := "1bd05735b07a5ef6f7d81e9790770d99f61ef8a90c4d57c6cc17831cb797d868", func := "ordinate/ordinatelaw9.ViewOrder", spec := "viewOrder", unfollowed := true, recurses := true, apart := false }
def ViewOrderSaid : Prop := viewOrderRow.holds Tryz.pinned (OpenSpec.ofChange viewOrderSpec)

/-- ITS FALSE NEIGHBOUR: 'it returns false'. Refute it at one input. -/
def viewOrderWrong : ChangeSpec := { name := "viewOrder", fn := fun _ => fun
  | [d1, d2, d3] => { results := [.lit (.bool false)], args := [d1, d2, d3] }
  | _ => none }
def ViewOrderWrongFalsely : Prop := viewOrderRow.holds Tryz.pinned (OpenSpec.ofChange viewOrderWrong)

/-- 'ordinatelaw9.ViewLeft': WHATEVER THE INPUT: true; the input reads as it did. -/
def viewLeftSpec : ChangeSpec := { name := "viewLeft", fn := fun _ => fun
  | [d1, d2, d3, d4] => { results := [.lit (.bool true)], args := [d1, d2, d3, d4] }
  | _ => none }
def viewLeftRow : OpenClaim := { program := "ytnjkmmmfhponlaagreat", sum := "1bd05735b07a5ef6f7d81e9790770d99f61ef8a90c4d57c6cc17831cb797d868", func := "ordinate/ordinatelaw9.ViewLeft", spec := "viewLeft", unfollowed := true, recurses := true, apart := false }
def ViewLeftSaid : Prop := viewLeftRow.holds Tryz.pinned (OpenSpec.ofChange viewLeftSpec)

/-- ITS FALSE NEIGHBOUR: 'it returns false'. Refute it at one input. -/
def viewLeftWrong : ChangeSpec := { name := "viewLeft", fn := fun _ => fun
  | [d1, d2, d3, d4] => { results := [.lit (.bool false)], args := [d1, d2, d3, d4] }
  | _ => none }
def ViewLeftWrongFalsely : Prop := viewLeftRow.holds Tryz.pinned (OpenSpec.ofChange viewLeftWrong)

/- THE SECOND FORM. 'bulk': how many values and letters a reading holds, each counted each time it is reached (what is shared counts as often as it is met; a slice's spare places count too). A statement '..UptoSaid' is the law's where the arguments, and the package variables that the reading takes, are together of bulk at most 1048576: NARROWER than '..Said'. Prove '..Said' where nothing that the law and all that it calls make is longer than what came in: it says more and counts as full. Else prove '..UptoSaid'. A law counts once. -/
mutual
def uptoBulk {H : Type} : DataW H → Nat
  | .lit (.string bytes) => bytes.length + 1
  | .lit _ => 1
  | .nil => 1
  | .ptr d => uptoBulk d + 1
  | .slice elems spare => uptoBulkAll elems + uptoBulkAll spare + 1
  | .agg parts => uptoBulkAll parts + 1
  | .iface _ d => uptoBulk d + 1
  | .map entries => uptoBulkEntries entries + 1
  | .held _ => 1
def uptoBulkAll {H : Type} : List (DataW H) → Nat
  | [] => 0
  | d :: r => uptoBulk d + uptoBulkAll r
def uptoBulkEntries {H : Type} : List (Lit × DataW H) → Nat
  | [] => 0
  | x :: r => uptoBulkEntry x + uptoBulkEntries r
def uptoBulkEntry {H : Type} : Lit × DataW H → Nat
  | (.string bytes, d) => bytes.length + uptoBulk d + 1
  | (_, d) => uptoBulk d + 1
 end
def uptoSmall : (H : Type) → List (DataW H) → Bool := fun _ ds => decide (uptoBulkAll ds ≤ 1048576)
def OpenSpec.upto (s : _root_.Go.ChangeSpec) : _root_.Go.OpenSpec := { _root_.Go.OpenSpec.ofChange s with cond := some uptoSmall }

/-- 'ordinatelaw11.PeekPlays', WHERE WHAT IT READS IS OF BULK AT MOST 1048576: true; the input reads as it did. -/
def peekPlaysUptoRow : OpenClaim := { program := "ytnjkmmmfhponlaagreat", sum := "1bd05735b07a5ef6f7d81e9790770d99f61ef8a90c4d57c6cc17831cb797d868", func := "ordinate/ordinatelaw11.PeekPlays", spec := "peekPlays", recurses := true, apart := false, narrowed := true }
def PeekPlaysUptoSaid : Prop := peekPlaysUptoRow.holds Tryz.pinned (OpenSpec.upto peekPlaysSpec)

/-- 'ordinatelaw11.PeekMoment', WHERE WHAT IT READS IS OF BULK AT MOST 1048576: true; the input reads as it did. -/
def peekMomentUptoRow : OpenClaim := { program := "ytnjkmmmfhponlaagreat", sum := "1bd05735b07a5ef6f7d81e9790770d99f61ef8a90c4d57c6cc17831cb797d868", func := "ordinate/ordinatelaw11.PeekMoment", spec := "peekMoment", recurses := true, apart := false, narrowed := true }
def PeekMomentUptoSaid : Prop := peekMomentUptoRow.holds Tryz.pinned (OpenSpec.upto peekMomentSpec)

/-- 'ordinatelaw11.PeekShort', WHERE WHAT IT READS IS OF BULK AT MOST 1048576: true; the input reads as it did. -/
def peekShortUptoRow : OpenClaim := { program := "ytnjkmmmfhponlaagreat", sum := "1bd05735b07a5ef6f7d81e9790770d99f61ef8a90c4d57c6cc17831cb797d868", func := "ordinate/ordinatelaw11.PeekShort", spec := "peekShort", recurses := true, apart := false, narrowed := true }
def PeekShortUptoSaid : Prop := peekShortUptoRow.holds Tryz.pinned (OpenSpec.upto peekShortSpec)

/-- 'ordinatelaw9.ViewSound', WHERE WHAT IT READS IS OF BULK AT MOST 1048576: true; the input reads as it did. -/
def viewSoundUptoRow : OpenClaim := { program := "ytnjkmmmfhponlaagreat", sum := "1bd05735b07a5ef6f7d81e9790770d99f61ef8a90c4d57c6cc17831cb797d868", func := "ordinate/ordinatelaw9.ViewSound", spec := "viewSound", unfollowed := true, recurses := true, apart := false, narrowed := true }
def ViewSoundUptoSaid : Prop := viewSoundUptoRow.holds Tryz.pinned (OpenSpec.upto viewSoundSpec)

/-- 'ordinatelaw9.ViewTells', WHERE WHAT IT READS IS OF BULK AT MOST 1048576: true; the input reads as it did. -/
def viewTellsUptoRow : OpenClaim := { program := "ytnjkmmmfhponlaagreat", sum := "1bd05735b07a5ef6f7d81e9790770d99f61ef8a90c4d57c6cc17831cb797d868", func := "ordinate/ordinatelaw9.ViewTells", spec := "viewTells", unfollowed := true, recurses := true, apart := false, narrowed := true }
def ViewTellsUptoSaid : Prop := viewTellsUptoRow.holds Tryz.pinned (OpenSpec.upto viewTellsSpec)

/-- 'ordinatelaw9.ViewOrder', WHERE WHAT IT READS IS OF BULK AT MOST 1048576: true; the input reads as it did. -/
def viewOrderUptoRow : OpenClaim := { program := "ytnjkmmmfhponlaagreat", sum := "1bd05735b07a5ef6f7d81e9790770d99f61ef8a90c4d57c6cc17831cb797d868", func := "ordinate/ordinatelaw9.ViewOrder", spec := "viewOrder", unfollowed := true, recurses := true, apart := false, narrowed := true }
def ViewOrderUptoSaid : Prop := viewOrderUptoRow.holds Tryz.pinned (OpenSpec.upto viewOrderSpec)

/-- 'ordinatelaw9.ViewLeft', WHERE WHAT IT READS IS OF BULK AT MOST 1048576: true; the input reads as it did. -/
def viewLeftUptoRow : OpenClaim := { program := "ytnjkmmmfhponlaagreat", sum := "1bd05735b07a5ef6f7d81e9790770d99f61ef8a90c4d57c6cc17831cb797d868", func := "ordinate/ordinatelaw9.ViewLeft", spec := "viewLeft", unfollowed := true, recurses := true, apart := false, narrowed := true }
def ViewLeftUptoSaid : Prop := viewLeftUptoRow.holds Tryz.pinned (OpenSpec.upto viewLeftSpec)

end Rows
end Go.Proofs.YtnjkmmmfhponlaaGreat
