/-
  No cell of these rows narrows 'for every input' (looked for: loops, veiled, ifaces, maps, wideKeys, modest, calm, conditions, laid).
  DERIVED. THE GIVEN ROWS OF THIS SEAT. 6 by the template 'for every input the law returns true; each argument reads behind the call as it read before'; 0 by the template 'total and deterministic' (their statements: YtoaicedkepcalaaGreatTotals.lean).
  GIVEN WITH THE SEED: the statements are not yours to turn. If you find one false, say at which input.
  Laid BY PROGRAM, IN A SANDBOX (cutbox-rows.mjs): the forced cells as the released guide's own fill.sh prints them over the translation f924b1f70f89ac95… (all of the seat's roots in one cut). By AI agents, Wed Nov 11 2026. No macro, syntax, notation, axiom, sorry.
-/
import Derived.Test.YtoaicedkepcalaaGreatChecked
import GoSem.Claim
import GoSem.ClaimJoined
import GoSem.ClaimMapViews
import Derived.JoinedTies
import Derived.KernelRfl
namespace Go.Proofs.YtoaicedkepcalaaGreat
/- THE CELL 'sum', in the pinned program and in every row, IS THE sha256 OF THE DUMP (.gsa) THAT YtoaicedkepcalaaGreatProg.lean LOADS. Nothing in Lean hashes anything: it is a label: what it is worth is what the hold of that sum in a sandbox is worth. -/
noncomputable def Tryz.pinned : Pinned := { name := "ytoaicedkepcalaagreat", sum := "f924b1f70f89ac95d6437c6f1c86da9738b70e26240eb3b4c66689627d45c349", checked := Tryz.checked }
namespace Rows
def none {H : Type} : Left H := { results := [], args := [] }

/-- 'ordinatelaw11.PeekPlays': WHATEVER THE INPUT: true; the input reads as it did. -/
def peekPlaysSpec : ChangeSpec := { name := "peekPlays", fn := fun _ => fun
  | [d1, d2, d3, d4, d5, d6] => { results := [.lit (.bool true)], args := [d1, d2, d3, d4, d5, d6] }
  | _ => none }
def peekPlaysRow : OpenClaim := { program := "ytoaicedkepcalaagreat", sum := "f924b1f70f89ac95d6437c6f1c86da9738b70e26240eb3b4c66689627d45c349", func := "ordinate/ordinatelaw11.PeekPlays", spec := "peekPlays", recurses := true, apart := false }
def PeekPlaysSaid : Prop := peekPlaysRow.holds Tryz.pinned (OpenSpec.ofChange peekPlaysSpec)

/-- ITS FALSE NEIGHBOUR: 'it returns false'. Refute it at one input. -/
def peekPlaysWrong : ChangeSpec := { name := "peekPlays", fn := fun _ => fun
  | [d1, d2, d3, d4, d5, d6] => { results := [.lit (.bool false)], args := [d1, d2, d3, d4, d5, d6] }
  | _ => none }
def PeekPlaysWrongFalsely : Prop := peekPlaysRow.holds Tryz.pinned (OpenSpec.ofChange peekPlaysWrong)

/-- 'ordinatelaw11.PeekMoment': WHATEVER THE INPUT: true; the input reads as it did. -/
def peekMomentSpec : ChangeSpec := { name := "peekMoment", fn := fun _ => fun
  | [d1, d2, d3, d4, d5] => { results := [.lit (.bool true)], args := [d1, d2, d3, d4, d5] }
  | _ => none }
def peekMomentRow : OpenClaim := { program := "ytoaicedkepcalaagreat", sum := "f924b1f70f89ac95d6437c6f1c86da9738b70e26240eb3b4c66689627d45c349", func := "ordinate/ordinatelaw11.PeekMoment", spec := "peekMoment", recurses := true, apart := false }
def PeekMomentSaid : Prop := peekMomentRow.holds Tryz.pinned (OpenSpec.ofChange peekMomentSpec)

/-- ITS FALSE NEIGHBOUR: 'it returns false'. Refute it at one input. -/
def peekMomentWrong : ChangeSpec := { name := "peekMoment", fn := fun _ => fun
  | [d1, d2, d3, d4, d5] => { results := [.lit (.bool false)], args := [d1, d2, d3, d4, d5] }
  | _ => none }
def PeekMomentWrongFalsely : Prop := peekMomentRow.holds Tryz.pinned (OpenSpec.ofChange peekMomentWrong)

/-- 'ordinatelaw12.HelpPlays': WHATEVER THE INPUT: true; the input reads as it did. -/
def helpPlaysSpec : ChangeSpec := { name := "helpPlays", fn := fun _ => fun
  | [d1, d2, d3, d4, d5, d6] => { results := [.lit (.bool true)], args := [d1, d2, d3, d4, d5, d6] }
  | _ => none }
def helpPlaysRow : OpenClaim := { program := "ytoaicedkepcalaagreat", sum := "f924b1f70f89ac95d6437c6f1c86da9738b70e26240eb3b4c66689627d45c349", func := "ordinate/ordinatelaw12.HelpPlays", spec := "helpPlays", recurses := true, apart := false }
def HelpPlaysSaid : Prop := helpPlaysRow.holds Tryz.pinned (OpenSpec.ofChange helpPlaysSpec)

/-- ITS FALSE NEIGHBOUR: 'it returns false'. Refute it at one input. -/
def helpPlaysWrong : ChangeSpec := { name := "helpPlays", fn := fun _ => fun
  | [d1, d2, d3, d4, d5, d6] => { results := [.lit (.bool false)], args := [d1, d2, d3, d4, d5, d6] }
  | _ => none }
def HelpPlaysWrongFalsely : Prop := helpPlaysRow.holds Tryz.pinned (OpenSpec.ofChange helpPlaysWrong)

/-- 'ordinatelaw13.ReadPlays': WHATEVER THE INPUT: true; the input reads as it did. -/
def readPlaysSpec : ChangeSpec := { name := "readPlays", fn := fun _ => fun
  | [d1, d2, d3, d4, d5, d6, d7] => { results := [.lit (.bool true)], args := [d1, d2, d3, d4, d5, d6, d7] }
  | _ => none }
def readPlaysRow : OpenClaim := { program := "ytoaicedkepcalaagreat", sum := "f924b1f70f89ac95d6437c6f1c86da9738b70e26240eb3b4c66689627d45c349", func := "ordinate/ordinatelaw13.ReadPlays", spec := "readPlays", recurses := true, apart := false }
def ReadPlaysSaid : Prop := readPlaysRow.holds Tryz.pinned (OpenSpec.ofChange readPlaysSpec)

/-- ITS FALSE NEIGHBOUR: 'it returns false'. Refute it at one input. -/
def readPlaysWrong : ChangeSpec := { name := "readPlays", fn := fun _ => fun
  | [d1, d2, d3, d4, d5, d6, d7] => { results := [.lit (.bool false)], args := [d1, d2, d3, d4, d5, d6, d7] }
  | _ => none }
def ReadPlaysWrongFalsely : Prop := readPlaysRow.holds Tryz.pinned (OpenSpec.ofChange readPlaysWrong)

/-- 'ordinatelaw13.ReadClean': WHATEVER THE INPUT: true; the input reads as it did. -/
def readCleanSpec : ChangeSpec := { name := "readClean", fn := fun _ => fun
  | [d1, d2, d3, d4, d5, d6] => { results := [.lit (.bool true)], args := [d1, d2, d3, d4, d5, d6] }
  | _ => none }
def readCleanRow : OpenClaim := { program := "ytoaicedkepcalaagreat", sum := "f924b1f70f89ac95d6437c6f1c86da9738b70e26240eb3b4c66689627d45c349", func := "ordinate/ordinatelaw13.ReadClean", spec := "readClean", recurses := true, apart := false }
def ReadCleanSaid : Prop := readCleanRow.holds Tryz.pinned (OpenSpec.ofChange readCleanSpec)

/-- ITS FALSE NEIGHBOUR: 'it returns false'. Refute it at one input. -/
def readCleanWrong : ChangeSpec := { name := "readClean", fn := fun _ => fun
  | [d1, d2, d3, d4, d5, d6] => { results := [.lit (.bool false)], args := [d1, d2, d3, d4, d5, d6] }
  | _ => none }
def ReadCleanWrongFalsely : Prop := readCleanRow.holds Tryz.pinned (OpenSpec.ofChange readCleanWrong)

/-- 'ordinatelaw14.DcssPlays': WHATEVER THE INPUT: true; the input reads as it did. -/
def dcssPlaysSpec : ChangeSpec := { name := "dcssPlays", fn := fun _ => fun
  | [d1, d2, d3, d4, d5, d6] => { results := [.lit (.bool true)], args := [d1, d2, d3, d4, d5, d6] }
  | _ => none }
def dcssPlaysRow : OpenClaim := { program := "ytoaicedkepcalaagreat", sum := "f924b1f70f89ac95d6437c6f1c86da9738b70e26240eb3b4c66689627d45c349", func := "ordinate/ordinatelaw14.DcssPlays", spec := "dcssPlays", recurses := true, apart := false }
def DcssPlaysSaid : Prop := dcssPlaysRow.holds Tryz.pinned (OpenSpec.ofChange dcssPlaysSpec)

/-- ITS FALSE NEIGHBOUR: 'it returns false'. Refute it at one input. -/
def dcssPlaysWrong : ChangeSpec := { name := "dcssPlays", fn := fun _ => fun
  | [d1, d2, d3, d4, d5, d6] => { results := [.lit (.bool false)], args := [d1, d2, d3, d4, d5, d6] }
  | _ => none }
def DcssPlaysWrongFalsely : Prop := dcssPlaysRow.holds Tryz.pinned (OpenSpec.ofChange dcssPlaysWrong)

/- THE SECOND FORM. 'bulk': how many values and letters a reading holds, each counted each time it is reached (what is shared counts as often as it is met; a slice's spare places count too). A statement '..UptoSaid' is the law's where the arguments, and the package variables that the reading takes, are together of bulk at most 1048576: NARROWER than '..Said'. Prove '..Said' where nothing that the law and all that it calls make is longer than what came in: it says more and counts as full. Else prove '..UptoSaid'. A law counts once. -/
mutual
def uptoBulk {H : Type} : DataW H → Nat
  | .lit (.string bytes) => bytes.length + 1
  | .lit _ => 1
  | .nil => 1
  | .ptr d => uptoBulk d + 1
  | .slice elems spare => uptoBulkAll elems + uptoBulkAll spare + 1
  | .agg parts => uptoBulkAll parts + 1
  | .iface _ d => uptoBulk d + 1
  | .map entries => uptoBulkEntries entries + 1
  | .held _ => 1
def uptoBulkAll {H : Type} : List (DataW H) → Nat
  | [] => 0
  | d :: r => uptoBulk d + uptoBulkAll r
def uptoBulkEntries {H : Type} : List (Lit × DataW H) → Nat
  | [] => 0
  | x :: r => uptoBulkEntry x + uptoBulkEntries r
def uptoBulkEntry {H : Type} : Lit × DataW H → Nat
  | (.string bytes, d) => bytes.length + uptoBulk d + 1
  | (_, d) => uptoBulk d + 1
 end
def uptoSmall : (H : Type) → List (DataW H) → Bool := fun _ ds => decide (uptoBulkAll ds ≤ 1048576)
def OpenSpec.upto (s : _root_.Go.ChangeSpec) : _root_.Go.OpenSpec := { _root_.Go.OpenSpec.ofChange s with cond := some uptoSmall }

/-- 'ordinatelaw11.PeekPlays', WHERE WHAT IT READS IS OF BULK AT MOST 1048576: true; the input reads as it did. -/
def peekPlaysUptoRow : OpenClaim := { program := "ytoaicedkepcalaagreat", sum := "f924b1f70f89ac95d6437c6f1c86da9738b70e26240eb3b4c66689627d45c349", func := "ordinate/ordinatelaw11.PeekPlays", spec := "peekPlays", recurses := true, apart := false, narrowed := true }
def PeekPlaysUptoSaid : Prop := peekPlaysUptoRow.holds Tryz.pinned (OpenSpec.upto peekPlaysSpec)

/-- 'ordinatelaw11.PeekMoment', WHERE WHAT IT READS IS OF BULK AT MOST 1048576: true; the input reads as it did. -/
def peekMomentUptoRow : OpenClaim := { program := "ytoaicedkepcalaagreat", sum := "f924b1f70f89ac95d6437c6f1c86da9738b70e26240eb3b4c66689627d45c349", func := "ordinate/ordinatelaw11.PeekMoment", spec := "peekMoment", recurses := true, apart := false, narrowed := true }
def PeekMomentUptoSaid : Prop := peekMomentUptoRow.holds Tryz.pinned (OpenSpec.upto peekMomentSpec)

/-- 'ordinatelaw12.HelpPlays', WHERE WHAT IT READS IS OF BULK AT MOST 1048576: true; the input reads as it did. -/
def helpPlaysUptoRow : OpenClaim := { program := "ytoaicedkepcalaagreat", sum := "f924b1f70f89ac95d6437c6f1c86da9738b70e26240eb3b4c66689627d45c349", func := "ordinate/ordinatelaw12.HelpPlays", spec := "helpPlays", recurses := true, apart := false, narrowed := true }
def HelpPlaysUptoSaid : Prop := helpPlaysUptoRow.holds Tryz.pinned (OpenSpec.upto helpPlaysSpec)

/-- 'ordinatelaw13.ReadPlays', WHERE WHAT IT READS IS OF BULK AT MOST 1048576: true; the input reads as it did. -/
def readPlaysUptoRow : OpenClaim := { program := "ytoaicedkepcalaagreat", sum := "f924b1f70f89ac95d6437c6f1c86da9738b70e26240eb3b4c66689627d45c349", func := "ordinate/ordinatelaw13.ReadPlays", spec := "readPlays", recurses := true, apart := false, narrowed := true }
def ReadPlaysUptoSaid : Prop := readPlaysUptoRow.holds Tryz.pinned (OpenSpec.upto readPlaysSpec)

/-- 'ordinatelaw13.ReadClean', WHERE WHAT IT READS IS OF BULK AT MOST 1048576: true; the input reads as it did. -/
def readCleanUptoRow : OpenClaim := { program := "ytoaicedkepcalaagreat", sum := "f924b1f70f89ac95d6437c6f1c86da9738b70e26240eb3b4c66689627d45c349", func := "ordinate/ordinatelaw13.ReadClean", spec := "readClean", recurses := true, apart := false, narrowed := true }
def ReadCleanUptoSaid : Prop := readCleanUptoRow.holds Tryz.pinned (OpenSpec.upto readCleanSpec)

/-- 'ordinatelaw14.DcssPlays', WHERE WHAT IT READS IS OF BULK AT MOST 1048576: true; the input reads as it did. -/
def dcssPlaysUptoRow : OpenClaim := { program := "ytoaicedkepcalaagreat", sum := "f924b1f70f89ac95d6437c6f1c86da9738b70e26240eb3b4c66689627d45c349", func := "ordinate/ordinatelaw14.DcssPlays", spec := "dcssPlays", recurses := true, apart := false, narrowed := true }
def DcssPlaysUptoSaid : Prop := dcssPlaysUptoRow.holds Tryz.pinned (OpenSpec.upto dcssPlaysSpec)

end Rows
end Go.Proofs.YtoaicedkepcalaaGreat
