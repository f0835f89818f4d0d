/-
  No cell of these rows narrows 'for every input' (looked for: loops, veiled, ifaces, maps, wideKeys, modest, calm, conditions, laid).
  DERIVED. THE GIVEN ROWS OF THIS SEAT. 5 by the template 'for every input the law returns true; each argument reads behind the call as it read before'; 0 by the template 'total and deterministic' (their statements: YtokhlbjkbofikaaTotals.lean).
  GIVEN WITH THE SEED: the statements are not yours to turn. If you find one false, say at which input.
  Laid BY PROGRAM, IN A SANDBOX (cutbox-rows.mjs): the forced cells as the released guide's own fill.sh prints them over the translation 59cf15f309b0dab0… (all of the seat's roots in one cut). By AI agents, Wed Nov 11 2026. No macro, syntax, notation, axiom, sorry.
-/
import Derived.Test.YtokhlbjkbofikaaChecked
import GoSem.Claim
import GoSem.ClaimJoined
import GoSem.ClaimMapViews
import Derived.JoinedTies
import Derived.KernelRfl
namespace Go.Proofs.Ytokhlbjkbofikaa
/- THE CELL 'sum', in the pinned program and in every row, IS THE sha256 OF THE DUMP (.gsa) THAT YtokhlbjkbofikaaProg.lean LOADS. Nothing in Lean hashes anything: it is a label: what it is worth is what the hold of that sum in a sandbox is worth. -/
noncomputable def Try.pinned : Pinned := { name := "ytokhlbjkbofikaa", sum := "59cf15f309b0dab0ea62dbef9ee1a0f2bd4a1b3fe2a89275dea2983e12d0273c", checked := Try.checked }
namespace Rows
def none {H : Type} : Left H := { results := [], args := [] }

/-- 'ordinatelaw1.RefKnown': WHATEVER THE INPUT: true; the input reads as it did. -/
def refKnownSpec : ChangeSpec := { name := "refKnown", fn := fun _ => fun
  | [] => { results := [.lit (.bool true)], args := [] }
  | _ => none }
def refKnownRow : OpenClaim := { program := "ytokhlbjkbofikaa", sum := "59cf15f309b0dab0ea62dbef9ee1a0f2bd4a1b3fe2a89275dea2983e12d0273c", func := "ordinate/ordinatelaw1.RefKnown", spec := "refKnown", apart := false }
def RefKnownSaid : Prop := refKnownRow.holds Try.pinned (OpenSpec.ofChange refKnownSpec)

/-- ITS FALSE NEIGHBOUR: 'it returns false'. Refute it at one input. -/
def refKnownWrong : ChangeSpec := { name := "refKnown", fn := fun _ => fun
  | [] => { results := [.lit (.bool false)], args := [] }
  | _ => none }
def RefKnownWrongFalsely : Prop := refKnownRow.holds Try.pinned (OpenSpec.ofChange refKnownWrong)

/-- 'ordinatelaw1.RefTells': WHATEVER THE INPUT: true; the input reads as it did. -/
def refTellsSpec : ChangeSpec := { name := "refTells", fn := fun _ => fun
  | [d1, d2, d3] => { results := [.lit (.bool true)], args := [d1, d2, d3] }
  | _ => none }
def refTellsRow : OpenClaim := { program := "ytokhlbjkbofikaa", sum := "59cf15f309b0dab0ea62dbef9ee1a0f2bd4a1b3fe2a89275dea2983e12d0273c", func := "ordinate/ordinatelaw1.RefTells", spec := "refTells", apart := false }
def RefTellsSaid : Prop := refTellsRow.holds Try.pinned (OpenSpec.ofChange refTellsSpec)

/-- ITS FALSE NEIGHBOUR: 'it returns false'. Refute it at one input. -/
def refTellsWrong : ChangeSpec := { name := "refTells", fn := fun _ => fun
  | [d1, d2, d3] => { results := [.lit (.bool false)], args := [d1, d2, d3] }
  | _ => none }
def RefTellsWrongFalsely : Prop := refTellsRow.holds Try.pinned (OpenSpec.ofChange refTellsWrong)

/-- 'ordinatelaw1.RefBack': WHATEVER THE INPUT: true; the input reads as it did. -/
def refBackSpec : ChangeSpec := { name := "refBack", fn := fun _ => fun
  | [d1, d2, d3] => { results := [.lit (.bool true)], args := [d1, d2, d3] }
  | _ => none }
def refBackRow : OpenClaim := { program := "ytokhlbjkbofikaa", sum := "59cf15f309b0dab0ea62dbef9ee1a0f2bd4a1b3fe2a89275dea2983e12d0273c", func := "ordinate/ordinatelaw1.RefBack", spec := "refBack", apart := false }
def RefBackSaid : Prop := refBackRow.holds Try.pinned (OpenSpec.ofChange refBackSpec)

/-- ITS FALSE NEIGHBOUR: 'it returns false'. Refute it at one input. -/
def refBackWrong : ChangeSpec := { name := "refBack", fn := fun _ => fun
  | [d1, d2, d3] => { results := [.lit (.bool false)], args := [d1, d2, d3] }
  | _ => none }
def RefBackWrongFalsely : Prop := refBackRow.holds Try.pinned (OpenSpec.ofChange refBackWrong)

/-- 'ordinatelaw1.RefOne': WHATEVER THE INPUT: true; the input reads as it did. -/
def refOneSpec : ChangeSpec := { name := "refOne", fn := fun _ => fun
  | [d1, d2, d3, d4] => { results := [.lit (.bool true)], args := [d1, d2, d3, d4] }
  | _ => none }
def refOneRow : OpenClaim := { program := "ytokhlbjkbofikaa", sum := "59cf15f309b0dab0ea62dbef9ee1a0f2bd4a1b3fe2a89275dea2983e12d0273c", func := "ordinate/ordinatelaw1.RefOne", spec := "refOne", apart := false }
def RefOneSaid : Prop := refOneRow.holds Try.pinned (OpenSpec.ofChange refOneSpec)

/-- ITS FALSE NEIGHBOUR: 'it returns false'. Refute it at one input. -/
def refOneWrong : ChangeSpec := { name := "refOne", fn := fun _ => fun
  | [d1, d2, d3, d4] => { results := [.lit (.bool false)], args := [d1, d2, d3, d4] }
  | _ => none }
def RefOneWrongFalsely : Prop := refOneRow.holds Try.pinned (OpenSpec.ofChange refOneWrong)

/-- 'ordinatelaw1.RefNear': WHATEVER THE INPUT: true; the input reads as it did. -/
def refNearSpec : ChangeSpec := { name := "refNear", fn := fun _ => fun
  | [d1, d2, d3] => { results := [.lit (.bool true)], args := [d1, d2, d3] }
  | _ => none }
def refNearRow : OpenClaim := { program := "ytokhlbjkbofikaa", sum := "59cf15f309b0dab0ea62dbef9ee1a0f2bd4a1b3fe2a89275dea2983e12d0273c", func := "ordinate/ordinatelaw1.RefNear", spec := "refNear", apart := false }
def RefNearSaid : Prop := refNearRow.holds Try.pinned (OpenSpec.ofChange refNearSpec)

/-- ITS FALSE NEIGHBOUR: 'it returns false'. Refute it at one input. -/
def refNearWrong : ChangeSpec := { name := "refNear", fn := fun _ => fun
  | [d1, d2, d3] => { results := [.lit (.bool false)], args := [d1, d2, d3] }
  | _ => none }
def RefNearWrongFalsely : Prop := refNearRow.holds Try.pinned (OpenSpec.ofChange refNearWrong)

/- THE SECOND FORM. 'bulk': how many values and letters a reading holds, each counted each time it is reached (what is shared counts as often as it is met; a slice's spare places count too). A statement '..UptoSaid' is the law's where the arguments, and the package variables that the reading takes, are together of bulk at most 1048576: NARROWER than '..Said'. Prove '..Said' where nothing that the law and all that it calls make is longer than what came in: it says more and counts as full. Else prove '..UptoSaid'. A law counts once. -/
mutual
def uptoBulk {H : Type} : DataW H → Nat
  | .lit (.string bytes) => bytes.length + 1
  | .lit _ => 1
  | .nil => 1
  | .ptr d => uptoBulk d + 1
  | .slice elems spare => uptoBulkAll elems + uptoBulkAll spare + 1
  | .agg parts => uptoBulkAll parts + 1
  | .iface _ d => uptoBulk d + 1
  | .map entries => uptoBulkEntries entries + 1
  | .held _ => 1
def uptoBulkAll {H : Type} : List (DataW H) → Nat
  | [] => 0
  | d :: r => uptoBulk d + uptoBulkAll r
def uptoBulkEntries {H : Type} : List (Lit × DataW H) → Nat
  | [] => 0
  | x :: r => uptoBulkEntry x + uptoBulkEntries r
def uptoBulkEntry {H : Type} : Lit × DataW H → Nat
  | (.string bytes, d) => bytes.length + uptoBulk d + 1
  | (_, d) => uptoBulk d + 1
 end
def uptoSmall : (H : Type) → List (DataW H) → Bool := fun _ ds => decide (uptoBulkAll ds ≤ 1048576)
def OpenSpec.upto (s : _root_.Go.ChangeSpec) : _root_.Go.OpenSpec := { _root_.Go.OpenSpec.ofChange s with cond := some uptoSmall }

/-- 'ordinatelaw1.RefKnown', WHERE WHAT IT READS IS OF BULK AT MOST 1048576: true; the input reads as it did. -/
def refKnownUptoRow : OpenClaim := { program := "ytokhlbjkbofikaa", sum := "59cf15f309b0dab0ea62dbef9ee1a0f2bd4a1b3fe2a89275dea2983e12d0273c", func := "ordinate/ordinatelaw1.RefKnown", spec := "refKnown", apart := false, narrowed := true }
def RefKnownUptoSaid : Prop := refKnownUptoRow.holds Try.pinned (OpenSpec.upto refKnownSpec)

/-- 'ordinatelaw1.RefTells', WHERE WHAT IT READS IS OF BULK AT MOST 1048576: true; the input reads as it did. -/
def refTellsUptoRow : OpenClaim := { program := "ytokhlbjkbofikaa", sum := "59cf15f309b0dab0ea62dbef9ee1a0f2bd4a1b3fe2a89275dea2983e12d0273c", func := "ordinate/ordinatelaw1.RefTells", spec := "refTells", apart := false, narrowed := true }
def RefTellsUptoSaid : Prop := refTellsUptoRow.holds Try.pinned (OpenSpec.upto refTellsSpec)

/-- 'ordinatelaw1.RefBack', WHERE WHAT IT READS IS OF BULK AT MOST 1048576: true; the input reads as it did. -/
def refBackUptoRow : OpenClaim := { program := "ytokhlbjkbofikaa", sum := "59cf15f309b0dab0ea62dbef9ee1a0f2bd4a1b3fe2a89275dea2983e12d0273c", func := "ordinate/ordinatelaw1.RefBack", spec := "refBack", apart := false, narrowed := true }
def RefBackUptoSaid : Prop := refBackUptoRow.holds Try.pinned (OpenSpec.upto refBackSpec)

/-- 'ordinatelaw1.RefOne', WHERE WHAT IT READS IS OF BULK AT MOST 1048576: true; the input reads as it did. -/
def refOneUptoRow : OpenClaim := { program := "ytokhlbjkbofikaa", sum := "59cf15f309b0dab0ea62dbef9ee1a0f2bd4a1b3fe2a89275dea2983e12d0273c", func := "ordinate/ordinatelaw1.RefOne", spec := "refOne", apart := false, narrowed := true }
def RefOneUptoSaid : Prop := refOneUptoRow.holds Try.pinned (OpenSpec.upto refOneSpec)

/-- 'ordinatelaw1.RefNear', WHERE WHAT IT READS IS OF BULK AT MOST 1048576: true; the input reads as it did. -/
def refNearUptoRow : OpenClaim := { program := "ytokhlbjkbofikaa", sum := "59cf15f309b0dab0ea62dbef9ee1a0f2bd4a1b3fe2a89275dea2983e12d0273c", func := "ordinate/ordinatelaw1.RefNear", spec := "refNear", apart := false, narrowed := true }
def RefNearUptoSaid : Prop := refNearUptoRow.holds Try.pinned (OpenSpec.upto refNearSpec)

end Rows
end Go.Proofs.Ytokhlbjkbofikaa
