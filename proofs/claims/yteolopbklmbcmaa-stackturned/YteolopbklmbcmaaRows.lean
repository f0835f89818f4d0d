/-
  No cell of these rows narrows 'for every input' (looked for: loops, veiled, ifaces, maps, wideKeys, modest, calm, conditions, laid).
  DERIVED. THE GIVEN ROWS OF THIS SEAT. 5 by the template 'for every input the law returns true; each argument reads behind the call as it read before'; 0 by the template 'total and deterministic' (their statements: YteolopbklmbcmaaTotals.lean).
  GIVEN WITH THE SEED: the statements are not yours to turn. If you find one false, say at which input.
  Laid BY PROGRAM, IN A SANDBOX (cutbox-rows.mjs): the forced cells as the released guide's own fill.sh prints them over the translation 2bb8be8022b21f2d… (all of the seat's roots in one cut). By AI agents, Wed Nov 11 2026. No macro, syntax, notation, axiom, sorry.
-/
import Derived.Test.YteolopbklmbcmaaChecked
import GoSem.Claim
import GoSem.ClaimJoined
import GoSem.ClaimMapViews
import Derived.JoinedTies
import Derived.KernelRfl
namespace Go.Proofs.Yteolopbklmbcmaa
/- THE CELL 'sum', in the pinned program and in every row, IS THE sha256 OF THE DUMP (.gsa) THAT YteolopbklmbcmaaProg.lean LOADS. Nothing in Lean hashes anything: it is a label: what it is worth is what the hold of that sum in a sandbox is worth. -/
noncomputable def Try.pinned : Pinned := { name := "yteolopbklmbcmaa", sum := "2bb8be8022b21f2d47a62d7f4976c6e1066c6b768fadd71506fe5c6336c70cf8", checked := Try.checked }
namespace Rows
def none {H : Type} : Left H := { results := [], args := [] }

/-- 'ordinatelaw3.StackKnown': WHATEVER THE INPUT: true; the input reads as it did. -/
def stackKnownSpec : ChangeSpec := { name := "stackKnown", fn := fun _ => fun
  | [] => { results := [.lit (.bool true)], args := [] }
  | _ => none }
def stackKnownRow : OpenClaim := { program := "yteolopbklmbcmaa", sum := "2bb8be8022b21f2d47a62d7f4976c6e1066c6b768fadd71506fe5c6336c70cf8", func := "ordinate/ordinatelaw3.StackKnown", spec := "stackKnown", unfollowed := true, recurses := true, apart := false }
def StackKnownSaid : Prop := stackKnownRow.holds Try.pinned (OpenSpec.ofChange stackKnownSpec)

/-- ITS FALSE NEIGHBOUR: 'it returns false'. Refute it at one input. -/
def stackKnownWrong : ChangeSpec := { name := "stackKnown", fn := fun _ => fun
  | [] => { results := [.lit (.bool false)], args := [] }
  | _ => none }
def StackKnownWrongFalsely : Prop := stackKnownRow.holds Try.pinned (OpenSpec.ofChange stackKnownWrong)

/-- 'ordinatelaw3.StackPlays': WHATEVER THE INPUT: true; the input reads as it did. -/
def stackPlaysSpec : ChangeSpec := { name := "stackPlays", fn := fun _ => fun
  | [d] => { results := [.lit (.bool true)], args := [d] }
  | _ => none }
def stackPlaysRow : OpenClaim := { program := "yteolopbklmbcmaa", sum := "2bb8be8022b21f2d47a62d7f4976c6e1066c6b768fadd71506fe5c6336c70cf8", func := "ordinate/ordinatelaw3.StackPlays", spec := "stackPlays", unfollowed := true, recurses := true, apart := false }
def StackPlaysSaid : Prop := stackPlaysRow.holds Try.pinned (OpenSpec.ofChange stackPlaysSpec)

/-- ITS FALSE NEIGHBOUR: 'it returns false'. Refute it at one input. -/
def stackPlaysWrong : ChangeSpec := { name := "stackPlays", fn := fun _ => fun
  | [d] => { results := [.lit (.bool false)], args := [d] }
  | _ => none }
def StackPlaysWrongFalsely : Prop := stackPlaysRow.holds Try.pinned (OpenSpec.ofChange stackPlaysWrong)

/-- 'ordinatelaw3.StackLeft': WHATEVER THE INPUT: true; the input reads as it did. -/
def stackLeftSpec : ChangeSpec := { name := "stackLeft", fn := fun _ => fun
  | [d1, d2] => { results := [.lit (.bool true)], args := [d1, d2] }
  | _ => none }
def stackLeftRow : OpenClaim := { program := "yteolopbklmbcmaa", sum := "2bb8be8022b21f2d47a62d7f4976c6e1066c6b768fadd71506fe5c6336c70cf8", func := "ordinate/ordinatelaw3.StackLeft", spec := "stackLeft", unfollowed := true, recurses := true, apart := false }
def StackLeftSaid : Prop := stackLeftRow.holds Try.pinned (OpenSpec.ofChange stackLeftSpec)

/-- ITS FALSE NEIGHBOUR: 'it returns false'. Refute it at one input. -/
def stackLeftWrong : ChangeSpec := { name := "stackLeft", fn := fun _ => fun
  | [d1, d2] => { results := [.lit (.bool false)], args := [d1, d2] }
  | _ => none }
def StackLeftWrongFalsely : Prop := stackLeftRow.holds Try.pinned (OpenSpec.ofChange stackLeftWrong)

/-- 'ordinatelaw3.StackTwo': WHATEVER THE INPUT: true; the input reads as it did. -/
def stackTwoSpec : ChangeSpec := { name := "stackTwo", fn := fun _ => fun
  | [d1, d2] => { results := [.lit (.bool true)], args := [d1, d2] }
  | _ => none }
def stackTwoRow : OpenClaim := { program := "yteolopbklmbcmaa", sum := "2bb8be8022b21f2d47a62d7f4976c6e1066c6b768fadd71506fe5c6336c70cf8", func := "ordinate/ordinatelaw3.StackTwo", spec := "stackTwo", unfollowed := true, recurses := true, apart := false }
def StackTwoSaid : Prop := stackTwoRow.holds Try.pinned (OpenSpec.ofChange stackTwoSpec)

/-- ITS FALSE NEIGHBOUR: 'it returns false'. Refute it at one input. -/
def stackTwoWrong : ChangeSpec := { name := "stackTwo", fn := fun _ => fun
  | [d1, d2] => { results := [.lit (.bool false)], args := [d1, d2] }
  | _ => none }
def StackTwoWrongFalsely : Prop := stackTwoRow.holds Try.pinned (OpenSpec.ofChange stackTwoWrong)

/-- 'ordinatelaw3.StackTurned': WHATEVER THE INPUT: true; the input reads as it did. -/
def stackTurnedSpec : ChangeSpec := { name := "stackTurned", fn := fun _ => fun
  | [d] => { results := [.lit (.bool true)], args := [d] }
  | _ => none }
def stackTurnedRow : OpenClaim := { program := "yteolopbklmbcmaa", sum := "2bb8be8022b21f2d47a62d7f4976c6e1066c6b768fadd71506fe5c6336c70cf8", func := "ordinate/ordinatelaw3.StackTurned", spec := "stackTurned", unfollowed := true, recurses := true, apart := false }
def StackTurnedSaid : Prop := stackTurnedRow.holds Try.pinned (OpenSpec.ofChange stackTurnedSpec)

/-- ITS FALSE NEIGHBOUR: 'it returns false'. Refute it at one input. -/
def stackTurnedWrong : ChangeSpec := { name := "stackTurned", fn := fun _ => fun
  | [d] => { results := [.lit (.bool false)], args := [d] }
  | _ => none }
def StackTurnedWrongFalsely : Prop := stackTurnedRow.holds Try.pinned (OpenSpec.ofChange stackTurnedWrong)

/- THE SECOND FORM. 'bulk': how many values and letters a reading holds, each counted each time it is reached (what is shared counts as often as it is met; a slice's spare places count too). A statement '..UptoSaid' is the law's where the arguments, and the package variables that the reading takes, are together of bulk at most 1048576: NARROWER than '..Said'. Prove '..Said' where nothing that the law and all that it calls make is longer than what came in: it says more and counts as full. Else prove '..UptoSaid'. A law counts once. -/
mutual
def uptoBulk {H : Type} : DataW H → Nat
  | .lit (.string bytes) => bytes.length + 1
  | .lit _ => 1
  | .nil => 1
  | .ptr d => uptoBulk d + 1
  | .slice elems spare => uptoBulkAll elems + uptoBulkAll spare + 1
  | .agg parts => uptoBulkAll parts + 1
  | .iface _ d => uptoBulk d + 1
  | .map entries => uptoBulkEntries entries + 1
  | .held _ => 1
def uptoBulkAll {H : Type} : List (DataW H) → Nat
  | [] => 0
  | d :: r => uptoBulk d + uptoBulkAll r
def uptoBulkEntries {H : Type} : List (Lit × DataW H) → Nat
  | [] => 0
  | x :: r => uptoBulkEntry x + uptoBulkEntries r
def uptoBulkEntry {H : Type} : Lit × DataW H → Nat
  | (.string bytes, d) => bytes.length + uptoBulk d + 1
  | (_, d) => uptoBulk d + 1
 end
def uptoSmall : (H : Type) → List (DataW H) → Bool := fun _ ds => decide (uptoBulkAll ds ≤ 1048576)
def OpenSpec.upto (s : _root_.Go.ChangeSpec) : _root_.Go.OpenSpec := { _root_.Go.OpenSpec.ofChange s with cond := some uptoSmall }

/-- 'ordinatelaw3.StackKnown', WHERE WHAT IT READS IS OF BULK AT MOST 1048576: true; the input reads as it did. -/
def stackKnownUptoRow : OpenClaim := { program := "yteolopbklmbcmaa", sum := "2bb8be8022b21f2d47a62d7f4976c6e1066c6b768fadd71506fe5c6336c70cf8", func := "ordinate/ordinatelaw3.StackKnown", spec := "stackKnown", unfollowed := true, recurses := true, apart := false, narrowed := true }
def StackKnownUptoSaid : Prop := stackKnownUptoRow.holds Try.pinned (OpenSpec.upto stackKnownSpec)

/-- 'ordinatelaw3.StackPlays', WHERE WHAT IT READS IS OF BULK AT MOST 1048576: true; the input reads as it did. -/
def stackPlaysUptoRow : OpenClaim := { program := "yteolopbklmbcmaa", sum := "2bb8be8022b21f2d47a62d7f4976c6e1066c6b768fadd71506fe5c6336c70cf8", func := "ordinate/ordinatelaw3.StackPlays", spec := "stackPlays", unfollowed := true, recurses := true, apart := false, narrowed := true }
def StackPlaysUptoSaid : Prop := stackPlaysUptoRow.holds Try.pinned (OpenSpec.upto stackPlaysSpec)

/-- 'ordinatelaw3.StackLeft', WHERE WHAT IT READS IS OF BULK AT MOST 1048576: true; the input reads as it did. -/
def stackLeftUptoRow : OpenClaim := { program := "yteolopbklmbcmaa", sum := "2bb8be8022b21f2d47a62d7f4976c6e1066c6b768fadd71506fe5c6336c70cf8", func := "ordinate/ordinatelaw3.StackLeft", spec := "stackLeft", unfollowed := true, recurses := true, apart := false, narrowed := true }
def StackLeftUptoSaid : Prop := stackLeftUptoRow.holds Try.pinned (OpenSpec.upto stackLeftSpec)

/-- 'ordinatelaw3.StackTwo', WHERE WHAT IT READS IS OF BULK AT MOST 1048576: true; the input reads as it did. -/
def stackTwoUptoRow : OpenClaim := { program := "yteolopbklmbcmaa", sum := "2bb8be8022b21f2d47a62d7f4976c6e1066c6b768fadd71506fe5c6336c70cf8", func := "ordinate/ordinatelaw3.StackTwo", spec := "stackTwo", unfollowed := true, recurses := true, apart := false, narrowed := true }
def StackTwoUptoSaid : Prop := stackTwoUptoRow.holds Try.pinned (OpenSpec.upto stackTwoSpec)

/-- 'ordinatelaw3.StackTurned', WHERE WHAT IT READS IS OF BULK AT MOST 1048576: true; the input reads as it did. -/
def stackTurnedUptoRow : OpenClaim := { program := "yteolopbklmbcmaa", sum := "2bb8be8022b21f2d47a62d7f4976c6e1066c6b768fadd71506fe5c6336c70cf8", func := "ordinate/ordinatelaw3.StackTurned", spec := "stackTurned", unfollowed := true, recurses := true, apart := false, narrowed := true }
def StackTurnedUptoSaid : Prop := stackTurnedUptoRow.holds Try.pinned (OpenSpec.upto stackTurnedSpec)

end Rows
end Go.Proofs.Yteolopbklmbcmaa
