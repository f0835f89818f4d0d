/-
  No cell of these rows narrows 'for every input' (looked for: loops, veiled, ifaces, maps, wideKeys, modest, calm, conditions, laid).
  DERIVED. THE GIVEN ROWS OF THIS SEAT. 7 by the template 'for every input the law returns true; each argument reads behind the call as it read before'; 0 by the template 'total and deterministic' (their statements: YtmpiadeknfnelaaTotals.lean).
  GIVEN WITH THE SEED: the statements are not yours to turn. If you find one false, say at which input.
  Laid BY PROGRAM, IN A SANDBOX (cutbox-rows.mjs): the forced cells as the released guide's own fill.sh prints them over the translation 15dc1d7fb6db6724… (all of the seat's roots in one cut). By AI agents, Wed Nov 11 2026. No macro, syntax, notation, axiom, sorry.
-/
import Derived.Test.YtmpiadeknfnelaaChecked
import GoSem.Claim
import GoSem.ClaimJoined
import GoSem.ClaimMapViews
import Derived.JoinedTies
import Derived.KernelRfl
namespace Go.Proofs.Ytmpiadeknfnelaa
/- THE CELL 'sum', in the pinned program and in every row, IS THE sha256 OF THE DUMP (.gsa) THAT YtmpiadeknfnelaaProg.lean LOADS. Nothing in Lean hashes anything: it is a label: what it is worth is what the hold of that sum in a sandbox is worth. -/
noncomputable def Try.pinned : Pinned := { name := "ytmpiadeknfnelaa", sum := "15dc1d7fb6db67240dcc6a6c0f373962652ccec793d1b21bfb4a9b3a5d5ce241", checked := Try.checked }
namespace Rows
def none {H : Type} : Left H := { results := [], args := [] }

/-- 'ordinatelaw2.SpanKnown': WHATEVER THE INPUT: true; the input reads as it did. -/
def spanKnownSpec : ChangeSpec := { name := "spanKnown", fn := fun _ => fun
  | [] => { results := [.lit (.bool true)], args := [] }
  | _ => none }
def spanKnownRow : OpenClaim := { program := "ytmpiadeknfnelaa", sum := "15dc1d7fb6db67240dcc6a6c0f373962652ccec793d1b21bfb4a9b3a5d5ce241", func := "ordinate/ordinatelaw2.SpanKnown", spec := "spanKnown", named := ["math/bits.divideError", "math/bits.overflowError"], apart := false }
def SpanKnownSaid : Prop := spanKnownRow.holds Try.pinned (OpenSpec.ofChange spanKnownSpec)

/-- ITS FALSE NEIGHBOUR: 'it returns false'. Refute it at one input. -/
def spanKnownWrong : ChangeSpec := { name := "spanKnown", fn := fun _ => fun
  | [] => { results := [.lit (.bool false)], args := [] }
  | _ => none }
def SpanKnownWrongFalsely : Prop := spanKnownRow.holds Try.pinned (OpenSpec.ofChange spanKnownWrong)

/-- 'ordinatelaw2.SpanTells': WHATEVER THE INPUT: true; the input reads as it did. -/
def spanTellsSpec : ChangeSpec := { name := "spanTells", fn := fun _ => fun
  | [d1, d2, d3, d4, d5, d6] => { results := [.lit (.bool true)], args := [d1, d2, d3, d4, d5, d6] }
  | _ => none }
def spanTellsRow : OpenClaim := { program := "ytmpiadeknfnelaa", sum := "15dc1d7fb6db67240dcc6a6c0f373962652ccec793d1b21bfb4a9b3a5d5ce241", func := "ordinate/ordinatelaw2.SpanTells", spec := "spanTells", named := ["math/bits.divideError", "math/bits.overflowError"], apart := false }
def SpanTellsSaid : Prop := spanTellsRow.holds Try.pinned (OpenSpec.ofChange spanTellsSpec)

/-- ITS FALSE NEIGHBOUR: 'it returns false'. Refute it at one input. -/
def spanTellsWrong : ChangeSpec := { name := "spanTells", fn := fun _ => fun
  | [d1, d2, d3, d4, d5, d6] => { results := [.lit (.bool false)], args := [d1, d2, d3, d4, d5, d6] }
  | _ => none }
def SpanTellsWrongFalsely : Prop := spanTellsRow.holds Try.pinned (OpenSpec.ofChange spanTellsWrong)

/-- 'ordinatelaw2.SpanShare': WHATEVER THE INPUT: true; the input reads as it did. -/
def spanShareSpec : ChangeSpec := { name := "spanShare", fn := fun _ => fun
  | [d1, d2, d3] => { results := [.lit (.bool true)], args := [d1, d2, d3] }
  | _ => none }
def spanShareRow : OpenClaim := { program := "ytmpiadeknfnelaa", sum := "15dc1d7fb6db67240dcc6a6c0f373962652ccec793d1b21bfb4a9b3a5d5ce241", func := "ordinate/ordinatelaw2.SpanShare", spec := "spanShare", named := ["math/bits.divideError", "math/bits.overflowError"], apart := false }
def SpanShareSaid : Prop := spanShareRow.holds Try.pinned (OpenSpec.ofChange spanShareSpec)

/-- ITS FALSE NEIGHBOUR: 'it returns false'. Refute it at one input. -/
def spanShareWrong : ChangeSpec := { name := "spanShare", fn := fun _ => fun
  | [d1, d2, d3] => { results := [.lit (.bool false)], args := [d1, d2, d3] }
  | _ => none }
def SpanShareWrongFalsely : Prop := spanShareRow.holds Try.pinned (OpenSpec.ofChange spanShareWrong)

/-- 'ordinatelaw2.SpanRises': WHATEVER THE INPUT: true; the input reads as it did. -/
def spanRisesSpec : ChangeSpec := { name := "spanRises", fn := fun _ => fun
  | [d1, d2, d3, d4, d5] => { results := [.lit (.bool true)], args := [d1, d2, d3, d4, d5] }
  | _ => none }
def spanRisesRow : OpenClaim := { program := "ytmpiadeknfnelaa", sum := "15dc1d7fb6db67240dcc6a6c0f373962652ccec793d1b21bfb4a9b3a5d5ce241", func := "ordinate/ordinatelaw2.SpanRises", spec := "spanRises", named := ["math/bits.divideError", "math/bits.overflowError"], apart := false }
def SpanRisesSaid : Prop := spanRisesRow.holds Try.pinned (OpenSpec.ofChange spanRisesSpec)

/-- ITS FALSE NEIGHBOUR: 'it returns false'. Refute it at one input. -/
def spanRisesWrong : ChangeSpec := { name := "spanRises", fn := fun _ => fun
  | [d1, d2, d3, d4, d5] => { results := [.lit (.bool false)], args := [d1, d2, d3, d4, d5] }
  | _ => none }
def SpanRisesWrongFalsely : Prop := spanRisesRow.holds Try.pinned (OpenSpec.ofChange spanRisesWrong)

/-- 'ordinatelaw2.SpanRoot': WHATEVER THE INPUT: true; the input reads as it did. -/
def spanRootSpec : ChangeSpec := { name := "spanRoot", fn := fun _ => fun
  | [d] => { results := [.lit (.bool true)], args := [d] }
  | _ => none }
def spanRootRow : OpenClaim := { program := "ytmpiadeknfnelaa", sum := "15dc1d7fb6db67240dcc6a6c0f373962652ccec793d1b21bfb4a9b3a5d5ce241", func := "ordinate/ordinatelaw2.SpanRoot", spec := "spanRoot", named := ["math/bits.divideError", "math/bits.overflowError"], apart := false }
def SpanRootSaid : Prop := spanRootRow.holds Try.pinned (OpenSpec.ofChange spanRootSpec)

/-- ITS FALSE NEIGHBOUR: 'it returns false'. Refute it at one input. -/
def spanRootWrong : ChangeSpec := { name := "spanRoot", fn := fun _ => fun
  | [d] => { results := [.lit (.bool false)], args := [d] }
  | _ => none }
def SpanRootWrongFalsely : Prop := spanRootRow.holds Try.pinned (OpenSpec.ofChange spanRootWrong)

/-- 'ordinatelaw2.SpanGaps': WHATEVER THE INPUT: true; the input reads as it did. -/
def spanGapsSpec : ChangeSpec := { name := "spanGaps", fn := fun _ => fun
  | [d1, d2, d3] => { results := [.lit (.bool true)], args := [d1, d2, d3] }
  | _ => none }
def spanGapsRow : OpenClaim := { program := "ytmpiadeknfnelaa", sum := "15dc1d7fb6db67240dcc6a6c0f373962652ccec793d1b21bfb4a9b3a5d5ce241", func := "ordinate/ordinatelaw2.SpanGaps", spec := "spanGaps", named := ["math/bits.divideError", "math/bits.overflowError"], apart := false }
def SpanGapsSaid : Prop := spanGapsRow.holds Try.pinned (OpenSpec.ofChange spanGapsSpec)

/-- ITS FALSE NEIGHBOUR: 'it returns false'. Refute it at one input. -/
def spanGapsWrong : ChangeSpec := { name := "spanGaps", fn := fun _ => fun
  | [d1, d2, d3] => { results := [.lit (.bool false)], args := [d1, d2, d3] }
  | _ => none }
def SpanGapsWrongFalsely : Prop := spanGapsRow.holds Try.pinned (OpenSpec.ofChange spanGapsWrong)

/-- 'ordinatelaw2.SpanSums': WHATEVER THE INPUT: true; the input reads as it did. -/
def spanSumsSpec : ChangeSpec := { name := "spanSums", fn := fun _ => fun
  | [d1, d2, d3] => { results := [.lit (.bool true)], args := [d1, d2, d3] }
  | _ => none }
def spanSumsRow : OpenClaim := { program := "ytmpiadeknfnelaa", sum := "15dc1d7fb6db67240dcc6a6c0f373962652ccec793d1b21bfb4a9b3a5d5ce241", func := "ordinate/ordinatelaw2.SpanSums", spec := "spanSums", named := ["math/bits.divideError", "math/bits.overflowError"], apart := false }
def SpanSumsSaid : Prop := spanSumsRow.holds Try.pinned (OpenSpec.ofChange spanSumsSpec)

/-- ITS FALSE NEIGHBOUR: 'it returns false'. Refute it at one input. -/
def spanSumsWrong : ChangeSpec := { name := "spanSums", fn := fun _ => fun
  | [d1, d2, d3] => { results := [.lit (.bool false)], args := [d1, d2, d3] }
  | _ => none }
def SpanSumsWrongFalsely : Prop := spanSumsRow.holds Try.pinned (OpenSpec.ofChange spanSumsWrong)

/- THE SECOND FORM. 'bulk': how many values and letters a reading holds, each counted each time it is reached (what is shared counts as often as it is met; a slice's spare places count too). A statement '..UptoSaid' is the law's where the arguments, and the package variables that the reading takes, are together of bulk at most 1048576: NARROWER than '..Said'. Prove '..Said' where nothing that the law and all that it calls make is longer than what came in: it says more and counts as full. Else prove '..UptoSaid'. A law counts once. -/
mutual
def uptoBulk {H : Type} : DataW H → Nat
  | .lit (.string bytes) => bytes.length + 1
  | .lit _ => 1
  | .nil => 1
  | .ptr d => uptoBulk d + 1
  | .slice elems spare => uptoBulkAll elems + uptoBulkAll spare + 1
  | .agg parts => uptoBulkAll parts + 1
  | .iface _ d => uptoBulk d + 1
  | .map entries => uptoBulkEntries entries + 1
  | .held _ => 1
def uptoBulkAll {H : Type} : List (DataW H) → Nat
  | [] => 0
  | d :: r => uptoBulk d + uptoBulkAll r
def uptoBulkEntries {H : Type} : List (Lit × DataW H) → Nat
  | [] => 0
  | x :: r => uptoBulkEntry x + uptoBulkEntries r
def uptoBulkEntry {H : Type} : Lit × DataW H → Nat
  | (.string bytes, d) => bytes.length + uptoBulk d + 1
  | (_, d) => uptoBulk d + 1
 end
def uptoSmall : (H : Type) → List (DataW H) → Bool := fun _ ds => decide (uptoBulkAll ds ≤ 1048576)
def OpenSpec.upto (s : _root_.Go.ChangeSpec) : _root_.Go.OpenSpec := { _root_.Go.OpenSpec.ofChange s with cond := some uptoSmall }

/-- 'ordinatelaw2.SpanKnown', WHERE WHAT IT READS IS OF BULK AT MOST 1048576: true; the input reads as it did. -/
def spanKnownUptoRow : OpenClaim := { program := "ytmpiadeknfnelaa", sum := "15dc1d7fb6db67240dcc6a6c0f373962652ccec793d1b21bfb4a9b3a5d5ce241", func := "ordinate/ordinatelaw2.SpanKnown", spec := "spanKnown", named := ["math/bits.divideError", "math/bits.overflowError"], apart := false, narrowed := true }
def SpanKnownUptoSaid : Prop := spanKnownUptoRow.holds Try.pinned (OpenSpec.upto spanKnownSpec)

/-- 'ordinatelaw2.SpanTells', WHERE WHAT IT READS IS OF BULK AT MOST 1048576: true; the input reads as it did. -/
def spanTellsUptoRow : OpenClaim := { program := "ytmpiadeknfnelaa", sum := "15dc1d7fb6db67240dcc6a6c0f373962652ccec793d1b21bfb4a9b3a5d5ce241", func := "ordinate/ordinatelaw2.SpanTells", spec := "spanTells", named := ["math/bits.divideError", "math/bits.overflowError"], apart := false, narrowed := true }
def SpanTellsUptoSaid : Prop := spanTellsUptoRow.holds Try.pinned (OpenSpec.upto spanTellsSpec)

/-- 'ordinatelaw2.SpanShare', WHERE WHAT IT READS IS OF BULK AT MOST 1048576: true; the input reads as it did. -/
def spanShareUptoRow : OpenClaim := { program := "ytmpiadeknfnelaa", sum := "15dc1d7fb6db67240dcc6a6c0f373962652ccec793d1b21bfb4a9b3a5d5ce241", func := "ordinate/ordinatelaw2.SpanShare", spec := "spanShare", named := ["math/bits.divideError", "math/bits.overflowError"], apart := false, narrowed := true }
def SpanShareUptoSaid : Prop := spanShareUptoRow.holds Try.pinned (OpenSpec.upto spanShareSpec)

/-- 'ordinatelaw2.SpanRises', WHERE WHAT IT READS IS OF BULK AT MOST 1048576: true; the input reads as it did. -/
def spanRisesUptoRow : OpenClaim := { program := "ytmpiadeknfnelaa", sum := "15dc1d7fb6db67240dcc6a6c0f373962652ccec793d1b21bfb4a9b3a5d5ce241", func := "ordinate/ordinatelaw2.SpanRises", spec := "spanRises", named := ["math/bits.divideError", "math/bits.overflowError"], apart := false, narrowed := true }
def SpanRisesUptoSaid : Prop := spanRisesUptoRow.holds Try.pinned (OpenSpec.upto spanRisesSpec)

/-- 'ordinatelaw2.SpanRoot', WHERE WHAT IT READS IS OF BULK AT MOST 1048576: true; the input reads as it did. -/
def spanRootUptoRow : OpenClaim := { program := "ytmpiadeknfnelaa", sum := "15dc1d7fb6db67240dcc6a6c0f373962652ccec793d1b21bfb4a9b3a5d5ce241", func := "ordinate/ordinatelaw2.SpanRoot", spec := "spanRoot", named := ["math/bits.divideError", "math/bits.overflowError"], apart := false, narrowed := true }
def SpanRootUptoSaid : Prop := spanRootUptoRow.holds Try.pinned (OpenSpec.upto spanRootSpec)

/-- 'ordinatelaw2.SpanGaps', WHERE WHAT IT READS IS OF BULK AT MOST 1048576: true; the input reads as it did. -/
def spanGapsUptoRow : OpenClaim := { program := "ytmpiadeknfnelaa", sum := "15dc1d7fb6db67240dcc6a6c0f373962652ccec793d1b21bfb4a9b3a5d5ce241", func := "ordinate/ordinatelaw2.SpanGaps", spec := "spanGaps", named := ["math/bits.divideError", "math/bits.overflowError"], apart := false, narrowed := true }
def SpanGapsUptoSaid : Prop := spanGapsUptoRow.holds Try.pinned (OpenSpec.upto spanGapsSpec)

/-- 'ordinatelaw2.SpanSums', WHERE WHAT IT READS IS OF BULK AT MOST 1048576: true; the input reads as it did. -/
def spanSumsUptoRow : OpenClaim := { program := "ytmpiadeknfnelaa", sum := "15dc1d7fb6db67240dcc6a6c0f373962652ccec793d1b21bfb4a9b3a5d5ce241", func := "ordinate/ordinatelaw2.SpanSums", spec := "spanSums", named := ["math/bits.divideError", "math/bits.overflowError"], apart := false, narrowed := true }
def SpanSumsUptoSaid : Prop := spanSumsUptoRow.holds Try.pinned (OpenSpec.upto spanSumsSpec)

end Rows
end Go.Proofs.Ytmpiadeknfnelaa
