/-
  No cell of these rows narrows 'for every input' (looked for: loops, veiled, ifaces, maps, wideKeys, modest, calm, conditions, laid).
  DERIVED. THE GIVEN ROWS OF THIS SEAT. 7 by the template 'for every input the law returns true; each argument reads behind the call as it read before'; 0 by the template 'total and deterministic' (their statements: YtnhjedohbpbpgaaTotals.lean).
  GIVEN WITH THE SEED: the statements are not yours to turn. If you find one false, say at which input.
  Laid BY PROGRAM, IN A SANDBOX (cutbox-rows.mjs): the forced cells as the released guide's own fill.sh prints them over the translation d5fc578ca2a58bf8… (all of the seat's roots in one cut). By AI agents, Wed Nov 11 2026. No macro, syntax, notation, axiom, sorry.
-/
import Derived.Test.YtnhjedohbpbpgaaChecked
import GoSem.Claim
import GoSem.ClaimJoined
import GoSem.ClaimMapViews
import Derived.JoinedTies
import Derived.KernelRfl
namespace Go.Proofs.Ytnhjedohbpbpgaa
/- THE CELL 'sum', in the pinned program and in every row, IS THE sha256 OF THE DUMP (.gsa) THAT YtnhjedohbpbpgaaProg.lean LOADS. Nothing in Lean hashes anything: it is a label: what it is worth is what the hold of that sum in a sandbox is worth. -/
noncomputable def Try.pinned : Pinned := { name := "ytnhjedohbpbpgaa", sum := "d5fc578ca2a58bf84d2dc0cc5c4e940e869428927aba98ba9a563273bcfbf43d", checked := Try.checked }
namespace Rows
def none {H : Type} : Left H := { results := [], args := [] }

/-- 'ordinatelaw5.PartKnown': WHATEVER THE INPUT: true; the input reads as it did. -/
def partKnownSpec : ChangeSpec := { name := "partKnown", fn := fun _ => fun
  | [] => { results := [.lit (.bool true)], args := [] }
  | _ => none }
def partKnownRow : OpenClaim := { program := "ytnhjedohbpbpgaa", sum := "d5fc578ca2a58bf84d2dc0cc5c4e940e869428927aba98ba9a563273bcfbf43d", func := "ordinate/ordinatelaw5.PartKnown", spec := "partKnown", recurses := true, apart := false }
def PartKnownSaid : Prop := partKnownRow.holds Try.pinned (OpenSpec.ofChange partKnownSpec)

/-- ITS FALSE NEIGHBOUR: 'it returns false'. Refute it at one input. -/
def partKnownWrong : ChangeSpec := { name := "partKnown", fn := fun _ => fun
  | [] => { results := [.lit (.bool false)], args := [] }
  | _ => none }
def PartKnownWrongFalsely : Prop := partKnownRow.holds Try.pinned (OpenSpec.ofChange partKnownWrong)

/-- 'ordinatelaw5.PartTells': WHATEVER THE INPUT: true; the input reads as it did. -/
def partTellsSpec : ChangeSpec := { name := "partTells", fn := fun _ => fun
  | [d1, d2, d3] => { results := [.lit (.bool true)], args := [d1, d2, d3] }
  | _ => none }
def partTellsRow : OpenClaim := { program := "ytnhjedohbpbpgaa", sum := "d5fc578ca2a58bf84d2dc0cc5c4e940e869428927aba98ba9a563273bcfbf43d", func := "ordinate/ordinatelaw5.PartTells", spec := "partTells", recurses := true, apart := false }
def PartTellsSaid : Prop := partTellsRow.holds Try.pinned (OpenSpec.ofChange partTellsSpec)

/-- ITS FALSE NEIGHBOUR: 'it returns false'. Refute it at one input. -/
def partTellsWrong : ChangeSpec := { name := "partTells", fn := fun _ => fun
  | [d1, d2, d3] => { results := [.lit (.bool false)], args := [d1, d2, d3] }
  | _ => none }
def PartTellsWrongFalsely : Prop := partTellsRow.holds Try.pinned (OpenSpec.ofChange partTellsWrong)

/-- 'ordinatelaw5.PartSums': WHATEVER THE INPUT: true; the input reads as it did. -/
def partSumsSpec : ChangeSpec := { name := "partSums", fn := fun _ => fun
  | [d] => { results := [.lit (.bool true)], args := [d] }
  | _ => none }
def partSumsRow : OpenClaim := { program := "ytnhjedohbpbpgaa", sum := "d5fc578ca2a58bf84d2dc0cc5c4e940e869428927aba98ba9a563273bcfbf43d", func := "ordinate/ordinatelaw5.PartSums", spec := "partSums", recurses := true, apart := false }
def PartSumsSaid : Prop := partSumsRow.holds Try.pinned (OpenSpec.ofChange partSumsSpec)

/-- ITS FALSE NEIGHBOUR: 'it returns false'. Refute it at one input. -/
def partSumsWrong : ChangeSpec := { name := "partSums", fn := fun _ => fun
  | [d] => { results := [.lit (.bool false)], args := [d] }
  | _ => none }
def PartSumsWrongFalsely : Prop := partSumsRow.holds Try.pinned (OpenSpec.ofChange partSumsWrong)

/-- 'ordinatelaw5.PartRoot': WHATEVER THE INPUT: true; the input reads as it did. -/
def partRootSpec : ChangeSpec := { name := "partRoot", fn := fun _ => fun
  | [d] => { results := [.lit (.bool true)], args := [d] }
  | _ => none }
def partRootRow : OpenClaim := { program := "ytnhjedohbpbpgaa", sum := "d5fc578ca2a58bf84d2dc0cc5c4e940e869428927aba98ba9a563273bcfbf43d", func := "ordinate/ordinatelaw5.PartRoot", spec := "partRoot", recurses := true, apart := false }
def PartRootSaid : Prop := partRootRow.holds Try.pinned (OpenSpec.ofChange partRootSpec)

/-- ITS FALSE NEIGHBOUR: 'it returns false'. Refute it at one input. -/
def partRootWrong : ChangeSpec := { name := "partRoot", fn := fun _ => fun
  | [d] => { results := [.lit (.bool false)], args := [d] }
  | _ => none }
def PartRootWrongFalsely : Prop := partRootRow.holds Try.pinned (OpenSpec.ofChange partRootWrong)

/-- 'ordinatelaw5.PartDeep': WHATEVER THE INPUT: true; the input reads as it did. -/
def partDeepSpec : ChangeSpec := { name := "partDeep", fn := fun _ => fun
  | [d] => { results := [.lit (.bool true)], args := [d] }
  | _ => none }
def partDeepRow : OpenClaim := { program := "ytnhjedohbpbpgaa", sum := "d5fc578ca2a58bf84d2dc0cc5c4e940e869428927aba98ba9a563273bcfbf43d", func := "ordinate/ordinatelaw5.PartDeep", spec := "partDeep", recurses := true, apart := false }
def PartDeepSaid : Prop := partDeepRow.holds Try.pinned (OpenSpec.ofChange partDeepSpec)

/-- ITS FALSE NEIGHBOUR: 'it returns false'. Refute it at one input. -/
def partDeepWrong : ChangeSpec := { name := "partDeep", fn := fun _ => fun
  | [d] => { results := [.lit (.bool false)], args := [d] }
  | _ => none }
def PartDeepWrongFalsely : Prop := partDeepRow.holds Try.pinned (OpenSpec.ofChange partDeepWrong)

/-- 'ordinatelaw5.PartShallow': WHATEVER THE INPUT: true; the input reads as it did. -/
def partShallowSpec : ChangeSpec := { name := "partShallow", fn := fun _ => fun
  | [d] => { results := [.lit (.bool true)], args := [d] }
  | _ => none }
def partShallowRow : OpenClaim := { program := "ytnhjedohbpbpgaa", sum := "d5fc578ca2a58bf84d2dc0cc5c4e940e869428927aba98ba9a563273bcfbf43d", func := "ordinate/ordinatelaw5.PartShallow", spec := "partShallow", recurses := true, apart := false }
def PartShallowSaid : Prop := partShallowRow.holds Try.pinned (OpenSpec.ofChange partShallowSpec)

/-- ITS FALSE NEIGHBOUR: 'it returns false'. Refute it at one input. -/
def partShallowWrong : ChangeSpec := { name := "partShallow", fn := fun _ => fun
  | [d] => { results := [.lit (.bool false)], args := [d] }
  | _ => none }
def PartShallowWrongFalsely : Prop := partShallowRow.holds Try.pinned (OpenSpec.ofChange partShallowWrong)

/-- 'ordinatelaw5.PartLimit': WHATEVER THE INPUT: true; the input reads as it did. -/
def partLimitSpec : ChangeSpec := { name := "partLimit", fn := fun _ => fun
  | [d1, d2] => { results := [.lit (.bool true)], args := [d1, d2] }
  | _ => none }
def partLimitRow : OpenClaim := { program := "ytnhjedohbpbpgaa", sum := "d5fc578ca2a58bf84d2dc0cc5c4e940e869428927aba98ba9a563273bcfbf43d", func := "ordinate/ordinatelaw5.PartLimit", spec := "partLimit", recurses := true, apart := false }
def PartLimitSaid : Prop := partLimitRow.holds Try.pinned (OpenSpec.ofChange partLimitSpec)

/-- ITS FALSE NEIGHBOUR: 'it returns false'. Refute it at one input. -/
def partLimitWrong : ChangeSpec := { name := "partLimit", fn := fun _ => fun
  | [d1, d2] => { results := [.lit (.bool false)], args := [d1, d2] }
  | _ => none }
def PartLimitWrongFalsely : Prop := partLimitRow.holds Try.pinned (OpenSpec.ofChange partLimitWrong)

/- THE SECOND FORM. 'bulk': how many values and letters a reading holds, each counted each time it is reached (what is shared counts as often as it is met; a slice's spare places count too). A statement '..UptoSaid' is the law's where the arguments, and the package variables that the reading takes, are together of bulk at most 1048576: NARROWER than '..Said'. Prove '..Said' where nothing that the law and all that it calls make is longer than what came in: it says more and counts as full. Else prove '..UptoSaid'. A law counts once. -/
mutual
def uptoBulk {H : Type} : DataW H → Nat
  | .lit (.string bytes) => bytes.length + 1
  | .lit _ => 1
  | .nil => 1
  | .ptr d => uptoBulk d + 1
  | .slice elems spare => uptoBulkAll elems + uptoBulkAll spare + 1
  | .agg parts => uptoBulkAll parts + 1
  | .iface _ d => uptoBulk d + 1
  | .map entries => uptoBulkEntries entries + 1
  | .held _ => 1
def uptoBulkAll {H : Type} : List (DataW H) → Nat
  | [] => 0
  | d :: r => uptoBulk d + uptoBulkAll r
def uptoBulkEntries {H : Type} : List (Lit × DataW H) → Nat
  | [] => 0
  | x :: r => uptoBulkEntry x + uptoBulkEntries r
def uptoBulkEntry {H : Type} : Lit × DataW H → Nat
  | (.string bytes, d) => bytes.length + uptoBulk d + 1
  | (_, d) => uptoBulk d + 1
 end
def uptoSmall : (H : Type) → List (DataW H) → Bool := fun _ ds => decide (uptoBulkAll ds ≤ 1048576)
def OpenSpec.upto (s : _root_.Go.ChangeSpec) : _root_.Go.OpenSpec := { _root_.Go.OpenSpec.ofChange s with cond := some uptoSmall }

/-- 'ordinatelaw5.PartKnown', WHERE WHAT IT READS IS OF BULK AT MOST 1048576: true; the input reads as it did. -/
def partKnownUptoRow : OpenClaim := { program := "ytnhjedohbpbpgaa", sum := "d5fc578ca2a58bf84d2dc0cc5c4e940e869428927aba98ba9a563273bcfbf43d", func := "ordinate/ordinatelaw5.PartKnown", spec := "partKnown", recurses := true, apart := false, narrowed := true }
def PartKnownUptoSaid : Prop := partKnownUptoRow.holds Try.pinned (OpenSpec.upto partKnownSpec)

/-- 'ordinatelaw5.PartTells', WHERE WHAT IT READS IS OF BULK AT MOST 1048576: true; the input reads as it did. -/
def partTellsUptoRow : OpenClaim := { program := "ytnhjedohbpbpgaa", sum := "d5fc578ca2a58bf84d2dc0cc5c4e940e869428927aba98ba9a563273bcfbf43d", func := "ordinate/ordinatelaw5.PartTells", spec := "partTells", recurses := true, apart := false, narrowed := true }
def PartTellsUptoSaid : Prop := partTellsUptoRow.holds Try.pinned (OpenSpec.upto partTellsSpec)

/-- 'ordinatelaw5.PartSums', WHERE WHAT IT READS IS OF BULK AT MOST 1048576: true; the input reads as it did. -/
def partSumsUptoRow : OpenClaim := { program := "ytnhjedohbpbpgaa", sum := "d5fc578ca2a58bf84d2dc0cc5c4e940e869428927aba98ba9a563273bcfbf43d", func := "ordinate/ordinatelaw5.PartSums", spec := "partSums", recurses := true, apart := false, narrowed := true }
def PartSumsUptoSaid : Prop := partSumsUptoRow.holds Try.pinned (OpenSpec.upto partSumsSpec)

/-- 'ordinatelaw5.PartRoot', WHERE WHAT IT READS IS OF BULK AT MOST 1048576: true; the input reads as it did. -/
def partRootUptoRow : OpenClaim := { program := "ytnhjedohbpbpgaa", sum := "d5fc578ca2a58bf84d2dc0cc5c4e940e869428927aba98ba9a563273bcfbf43d", func := "ordinate/ordinatelaw5.PartRoot", spec := "partRoot", recurses := true, apart := false, narrowed := true }
def PartRootUptoSaid : Prop := partRootUptoRow.holds Try.pinned (OpenSpec.upto partRootSpec)

/-- 'ordinatelaw5.PartDeep', WHERE WHAT IT READS IS OF BULK AT MOST 1048576: true; the input reads as it did. -/
def partDeepUptoRow : OpenClaim := { program := "ytnhjedohbpbpgaa", sum := "d5fc578ca2a58bf84d2dc0cc5c4e940e869428927aba98ba9a563273bcfbf43d", func := "ordinate/ordinatelaw5.PartDeep", spec := "partDeep", recurses := true, apart := false, narrowed := true }
def PartDeepUptoSaid : Prop := partDeepUptoRow.holds Try.pinned (OpenSpec.upto partDeepSpec)

/-- 'ordinatelaw5.PartShallow', WHERE WHAT IT READS IS OF BULK AT MOST 1048576: true; the input reads as it did. -/
def partShallowUptoRow : OpenClaim := { program := "ytnhjedohbpbpgaa", sum := "d5fc578ca2a58bf84d2dc0cc5c4e940e869428927aba98ba9a563273bcfbf43d", func := "ordinate/ordinatelaw5.PartShallow", spec := "partShallow", recurses := true, apart := false, narrowed := true }
def PartShallowUptoSaid : Prop := partShallowUptoRow.holds Try.pinned (OpenSpec.upto partShallowSpec)

/-- 'ordinatelaw5.PartLimit', WHERE WHAT IT READS IS OF BULK AT MOST 1048576: true; the input reads as it did. -/
def partLimitUptoRow : OpenClaim := { program := "ytnhjedohbpbpgaa", sum := "d5fc578ca2a58bf84d2dc0cc5c4e940e869428927aba98ba9a563273bcfbf43d", func := "ordinate/ordinatelaw5.PartLimit", spec := "partLimit", recurses := true, apart := false, narrowed := true }
def PartLimitUptoSaid : Prop := partLimitUptoRow.holds Try.pinned (OpenSpec.upto partLimitSpec)

end Rows
end Go.Proofs.Ytnhjedohbpbpgaa
