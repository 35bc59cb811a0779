/-
  No cell of these rows narrows 'for every input' (looked for: loops, veiled, ifaces, maps, wideKeys, modest, calm, conditions, laid).
  DERIVED. THE GIVEN ROWS OF THIS SEAT. 7 by the template 'for every input the law returns true; each argument reads behind the call as it read before'; 0 by the template 'total and deterministic' (their statements: YtfckgpmphcadeaaTotals.lean).
  GIVEN WITH THE SEED: the statements are not yours to turn. If you find one false, say at which input.
  Laid BY PROGRAM, IN A SANDBOX (cutbox-rows.mjs): the forced cells as the released guide's own fill.sh prints them over the translation 192430a97eb56a28… (all of the seat's roots in one cut). By AI agents, Wed Nov 11 2026. No macro, syntax, notation, axiom, sorry.
-/
import Derived.Test.YtfckgpmphcadeaaChecked
import GoSem.Claim
import GoSem.ClaimJoined
import GoSem.ClaimMapViews
import Derived.JoinedTies
import Derived.KernelRfl
namespace Go.Proofs.Ytfckgpmphcadeaa
/- THE CELL 'sum', in the pinned program and in every row, IS THE sha256 OF THE DUMP (.gsa) THAT YtfckgpmphcadeaaProg.lean LOADS. Nothing in Lean hashes anything: it is a label: what it is worth is what the hold of that sum in a sandbox is worth. -/
noncomputable def Try.pinned : Pinned := { name := "ytfckgpmphcadeaa", sum := "192430a97eb56a28a847022f66018c5730152fd1a17ee8c96a04649c28be7469", checked := Try.checked }
namespace Rows
def none {H : Type} : Left H := { results := [], args := [] }

/-- 'laws.FnDrive': WHATEVER THE INPUT: true; the input reads as it did. -/
def fnDriveSpec : ChangeSpec := { name := "fnDrive", fn := fun _ => fun
  | [d1, d2] => { results := [.lit (.bool true)], args := [d1, d2] }
  | _ => none }
def fnDriveRow : OpenClaim := { program := "ytfckgpmphcadeaa", sum := "192430a97eb56a28a847022f66018c5730152fd1a17ee8c96a04649c28be7469", func := "loop.example/g00259/laws.FnDrive", spec := "fnDrive", inPlace := ["internal/bytealg.abigen_runtime_cmpstring", "slices.overlaps[loop.example/g00259/impl.Stored]"], unfollowed := true, recurses := true, apart := false }
def FnDriveSaid : Prop := fnDriveRow.holds Try.pinned (OpenSpec.ofChange fnDriveSpec)

/-- ITS FALSE NEIGHBOUR: 'it returns false'. Refute it at one input. -/
def fnDriveWrong : ChangeSpec := { name := "fnDrive", fn := fun _ => fun
  | [d1, d2] => { results := [.lit (.bool false)], args := [d1, d2] }
  | _ => none }
def FnDriveWrongFalsely : Prop := fnDriveRow.holds Try.pinned (OpenSpec.ofChange fnDriveWrong)

/-- 'laws.FnExactDriveDo': WHATEVER THE INPUT: true; the input reads as it did. -/
def fnExactDriveDoSpec : ChangeSpec := { name := "fnExactDriveDo", fn := fun _ => fun
  | [d1, d2] => { results := [.lit (.bool true)], args := [d1, d2] }
  | _ => none }
def fnExactDriveDoRow : OpenClaim := { program := "ytfckgpmphcadeaa", sum := "192430a97eb56a28a847022f66018c5730152fd1a17ee8c96a04649c28be7469", func := "loop.example/g00259/laws.FnExactDriveDo", spec := "fnExactDriveDo", inPlace := ["internal/bytealg.abigen_runtime_cmpstring", "slices.overlaps[loop.example/g00259/impl.Stored]"], unfollowed := true, recurses := true, apart := false }
def FnExactDriveDoSaid : Prop := fnExactDriveDoRow.holds Try.pinned (OpenSpec.ofChange fnExactDriveDoSpec)

/-- ITS FALSE NEIGHBOUR: 'it returns false'. Refute it at one input. -/
def fnExactDriveDoWrong : ChangeSpec := { name := "fnExactDriveDo", fn := fun _ => fun
  | [d1, d2] => { results := [.lit (.bool false)], args := [d1, d2] }
  | _ => none }
def FnExactDriveDoWrongFalsely : Prop := fnExactDriveDoRow.holds Try.pinned (OpenSpec.ofChange fnExactDriveDoWrong)

/-- 'laws.FnExactArrayRight': WHATEVER THE INPUT: true; the input reads as it did. -/
def fnExactArrayRightSpec : ChangeSpec := { name := "fnExactArrayRight", fn := fun _ => fun
  | [d] => { results := [.lit (.bool true)], args := [d] }
  | _ => none }
def fnExactArrayRightRow : OpenClaim := { program := "ytfckgpmphcadeaa", sum := "192430a97eb56a28a847022f66018c5730152fd1a17ee8c96a04649c28be7469", func := "loop.example/g00259/laws.FnExactArrayRight", spec := "fnExactArrayRight", apart := false }
def FnExactArrayRightSaid : Prop := fnExactArrayRightRow.holds Try.pinned (OpenSpec.ofChange fnExactArrayRightSpec)

/-- ITS FALSE NEIGHBOUR: 'it returns false'. Refute it at one input. -/
def fnExactArrayRightWrong : ChangeSpec := { name := "fnExactArrayRight", fn := fun _ => fun
  | [d] => { results := [.lit (.bool false)], args := [d] }
  | _ => none }
def FnExactArrayRightWrongFalsely : Prop := fnExactArrayRightRow.holds Try.pinned (OpenSpec.ofChange fnExactArrayRightWrong)

/-- 'laws.FnExactObjectRight': WHATEVER THE INPUT: true; the input reads as it did. -/
def fnExactObjectRightSpec : ChangeSpec := { name := "fnExactObjectRight", fn := fun _ => fun
  | [d] => { results := [.lit (.bool true)], args := [d] }
  | _ => none }
def fnExactObjectRightRow : OpenClaim := { program := "ytfckgpmphcadeaa", sum := "192430a97eb56a28a847022f66018c5730152fd1a17ee8c96a04649c28be7469", func := "loop.example/g00259/laws.FnExactObjectRight", spec := "fnExactObjectRight", apart := false }
def FnExactObjectRightSaid : Prop := fnExactObjectRightRow.holds Try.pinned (OpenSpec.ofChange fnExactObjectRightSpec)

/-- ITS FALSE NEIGHBOUR: 'it returns false'. Refute it at one input. -/
def fnExactObjectRightWrong : ChangeSpec := { name := "fnExactObjectRight", fn := fun _ => fun
  | [d] => { results := [.lit (.bool false)], args := [d] }
  | _ => none }
def FnExactObjectRightWrongFalsely : Prop := fnExactObjectRightRow.holds Try.pinned (OpenSpec.ofChange fnExactObjectRightWrong)

/-- 'laws.FnExactFrameRight': WHATEVER THE INPUT: true; the input reads as it did. -/
def fnExactFrameRightSpec : ChangeSpec := { name := "fnExactFrameRight", fn := fun _ => fun
  | [d] => { results := [.lit (.bool true)], args := [d] }
  | _ => none }
def fnExactFrameRightRow : OpenClaim := { program := "ytfckgpmphcadeaa", sum := "192430a97eb56a28a847022f66018c5730152fd1a17ee8c96a04649c28be7469", func := "loop.example/g00259/laws.FnExactFrameRight", spec := "fnExactFrameRight", apart := false }
def FnExactFrameRightSaid : Prop := fnExactFrameRightRow.holds Try.pinned (OpenSpec.ofChange fnExactFrameRightSpec)

/-- ITS FALSE NEIGHBOUR: 'it returns false'. Refute it at one input. -/
def fnExactFrameRightWrong : ChangeSpec := { name := "fnExactFrameRight", fn := fun _ => fun
  | [d] => { results := [.lit (.bool false)], args := [d] }
  | _ => none }
def FnExactFrameRightWrongFalsely : Prop := fnExactFrameRightRow.holds Try.pinned (OpenSpec.ofChange fnExactFrameRightWrong)

/-- 'laws.FnExactObjectNames': WHATEVER THE INPUT: true; the input reads as it did. -/
def fnExactObjectNamesSpec : ChangeSpec := { name := "fnExactObjectNames", fn := fun _ => fun
  | [d] => { results := [.lit (.bool true)], args := [d] }
  | _ => none }
def fnExactObjectNamesRow : OpenClaim := { program := "ytfckgpmphcadeaa", sum := "192430a97eb56a28a847022f66018c5730152fd1a17ee8c96a04649c28be7469", func := "loop.example/g00259/laws.FnExactObjectNames", spec := "fnExactObjectNames", recurses := true, apart := false }
def FnExactObjectNamesSaid : Prop := fnExactObjectNamesRow.holds Try.pinned (OpenSpec.ofChange fnExactObjectNamesSpec)

/-- ITS FALSE NEIGHBOUR: 'it returns false'. Refute it at one input. -/
def fnExactObjectNamesWrong : ChangeSpec := { name := "fnExactObjectNames", fn := fun _ => fun
  | [d] => { results := [.lit (.bool false)], args := [d] }
  | _ => none }
def FnExactObjectNamesWrongFalsely : Prop := fnExactObjectNamesRow.holds Try.pinned (OpenSpec.ofChange fnExactObjectNamesWrong)

/-- 'laws.FnExactStepsDo': WHATEVER THE INPUT: true; the input reads as it did. -/
def fnExactStepsDoSpec : ChangeSpec := { name := "fnExactStepsDo", fn := fun _ => fun
  | [d1, d2, d3] => { results := [.lit (.bool true)], args := [d1, d2, d3] }
  | _ => none }
def fnExactStepsDoRow : OpenClaim := { program := "ytfckgpmphcadeaa", sum := "192430a97eb56a28a847022f66018c5730152fd1a17ee8c96a04649c28be7469", func := "loop.example/g00259/laws.FnExactStepsDo", spec := "fnExactStepsDo", inPlace := ["internal/bytealg.abigen_runtime_cmpstring", "slices.overlaps[loop.example/g00259/impl.Stored]"], unfollowed := true, recurses := true, apart := false }
def FnExactStepsDoSaid : Prop := fnExactStepsDoRow.holds Try.pinned (OpenSpec.ofChange fnExactStepsDoSpec)

/-- ITS FALSE NEIGHBOUR: 'it returns false'. Refute it at one input. -/
def fnExactStepsDoWrong : ChangeSpec := { name := "fnExactStepsDo", fn := fun _ => fun
  | [d1, d2, d3] => { results := [.lit (.bool false)], args := [d1, d2, d3] }
  | _ => none }
def FnExactStepsDoWrongFalsely : Prop := fnExactStepsDoRow.holds Try.pinned (OpenSpec.ofChange fnExactStepsDoWrong)

/- THE SECOND FORM. 'bulk': how many values and letters a reading holds, each counted each time it is reached (what is shared counts as often as it is met; a slice's spare places count too). A statement '..UptoSaid' is the law's where the arguments, and the package variables that the reading takes, are together of bulk at most 1048576: NARROWER than '..Said'. Prove '..Said' where nothing that the law and all that it calls make is longer than what came in: it says more and counts as full. Else prove '..UptoSaid'. A law counts once. -/
mutual
def uptoBulk {H : Type} : DataW H → Nat
  | .lit (.string bytes) => bytes.length + 1
  | .lit _ => 1
  | .nil => 1
  | .ptr d => uptoBulk d + 1
  | .slice elems spare => uptoBulkAll elems + uptoBulkAll spare + 1
  | .agg parts => uptoBulkAll parts + 1
  | .iface _ d => uptoBulk d + 1
  | .map entries => uptoBulkEntries entries + 1
  | .held _ => 1
def uptoBulkAll {H : Type} : List (DataW H) → Nat
  | [] => 0
  | d :: r => uptoBulk d + uptoBulkAll r
def uptoBulkEntries {H : Type} : List (Lit × DataW H) → Nat
  | [] => 0
  | x :: r => uptoBulkEntry x + uptoBulkEntries r
def uptoBulkEntry {H : Type} : Lit × DataW H → Nat
  | (.string bytes, d) => bytes.length + uptoBulk d + 1
  | (_, d) => uptoBulk d + 1
 end
def uptoSmall : (H : Type) → List (DataW H) → Bool := fun _ ds => decide (uptoBulkAll ds ≤ 1048576)
def OpenSpec.upto (s : _root_.Go.ChangeSpec) : _root_.Go.OpenSpec := { _root_.Go.OpenSpec.ofChange s with cond := some uptoSmall }

/-- 'laws.FnDrive', WHERE WHAT IT READS IS OF BULK AT MOST 1048576: true; the input reads as it did. -/
def fnDriveUptoRow : OpenClaim := { program := "ytfckgpmphcadeaa", sum := "192430a97eb56a28a847022f66018c5730152fd1a17ee8c96a04649c28be7469", func := "loop.example/g00259/laws.FnDrive", spec := "fnDrive", inPlace := ["internal/bytealg.abigen_runtime_cmpstring", "slices.overlaps[loop.example/g00259/impl.Stored]"], unfollowed := true, recurses := true, apart := false, narrowed := true }
def FnDriveUptoSaid : Prop := fnDriveUptoRow.holds Try.pinned (OpenSpec.upto fnDriveSpec)

/-- 'laws.FnExactDriveDo', WHERE WHAT IT READS IS OF BULK AT MOST 1048576: true; the input reads as it did. -/
def fnExactDriveDoUptoRow : OpenClaim := { program := "ytfckgpmphcadeaa", sum := "192430a97eb56a28a847022f66018c5730152fd1a17ee8c96a04649c28be7469", func := "loop.example/g00259/laws.FnExactDriveDo", spec := "fnExactDriveDo", inPlace := ["internal/bytealg.abigen_runtime_cmpstring", "slices.overlaps[loop.example/g00259/impl.Stored]"], unfollowed := true, recurses := true, apart := false, narrowed := true }
def FnExactDriveDoUptoSaid : Prop := fnExactDriveDoUptoRow.holds Try.pinned (OpenSpec.upto fnExactDriveDoSpec)

/-- 'laws.FnExactArrayRight', WHERE WHAT IT READS IS OF BULK AT MOST 1048576: true; the input reads as it did. -/
def fnExactArrayRightUptoRow : OpenClaim := { program := "ytfckgpmphcadeaa", sum := "192430a97eb56a28a847022f66018c5730152fd1a17ee8c96a04649c28be7469", func := "loop.example/g00259/laws.FnExactArrayRight", spec := "fnExactArrayRight", apart := false, narrowed := true }
def FnExactArrayRightUptoSaid : Prop := fnExactArrayRightUptoRow.holds Try.pinned (OpenSpec.upto fnExactArrayRightSpec)

/-- 'laws.FnExactObjectRight', WHERE WHAT IT READS IS OF BULK AT MOST 1048576: true; the input reads as it did. -/
def fnExactObjectRightUptoRow : OpenClaim := { program := "ytfckgpmphcadeaa", sum := "192430a97eb56a28a847022f66018c5730152fd1a17ee8c96a04649c28be7469", func := "loop.example/g00259/laws.FnExactObjectRight", spec := "fnExactObjectRight", apart := false, narrowed := true }
def FnExactObjectRightUptoSaid : Prop := fnExactObjectRightUptoRow.holds Try.pinned (OpenSpec.upto fnExactObjectRightSpec)

/-- 'laws.FnExactFrameRight', WHERE WHAT IT READS IS OF BULK AT MOST 1048576: true; the input reads as it did. -/
def fnExactFrameRightUptoRow : OpenClaim := { program := "ytfckgpmphcadeaa", sum := "192430a97eb56a28a847022f66018c5730152fd1a17ee8c96a04649c28be7469", func := "loop.example/g00259/laws.FnExactFrameRight", spec := "fnExactFrameRight", apart := false, narrowed := true }
def FnExactFrameRightUptoSaid : Prop := fnExactFrameRightUptoRow.holds Try.pinned (OpenSpec.upto fnExactFrameRightSpec)

/-- 'laws.FnExactObjectNames', WHERE WHAT IT READS IS OF BULK AT MOST 1048576: true; the input reads as it did. -/
def fnExactObjectNamesUptoRow : OpenClaim := { program := "ytfckgpmphcadeaa", sum := "192430a97eb56a28a847022f66018c5730152fd1a17ee8c96a04649c28be7469", func := "loop.example/g00259/laws.FnExactObjectNames", spec := "fnExactObjectNames", recurses := true, apart := false, narrowed := true }
def FnExactObjectNamesUptoSaid : Prop := fnExactObjectNamesUptoRow.holds Try.pinned (OpenSpec.upto fnExactObjectNamesSpec)

/-- 'laws.FnExactStepsDo', WHERE WHAT IT READS IS OF BULK AT MOST 1048576: true; the input reads as it did. -/
def fnExactStepsDoUptoRow : OpenClaim := { program := "ytfckgpmphcadeaa", sum := "192430a97eb56a28a847022f66018c5730152fd1a17ee8c96a04649c28be7469", func := "loop.example/g00259/laws.FnExactStepsDo", spec := "fnExactStepsDo", inPlace := ["internal/bytealg.abigen_runtime_cmpstring", "slices.overlaps[loop.example/g00259/impl.Stored]"], unfollowed := true, recurses := true, apart := false, narrowed := true }
def FnExactStepsDoUptoSaid : Prop := fnExactStepsDoUptoRow.holds Try.pinned (OpenSpec.upto fnExactStepsDoSpec)

end Rows
end Go.Proofs.Ytfckgpmphcadeaa
