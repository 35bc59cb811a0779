/-
  No cell of these rows narrows 'for every input' (looked for: loops, veiled, ifaces, maps, wideKeys, modest, calm, conditions, laid).
  DERIVED. THE GIVEN ROWS OF THIS SEAT. 8 by the template 'for every input the law returns true; each argument reads behind the call as it read before'; 0 by the template 'total and deterministic' (their statements: YthjiilbfmhnlbaaTotals.lean).
  GIVEN WITH THE SEED: the statements are not yours to turn. If you find one false, say at which input.
  Laid BY PROGRAM, IN A SANDBOX (cutbox-rows.mjs): the forced cells as the released guide's own fill.sh prints them over the translation 39f3ab8d0114c5ec… (all of the seat's roots in one cut). By AI agents, Wed Nov 11 2026. No macro, syntax, notation, axiom, sorry.
-/
import Derived.Test.YthjiilbfmhnlbaaChecked
import GoSem.Claim
import GoSem.ClaimJoined
import GoSem.ClaimMapViews
import Derived.JoinedTies
import Derived.KernelRfl
namespace Go.Proofs.Ythjiilbfmhnlbaa
/- THE CELL 'sum', in the pinned program and in every row, IS THE sha256 OF THE DUMP (.gsa) THAT YthjiilbfmhnlbaaProg.lean LOADS. Nothing in Lean hashes anything: it is a label: what it is worth is what the hold of that sum in a sandbox is worth. -/
noncomputable def Try.pinned : Pinned := { name := "ythjiilbfmhnlbaa", sum := "39f3ab8d0114c5ec0fb9120ad2bb4ad9f589022a9a08f0666a2f455828cd6ce8", checked := Try.checked }
namespace Rows
def none {H : Type} : Left H := { results := [], args := [] }

/-- 'laws.FnDrive': WHATEVER THE INPUT: true; the input reads as it did. -/
def fnDriveSpec : ChangeSpec := { name := "fnDrive", fn := fun _ => fun
  | [d1, d2] => { results := [.lit (.bool true)], args := [d1, d2] }
  | _ => none }
def fnDriveRow : OpenClaim := { program := "ythjiilbfmhnlbaa", sum := "39f3ab8d0114c5ec0fb9120ad2bb4ad9f589022a9a08f0666a2f455828cd6ce8", func := "loop.example/g00259/laws.FnDrive", spec := "fnDrive", inPlace := ["internal/bytealg.abigen_runtime_cmpstring", "slices.overlaps[loop.example/g00259/impl.Stored]"], unfollowed := true, recurses := true, apart := false }
def FnDriveSaid : Prop := fnDriveRow.holds Try.pinned (OpenSpec.ofChange fnDriveSpec)

/-- ITS FALSE NEIGHBOUR: 'it returns false'. Refute it at one input. -/
def fnDriveWrong : ChangeSpec := { name := "fnDrive", fn := fun _ => fun
  | [d1, d2] => { results := [.lit (.bool false)], args := [d1, d2] }
  | _ => none }
def FnDriveWrongFalsely : Prop := fnDriveRow.holds Try.pinned (OpenSpec.ofChange fnDriveWrong)

/-- 'laws.FnExactDriveRight': WHATEVER THE INPUT: true; the input reads as it did. -/
def fnExactDriveRightSpec : ChangeSpec := { name := "fnExactDriveRight", fn := fun _ => fun
  | [d] => { results := [.lit (.bool true)], args := [d] }
  | _ => none }
def fnExactDriveRightRow : OpenClaim := { program := "ythjiilbfmhnlbaa", sum := "39f3ab8d0114c5ec0fb9120ad2bb4ad9f589022a9a08f0666a2f455828cd6ce8", func := "loop.example/g00259/laws.FnExactDriveRight", spec := "fnExactDriveRight", apart := false }
def FnExactDriveRightSaid : Prop := fnExactDriveRightRow.holds Try.pinned (OpenSpec.ofChange fnExactDriveRightSpec)

/-- ITS FALSE NEIGHBOUR: 'it returns false'. Refute it at one input. -/
def fnExactDriveRightWrong : ChangeSpec := { name := "fnExactDriveRight", fn := fun _ => fun
  | [d] => { results := [.lit (.bool false)], args := [d] }
  | _ => none }
def FnExactDriveRightWrongFalsely : Prop := fnExactDriveRightRow.holds Try.pinned (OpenSpec.ofChange fnExactDriveRightWrong)

/-- 'laws.FnExactOpRight': WHATEVER THE INPUT: true; the input reads as it did. -/
def fnExactOpRightSpec : ChangeSpec := { name := "fnExactOpRight", fn := fun _ => fun
  | [d] => { results := [.lit (.bool true)], args := [d] }
  | _ => none }
def fnExactOpRightRow : OpenClaim := { program := "ythjiilbfmhnlbaa", sum := "39f3ab8d0114c5ec0fb9120ad2bb4ad9f589022a9a08f0666a2f455828cd6ce8", func := "loop.example/g00259/laws.FnExactOpRight", spec := "fnExactOpRight", unfollowed := true, recurses := true, apart := false }
def FnExactOpRightSaid : Prop := fnExactOpRightRow.holds Try.pinned (OpenSpec.ofChange fnExactOpRightSpec)

/-- ITS FALSE NEIGHBOUR: 'it returns false'. Refute it at one input. -/
def fnExactOpRightWrong : ChangeSpec := { name := "fnExactOpRight", fn := fun _ => fun
  | [d] => { results := [.lit (.bool false)], args := [d] }
  | _ => none }
def FnExactOpRightWrongFalsely : Prop := fnExactOpRightRow.holds Try.pinned (OpenSpec.ofChange fnExactOpRightWrong)

/-- 'laws.FnExactDriveDo': WHATEVER THE INPUT: true; the input reads as it did. -/
def fnExactDriveDoSpec : ChangeSpec := { name := "fnExactDriveDo", fn := fun _ => fun
  | [d1, d2] => { results := [.lit (.bool true)], args := [d1, d2] }
  | _ => none }
def fnExactDriveDoRow : OpenClaim := { program := "ythjiilbfmhnlbaa", sum := "39f3ab8d0114c5ec0fb9120ad2bb4ad9f589022a9a08f0666a2f455828cd6ce8", func := "loop.example/g00259/laws.FnExactDriveDo", spec := "fnExactDriveDo", inPlace := ["internal/bytealg.abigen_runtime_cmpstring", "slices.overlaps[loop.example/g00259/impl.Stored]"], unfollowed := true, recurses := true, apart := false }
def FnExactDriveDoSaid : Prop := fnExactDriveDoRow.holds Try.pinned (OpenSpec.ofChange fnExactDriveDoSpec)

/-- ITS FALSE NEIGHBOUR: 'it returns false'. Refute it at one input. -/
def fnExactDriveDoWrong : ChangeSpec := { name := "fnExactDriveDo", fn := fun _ => fun
  | [d1, d2] => { results := [.lit (.bool false)], args := [d1, d2] }
  | _ => none }
def FnExactDriveDoWrongFalsely : Prop := fnExactDriveDoRow.holds Try.pinned (OpenSpec.ofChange fnExactDriveDoWrong)

/-- 'laws.FnExactDriveRead': WHATEVER THE INPUT: true; the input reads as it did. -/
def fnExactDriveReadSpec : ChangeSpec := { name := "fnExactDriveRead", fn := fun _ => fun
  | [d1, d2] => { results := [.lit (.bool true)], args := [d1, d2] }
  | _ => none }
def fnExactDriveReadRow : OpenClaim := { program := "ythjiilbfmhnlbaa", sum := "39f3ab8d0114c5ec0fb9120ad2bb4ad9f589022a9a08f0666a2f455828cd6ce8", func := "loop.example/g00259/laws.FnExactDriveRead", spec := "fnExactDriveRead", inPlace := ["internal/bytealg.abigen_runtime_cmpstring"], unfollowed := true, recurses := true, apart := false }
def FnExactDriveReadSaid : Prop := fnExactDriveReadRow.holds Try.pinned (OpenSpec.ofChange fnExactDriveReadSpec)

/-- ITS FALSE NEIGHBOUR: 'it returns false'. Refute it at one input. -/
def fnExactDriveReadWrong : ChangeSpec := { name := "fnExactDriveRead", fn := fun _ => fun
  | [d1, d2] => { results := [.lit (.bool false)], args := [d1, d2] }
  | _ => none }
def FnExactDriveReadWrongFalsely : Prop := fnExactDriveReadRow.holds Try.pinned (OpenSpec.ofChange fnExactDriveReadWrong)

/-- 'laws.FnExactDriveNames': WHATEVER THE INPUT: true; the input reads as it did. -/
def fnExactDriveNamesSpec : ChangeSpec := { name := "fnExactDriveNames", fn := fun _ => fun
  | [d] => { results := [.lit (.bool true)], args := [d] }
  | _ => none }
def fnExactDriveNamesRow : OpenClaim := { program := "ythjiilbfmhnlbaa", sum := "39f3ab8d0114c5ec0fb9120ad2bb4ad9f589022a9a08f0666a2f455828cd6ce8", func := "loop.example/g00259/laws.FnExactDriveNames", spec := "fnExactDriveNames", apart := false }
def FnExactDriveNamesSaid : Prop := fnExactDriveNamesRow.holds Try.pinned (OpenSpec.ofChange fnExactDriveNamesSpec)

/-- ITS FALSE NEIGHBOUR: 'it returns false'. Refute it at one input. -/
def fnExactDriveNamesWrong : ChangeSpec := { name := "fnExactDriveNames", fn := fun _ => fun
  | [d] => { results := [.lit (.bool false)], args := [d] }
  | _ => none }
def FnExactDriveNamesWrongFalsely : Prop := fnExactDriveNamesRow.holds Try.pinned (OpenSpec.ofChange fnExactDriveNamesWrong)

/-- 'laws.FnExactDriveCrash': WHATEVER THE INPUT: true; the input reads as it did. -/
def fnExactDriveCrashSpec : ChangeSpec := { name := "fnExactDriveCrash", fn := fun _ => fun
  | [d1, d2] => { results := [.lit (.bool true)], args := [d1, d2] }
  | _ => none }
def fnExactDriveCrashRow : OpenClaim := { program := "ythjiilbfmhnlbaa", sum := "39f3ab8d0114c5ec0fb9120ad2bb4ad9f589022a9a08f0666a2f455828cd6ce8", func := "loop.example/g00259/laws.FnExactDriveCrash", spec := "fnExactDriveCrash", apart := false }
def FnExactDriveCrashSaid : Prop := fnExactDriveCrashRow.holds Try.pinned (OpenSpec.ofChange fnExactDriveCrashSpec)

/-- ITS FALSE NEIGHBOUR: 'it returns false'. Refute it at one input. -/
def fnExactDriveCrashWrong : ChangeSpec := { name := "fnExactDriveCrash", fn := fun _ => fun
  | [d1, d2] => { results := [.lit (.bool false)], args := [d1, d2] }
  | _ => none }
def FnExactDriveCrashWrongFalsely : Prop := fnExactDriveCrashRow.holds Try.pinned (OpenSpec.ofChange fnExactDriveCrashWrong)

/-- 'laws.FnExactDriveRot': WHATEVER THE INPUT: true; the input reads as it did. -/
def fnExactDriveRotSpec : ChangeSpec := { name := "fnExactDriveRot", fn := fun _ => fun
  | [d1, d2, d3, d4] => { results := [.lit (.bool true)], args := [d1, d2, d3, d4] }
  | _ => none }
def fnExactDriveRotRow : OpenClaim := { program := "ythjiilbfmhnlbaa", sum := "39f3ab8d0114c5ec0fb9120ad2bb4ad9f589022a9a08f0666a2f455828cd6ce8", func := "loop.example/g00259/laws.FnExactDriveRot", spec := "fnExactDriveRot", inPlace := ["internal/bytealg.abigen_runtime_cmpstring"], unfollowed := true, recurses := true, apart := false }
def FnExactDriveRotSaid : Prop := fnExactDriveRotRow.holds Try.pinned (OpenSpec.ofChange fnExactDriveRotSpec)

/-- ITS FALSE NEIGHBOUR: 'it returns false'. Refute it at one input. -/
def fnExactDriveRotWrong : ChangeSpec := { name := "fnExactDriveRot", fn := fun _ => fun
  | [d1, d2, d3, d4] => { results := [.lit (.bool false)], args := [d1, d2, d3, d4] }
  | _ => none }
def FnExactDriveRotWrongFalsely : Prop := fnExactDriveRotRow.holds Try.pinned (OpenSpec.ofChange fnExactDriveRotWrong)

/- THE SECOND FORM. 'bulk': how many values and letters a reading holds, each counted each time it is reached (what is shared counts as often as it is met; a slice's spare places count too). A statement '..UptoSaid' is the law's where the arguments, and the package variables that the reading takes, are together of bulk at most 1048576: NARROWER than '..Said'. Prove '..Said' where nothing that the law and all that it calls make is longer than what came in: it says more and counts as full. Else prove '..UptoSaid'. A law counts once. -/
mutual
def uptoBulk {H : Type} : DataW H → Nat
  | .lit (.string bytes) => bytes.length + 1
  | .lit _ => 1
  | .nil => 1
  | .ptr d => uptoBulk d + 1
  | .slice elems spare => uptoBulkAll elems + uptoBulkAll spare + 1
  | .agg parts => uptoBulkAll parts + 1
  | .iface _ d => uptoBulk d + 1
  | .map entries => uptoBulkEntries entries + 1
  | .held _ => 1
def uptoBulkAll {H : Type} : List (DataW H) → Nat
  | [] => 0
  | d :: r => uptoBulk d + uptoBulkAll r
def uptoBulkEntries {H : Type} : List (Lit × DataW H) → Nat
  | [] => 0
  | x :: r => uptoBulkEntry x + uptoBulkEntries r
def uptoBulkEntry {H : Type} : Lit × DataW H → Nat
  | (.string bytes, d) => bytes.length + uptoBulk d + 1
  | (_, d) => uptoBulk d + 1
 end
def uptoSmall : (H : Type) → List (DataW H) → Bool := fun _ ds => decide (uptoBulkAll ds ≤ 1048576)
def OpenSpec.upto (s : _root_.Go.ChangeSpec) : _root_.Go.OpenSpec := { _root_.Go.OpenSpec.ofChange s with cond := some uptoSmall }

/-- 'laws.FnDrive', WHERE WHAT IT READS IS OF BULK AT MOST 1048576: true; the input reads as it did. -/
def fnDriveUptoRow : OpenClaim := { program := "ythjiilbfmhnlbaa", sum := "39f3ab8d0114c5ec0fb9120ad2bb4ad9f589022a9a08f0666a2f455828cd6ce8", func := "loop.example/g00259/laws.FnDrive", spec := "fnDrive", inPlace := ["internal/bytealg.abigen_runtime_cmpstring", "slices.overlaps[loop.example/g00259/impl.Stored]"], unfollowed := true, recurses := true, apart := false, narrowed := true }
def FnDriveUptoSaid : Prop := fnDriveUptoRow.holds Try.pinned (OpenSpec.upto fnDriveSpec)

/-- 'laws.FnExactDriveRight', WHERE WHAT IT READS IS OF BULK AT MOST 1048576: true; the input reads as it did. -/
def fnExactDriveRightUptoRow : OpenClaim := { program := "ythjiilbfmhnlbaa", sum := "39f3ab8d0114c5ec0fb9120ad2bb4ad9f589022a9a08f0666a2f455828cd6ce8", func := "loop.example/g00259/laws.FnExactDriveRight", spec := "fnExactDriveRight", apart := false, narrowed := true }
def FnExactDriveRightUptoSaid : Prop := fnExactDriveRightUptoRow.holds Try.pinned (OpenSpec.upto fnExactDriveRightSpec)

/-- 'laws.FnExactOpRight', WHERE WHAT IT READS IS OF BULK AT MOST 1048576: true; the input reads as it did. -/
def fnExactOpRightUptoRow : OpenClaim := { program := "ythjiilbfmhnlbaa", sum := "39f3ab8d0114c5ec0fb9120ad2bb4ad9f589022a9a08f0666a2f455828cd6ce8", func := "loop.example/g00259/laws.FnExactOpRight", spec := "fnExactOpRight", unfollowed := true, recurses := true, apart := false, narrowed := true }
def FnExactOpRightUptoSaid : Prop := fnExactOpRightUptoRow.holds Try.pinned (OpenSpec.upto fnExactOpRightSpec)

/-- 'laws.FnExactDriveDo', WHERE WHAT IT READS IS OF BULK AT MOST 1048576: true; the input reads as it did. -/
def fnExactDriveDoUptoRow : OpenClaim := { program := "ythjiilbfmhnlbaa", sum := "39f3ab8d0114c5ec0fb9120ad2bb4ad9f589022a9a08f0666a2f455828cd6ce8", func := "loop.example/g00259/laws.FnExactDriveDo", spec := "fnExactDriveDo", inPlace := ["internal/bytealg.abigen_runtime_cmpstring", "slices.overlaps[loop.example/g00259/impl.Stored]"], unfollowed := true, recurses := true, apart := false, narrowed := true }
def FnExactDriveDoUptoSaid : Prop := fnExactDriveDoUptoRow.holds Try.pinned (OpenSpec.upto fnExactDriveDoSpec)

/-- 'laws.FnExactDriveRead', WHERE WHAT IT READS IS OF BULK AT MOST 1048576: true; the input reads as it did. -/
def fnExactDriveReadUptoRow : OpenClaim := { program := "ythjiilbfmhnlbaa", sum := "39f3ab8d0114c5ec0fb9120ad2bb4ad9f589022a9a08f0666a2f455828cd6ce8", func := "loop.example/g00259/laws.FnExactDriveRead", spec := "fnExactDriveRead", inPlace := ["internal/bytealg.abigen_runtime_cmpstring"], unfollowed := true, recurses := true, apart := false, narrowed := true }
def FnExactDriveReadUptoSaid : Prop := fnExactDriveReadUptoRow.holds Try.pinned (OpenSpec.upto fnExactDriveReadSpec)

/-- 'laws.FnExactDriveNames', WHERE WHAT IT READS IS OF BULK AT MOST 1048576: true; the input reads as it did. -/
def fnExactDriveNamesUptoRow : OpenClaim := { program := "ythjiilbfmhnlbaa", sum := "39f3ab8d0114c5ec0fb9120ad2bb4ad9f589022a9a08f0666a2f455828cd6ce8", func := "loop.example/g00259/laws.FnExactDriveNames", spec := "fnExactDriveNames", apart := false, narrowed := true }
def FnExactDriveNamesUptoSaid : Prop := fnExactDriveNamesUptoRow.holds Try.pinned (OpenSpec.upto fnExactDriveNamesSpec)

/-- 'laws.FnExactDriveCrash', WHERE WHAT IT READS IS OF BULK AT MOST 1048576: true; the input reads as it did. -/
def fnExactDriveCrashUptoRow : OpenClaim := { program := "ythjiilbfmhnlbaa", sum := "39f3ab8d0114c5ec0fb9120ad2bb4ad9f589022a9a08f0666a2f455828cd6ce8", func := "loop.example/g00259/laws.FnExactDriveCrash", spec := "fnExactDriveCrash", apart := false, narrowed := true }
def FnExactDriveCrashUptoSaid : Prop := fnExactDriveCrashUptoRow.holds Try.pinned (OpenSpec.upto fnExactDriveCrashSpec)

/-- 'laws.FnExactDriveRot', WHERE WHAT IT READS IS OF BULK AT MOST 1048576: true; the input reads as it did. -/
def fnExactDriveRotUptoRow : OpenClaim := { program := "ythjiilbfmhnlbaa", sum := "39f3ab8d0114c5ec0fb9120ad2bb4ad9f589022a9a08f0666a2f455828cd6ce8", func := "loop.example/g00259/laws.FnExactDriveRot", spec := "fnExactDriveRot", inPlace := ["internal/bytealg.abigen_runtime_cmpstring"], unfollowed := true, recurses := true, apart := false, narrowed := true }
def FnExactDriveRotUptoSaid : Prop := fnExactDriveRotUptoRow.holds Try.pinned (OpenSpec.upto fnExactDriveRotSpec)

end Rows
end Go.Proofs.Ythjiilbfmhnlbaa
