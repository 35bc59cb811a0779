/-
  No cell of these rows narrows 'for every input' (looked for: loops, veiled, ifaces, maps, wideKeys, modest, calm, conditions, laid).
  DERIVED. THE GIVEN ROWS OF THIS SEAT. 2 by the template 'for every input the law returns true; each argument reads behind the call as it read before'; 0 by the template 'total and deterministic' (their statements: YtoklibbefjnlhabTotals.lean).
  GIVEN WITH THE SEED: the statements are not yours to turn. If you find one false, say at which input.
  Laid BY PROGRAM, IN A SANDBOX (cutbox-rows.mjs): the forced cells as the released guide's own fill.sh prints them over the translation 9dd9686c44e9777a… (all of the seat's roots in one cut). By AI agents, Wed Nov 11 2026. No macro, syntax, notation, axiom, sorry.
-/
import Derived.Test.YtoklibbefjnlhabChecked
import GoSem.Claim
import GoSem.ClaimJoined
import GoSem.ClaimMapViews
import Derived.JoinedTies
import Derived.KernelRfl
namespace Go.Proofs.Ytoklibbefjnlhab
/- THE CELL 'sum', in the pinned program and in every row, IS THE sha256 OF THE DUMP (.gsa) THAT YtoklibbefjnlhabProg.lean LOADS. Nothing in Lean hashes anything: it is a label: what it is worth is what the hold of that sum in a sandbox is worth. -/
noncomputable def Try.pinned : Pinned := { name := "ytoklibbefjnlhab", sum := "9dd9686c44e9777ada4ee2a94d8e65c1fbcf55eaae089fed3d6989c200b59fdb", checked := Try.checked }
namespace Rows
def none {H : Type} : Left H := { results := [], args := [] }

/-- 'laws.FnExactMatrixRight': WHATEVER THE INPUT: true; the input reads as it did. -/
def fnExactMatrixRightSpec : ChangeSpec := { name := "fnExactMatrixRight", fn := fun _ => fun
  | [d] => { results := [.lit (.bool true)], args := [d] }
  | _ => none }
def fnExactMatrixRightRow : OpenClaim := { program := "ytoklibbefjnlhab", sum := "9dd9686c44e9777ada4ee2a94d8e65c1fbcf55eaae089fed3d6989c200b59fdb", func := "loop.example/g00259/laws.FnExactMatrixRight", spec := "fnExactMatrixRight", apart := false }
def FnExactMatrixRightSaid : Prop := fnExactMatrixRightRow.holds Try.pinned (OpenSpec.ofChange fnExactMatrixRightSpec)

/-- ITS FALSE NEIGHBOUR: 'it returns false'. Refute it at one input. -/
def fnExactMatrixRightWrong : ChangeSpec := { name := "fnExactMatrixRight", fn := fun _ => fun
  | [d] => { results := [.lit (.bool false)], args := [d] }
  | _ => none }
def FnExactMatrixRightWrongFalsely : Prop := fnExactMatrixRightRow.holds Try.pinned (OpenSpec.ofChange fnExactMatrixRightWrong)

/-- 'laws.FnExactMatrixPick': WHATEVER THE INPUT: true; the input reads as it did. -/
def fnExactMatrixPickSpec : ChangeSpec := { name := "fnExactMatrixPick", fn := fun _ => fun
  | [d1, d2] => { results := [.lit (.bool true)], args := [d1, d2] }
  | _ => none }
def fnExactMatrixPickRow : OpenClaim := { program := "ytoklibbefjnlhab", sum := "9dd9686c44e9777ada4ee2a94d8e65c1fbcf55eaae089fed3d6989c200b59fdb", func := "loop.example/g00259/laws.FnExactMatrixPick", spec := "fnExactMatrixPick", apart := false }
def FnExactMatrixPickSaid : Prop := fnExactMatrixPickRow.holds Try.pinned (OpenSpec.ofChange fnExactMatrixPickSpec)

/-- ITS FALSE NEIGHBOUR: 'it returns false'. Refute it at one input. -/
def fnExactMatrixPickWrong : ChangeSpec := { name := "fnExactMatrixPick", fn := fun _ => fun
  | [d1, d2] => { results := [.lit (.bool false)], args := [d1, d2] }
  | _ => none }
def FnExactMatrixPickWrongFalsely : Prop := fnExactMatrixPickRow.holds Try.pinned (OpenSpec.ofChange fnExactMatrixPickWrong)

/- THE SECOND FORM. 'bulk': how many values and letters a reading holds, each counted each time it is reached (what is shared counts as often as it is met; a slice's spare places count too). A statement '..UptoSaid' is the law's where the arguments, and the package variables that the reading takes, are together of bulk at most 1048576: NARROWER than '..Said'. Prove '..Said' where nothing that the law and all that it calls make is longer than what came in: it says more and counts as full. Else prove '..UptoSaid'. A law counts once. -/
mutual
def uptoBulk {H : Type} : DataW H → Nat
  | .lit (.string bytes) => bytes.length + 1
  | .lit _ => 1
  | .nil => 1
  | .ptr d => uptoBulk d + 1
  | .slice elems spare => uptoBulkAll elems + uptoBulkAll spare + 1
  | .agg parts => uptoBulkAll parts + 1
  | .iface _ d => uptoBulk d + 1
  | .map entries => uptoBulkEntries entries + 1
  | .held _ => 1
def uptoBulkAll {H : Type} : List (DataW H) → Nat
  | [] => 0
  | d :: r => uptoBulk d + uptoBulkAll r
def uptoBulkEntries {H : Type} : List (Lit × DataW H) → Nat
  | [] => 0
  | x :: r => uptoBulkEntry x + uptoBulkEntries r
def uptoBulkEntry {H : Type} : Lit × DataW H → Nat
  | (.string bytes, d) => bytes.length + uptoBulk d + 1
  | (_, d) => uptoBulk d + 1
 end
def uptoSmall : (H : Type) → List (DataW H) → Bool := fun _ ds => decide (uptoBulkAll ds ≤ 1048576)
def OpenSpec.upto (s : _root_.Go.ChangeSpec) : _root_.Go.OpenSpec := { _root_.Go.OpenSpec.ofChange s with cond := some uptoSmall }

/-- 'laws.FnExactMatrixRight', WHERE WHAT IT READS IS OF BULK AT MOST 1048576: true; the input reads as it did. -/
def fnExactMatrixRightUptoRow : OpenClaim := { program := "ytoklibbefjnlhab", sum := "9dd9686c44e9777ada4ee2a94d8e65c1fbcf55eaae089fed3d6989c200b59fdb", func := "loop.example/g00259/laws.FnExactMatrixRight", spec := "fnExactMatrixRight", apart := false, narrowed := true }
def FnExactMatrixRightUptoSaid : Prop := fnExactMatrixRightUptoRow.holds Try.pinned (OpenSpec.upto fnExactMatrixRightSpec)

/-- 'laws.FnExactMatrixPick', WHERE WHAT IT READS IS OF BULK AT MOST 1048576: true; the input reads as it did. -/
def fnExactMatrixPickUptoRow : OpenClaim := { program := "ytoklibbefjnlhab", sum := "9dd9686c44e9777ada4ee2a94d8e65c1fbcf55eaae089fed3d6989c200b59fdb", func := "loop.example/g00259/laws.FnExactMatrixPick", spec := "fnExactMatrixPick", apart := false, narrowed := true }
def FnExactMatrixPickUptoSaid : Prop := fnExactMatrixPickUptoRow.holds Try.pinned (OpenSpec.upto fnExactMatrixPickSpec)

end Rows
end Go.Proofs.Ytoklibbefjnlhab
