/-
  No cell of these rows narrows 'for every input' (looked for: loops, veiled, ifaces, maps, wideKeys, modest, calm, conditions, laid).
  DERIVED. THE GIVEN ROWS OF THIS SEAT. 8 by the template 'for every input the law returns true; each argument reads behind the call as it read before'; 0 by the template 'total and deterministic' (their statements: YtbdkpcgmnppkgaaTotals.lean).
  GIVEN WITH THE SEED: the statements are not yours to turn. If you find one false, say at which input.
  Laid BY PROGRAM, IN A SANDBOX (cutbox-rows.mjs): the forced cells as the released guide's own fill.sh prints them over the translation 4269848b657a701f… (all of the seat's roots in one cut). By AI agents, Wed Nov 11 2026. No macro, syntax, notation, axiom, sorry.
-/
import Derived.Test.YtbdkpcgmnppkgaaChecked
import GoSem.Claim
import GoSem.ClaimJoined
import GoSem.ClaimMapViews
import Derived.JoinedTies
import Derived.KernelRfl
namespace Go.Proofs.Ytbdkpcgmnppkgaa
/- THE CELL 'sum', in the pinned program and in every row, IS THE sha256 OF THE DUMP (.gsa) THAT YtbdkpcgmnppkgaaProg.lean LOADS. Nothing in Lean hashes anything: it is a label: what it is worth is what the hold of that sum in a sandbox is worth. -/
noncomputable def Try.pinned : Pinned := { name := "ytbdkpcgmnppkgaa", sum := "4269848b657a701f4a752f62bb2e3a0eef2670388dd7c93f72abb59390048cb5", checked := Try.checked }
namespace Rows
def none {H : Type} : Left H := { results := [], args := [] }

/-- 'laws.FnFinger': WHATEVER THE INPUT: true; the input reads as it did. -/
def fnFingerSpec : ChangeSpec := { name := "fnFinger", fn := fun _ => fun
  | [d] => { results := [.lit (.bool true)], args := [d] }
  | _ => none }
def fnFingerRow : OpenClaim := { program := "ytbdkpcgmnppkgaa", sum := "4269848b657a701f4a752f62bb2e3a0eef2670388dd7c93f72abb59390048cb5", func := "loop.example/g00259/laws.FnFinger", spec := "fnFinger", apart := false }
def FnFingerSaid : Prop := fnFingerRow.holds Try.pinned (OpenSpec.ofChange fnFingerSpec)

/-- ITS FALSE NEIGHBOUR: 'it returns false'. Refute it at one input. -/
def fnFingerWrong : ChangeSpec := { name := "fnFinger", fn := fun _ => fun
  | [d] => { results := [.lit (.bool false)], args := [d] }
  | _ => none }
def FnFingerWrongFalsely : Prop := fnFingerRow.holds Try.pinned (OpenSpec.ofChange fnFingerWrong)

/-- 'laws.FnPieces': WHATEVER THE INPUT: true; the input reads as it did. -/
def fnPiecesSpec : ChangeSpec := { name := "fnPieces", fn := fun _ => fun
  | [d1, d2] => { results := [.lit (.bool true)], args := [d1, d2] }
  | _ => none }
def fnPiecesRow : OpenClaim := { program := "ytbdkpcgmnppkgaa", sum := "4269848b657a701f4a752f62bb2e3a0eef2670388dd7c93f72abb59390048cb5", func := "loop.example/g00259/laws.FnPieces", spec := "fnPieces", unfollowed := true, recurses := true, apart := false }
def FnPiecesSaid : Prop := fnPiecesRow.holds Try.pinned (OpenSpec.ofChange fnPiecesSpec)

/-- ITS FALSE NEIGHBOUR: 'it returns false'. Refute it at one input. -/
def fnPiecesWrong : ChangeSpec := { name := "fnPieces", fn := fun _ => fun
  | [d1, d2] => { results := [.lit (.bool false)], args := [d1, d2] }
  | _ => none }
def FnPiecesWrongFalsely : Prop := fnPiecesRow.holds Try.pinned (OpenSpec.ofChange fnPiecesWrong)

/-- 'laws.FnExactCuttingRight': WHATEVER THE INPUT: true; the input reads as it did. -/
def fnExactCuttingRightSpec : ChangeSpec := { name := "fnExactCuttingRight", fn := fun _ => fun
  | [d] => { results := [.lit (.bool true)], args := [d] }
  | _ => none }
def fnExactCuttingRightRow : OpenClaim := { program := "ytbdkpcgmnppkgaa", sum := "4269848b657a701f4a752f62bb2e3a0eef2670388dd7c93f72abb59390048cb5", func := "loop.example/g00259/laws.FnExactCuttingRight", spec := "fnExactCuttingRight", apart := false }
def FnExactCuttingRightSaid : Prop := fnExactCuttingRightRow.holds Try.pinned (OpenSpec.ofChange fnExactCuttingRightSpec)

/-- ITS FALSE NEIGHBOUR: 'it returns false'. Refute it at one input. -/
def fnExactCuttingRightWrong : ChangeSpec := { name := "fnExactCuttingRight", fn := fun _ => fun
  | [d] => { results := [.lit (.bool false)], args := [d] }
  | _ => none }
def FnExactCuttingRightWrongFalsely : Prop := fnExactCuttingRightRow.holds Try.pinned (OpenSpec.ofChange fnExactCuttingRightWrong)

/-- 'laws.FnExactFinger': WHATEVER THE INPUT: true; the input reads as it did. -/
def fnExactFingerSpec : ChangeSpec := { name := "fnExactFinger", fn := fun _ => fun
  | [d] => { results := [.lit (.bool true)], args := [d] }
  | _ => none }
def fnExactFingerRow : OpenClaim := { program := "ytbdkpcgmnppkgaa", sum := "4269848b657a701f4a752f62bb2e3a0eef2670388dd7c93f72abb59390048cb5", func := "loop.example/g00259/laws.FnExactFinger", spec := "fnExactFinger", apart := false }
def FnExactFingerSaid : Prop := fnExactFingerRow.holds Try.pinned (OpenSpec.ofChange fnExactFingerSpec)

/-- ITS FALSE NEIGHBOUR: 'it returns false'. Refute it at one input. -/
def fnExactFingerWrong : ChangeSpec := { name := "fnExactFinger", fn := fun _ => fun
  | [d] => { results := [.lit (.bool false)], args := [d] }
  | _ => none }
def FnExactFingerWrongFalsely : Prop := fnExactFingerRow.holds Try.pinned (OpenSpec.ofChange fnExactFingerWrong)

/-- 'laws.FnExactFingerMore': WHATEVER THE INPUT: true; the input reads as it did. -/
def fnExactFingerMoreSpec : ChangeSpec := { name := "fnExactFingerMore", fn := fun _ => fun
  | [d1, d2] => { results := [.lit (.bool true)], args := [d1, d2] }
  | _ => none }
def fnExactFingerMoreRow : OpenClaim := { program := "ytbdkpcgmnppkgaa", sum := "4269848b657a701f4a752f62bb2e3a0eef2670388dd7c93f72abb59390048cb5", func := "loop.example/g00259/laws.FnExactFingerMore", spec := "fnExactFingerMore", apart := false }
def FnExactFingerMoreSaid : Prop := fnExactFingerMoreRow.holds Try.pinned (OpenSpec.ofChange fnExactFingerMoreSpec)

/-- ITS FALSE NEIGHBOUR: 'it returns false'. Refute it at one input. -/
def fnExactFingerMoreWrong : ChangeSpec := { name := "fnExactFingerMore", fn := fun _ => fun
  | [d1, d2] => { results := [.lit (.bool false)], args := [d1, d2] }
  | _ => none }
def FnExactFingerMoreWrongFalsely : Prop := fnExactFingerMoreRow.holds Try.pinned (OpenSpec.ofChange fnExactFingerMoreWrong)

/-- 'laws.FnExactFingerRoll': WHATEVER THE INPUT: true; the input reads as it did. -/
def fnExactFingerRollSpec : ChangeSpec := { name := "fnExactFingerRoll", fn := fun _ => fun
  | [d1, d2, d3] => { results := [.lit (.bool true)], args := [d1, d2, d3] }
  | _ => none }
def fnExactFingerRollRow : OpenClaim := { program := "ytbdkpcgmnppkgaa", sum := "4269848b657a701f4a752f62bb2e3a0eef2670388dd7c93f72abb59390048cb5", func := "loop.example/g00259/laws.FnExactFingerRoll", spec := "fnExactFingerRoll", apart := false }
def FnExactFingerRollSaid : Prop := fnExactFingerRollRow.holds Try.pinned (OpenSpec.ofChange fnExactFingerRollSpec)

/-- ITS FALSE NEIGHBOUR: 'it returns false'. Refute it at one input. -/
def fnExactFingerRollWrong : ChangeSpec := { name := "fnExactFingerRoll", fn := fun _ => fun
  | [d1, d2, d3] => { results := [.lit (.bool false)], args := [d1, d2, d3] }
  | _ => none }
def FnExactFingerRollWrongFalsely : Prop := fnExactFingerRollRow.holds Try.pinned (OpenSpec.ofChange fnExactFingerRollWrong)

/-- 'laws.FnExactCutAt': WHATEVER THE INPUT: true; the input reads as it did. -/
def fnExactCutAtSpec : ChangeSpec := { name := "fnExactCutAt", fn := fun _ => fun
  | [d1, d2] => { results := [.lit (.bool true)], args := [d1, d2] }
  | _ => none }
def fnExactCutAtRow : OpenClaim := { program := "ytbdkpcgmnppkgaa", sum := "4269848b657a701f4a752f62bb2e3a0eef2670388dd7c93f72abb59390048cb5", func := "loop.example/g00259/laws.FnExactCutAt", spec := "fnExactCutAt", unfollowed := true, recurses := true, apart := false }
def FnExactCutAtSaid : Prop := fnExactCutAtRow.holds Try.pinned (OpenSpec.ofChange fnExactCutAtSpec)

/-- ITS FALSE NEIGHBOUR: 'it returns false'. Refute it at one input. -/
def fnExactCutAtWrong : ChangeSpec := { name := "fnExactCutAt", fn := fun _ => fun
  | [d1, d2] => { results := [.lit (.bool false)], args := [d1, d2] }
  | _ => none }
def FnExactCutAtWrongFalsely : Prop := fnExactCutAtRow.holds Try.pinned (OpenSpec.ofChange fnExactCutAtWrong)

/-- 'laws.FnExactPieces': WHATEVER THE INPUT: true; the input reads as it did. -/
def fnExactPiecesSpec : ChangeSpec := { name := "fnExactPieces", fn := fun _ => fun
  | [d1, d2] => { results := [.lit (.bool true)], args := [d1, d2] }
  | _ => none }
def fnExactPiecesRow : OpenClaim := { program := "ytbdkpcgmnppkgaa", sum := "4269848b657a701f4a752f62bb2e3a0eef2670388dd7c93f72abb59390048cb5", func := "loop.example/g00259/laws.FnExactPieces", spec := "fnExactPieces", unfollowed := true, recurses := true, apart := false }
def FnExactPiecesSaid : Prop := fnExactPiecesRow.holds Try.pinned (OpenSpec.ofChange fnExactPiecesSpec)

/-- ITS FALSE NEIGHBOUR: 'it returns false'. Refute it at one input. -/
def fnExactPiecesWrong : ChangeSpec := { name := "fnExactPieces", fn := fun _ => fun
  | [d1, d2] => { results := [.lit (.bool false)], args := [d1, d2] }
  | _ => none }
def FnExactPiecesWrongFalsely : Prop := fnExactPiecesRow.holds Try.pinned (OpenSpec.ofChange fnExactPiecesWrong)

/- THE SECOND FORM. 'bulk': how many values and letters a reading holds, each counted each time it is reached (what is shared counts as often as it is met; a slice's spare places count too). A statement '..UptoSaid' is the law's where the arguments, and the package variables that the reading takes, are together of bulk at most 1048576: NARROWER than '..Said'. Prove '..Said' where nothing that the law and all that it calls make is longer than what came in: it says more and counts as full. Else prove '..UptoSaid'. A law counts once. -/
mutual
def uptoBulk {H : Type} : DataW H → Nat
  | .lit (.string bytes) => bytes.length + 1
  | .lit _ => 1
  | .nil => 1
  | .ptr d => uptoBulk d + 1
  | .slice elems spare => uptoBulkAll elems + uptoBulkAll spare + 1
  | .agg parts => uptoBulkAll parts + 1
  | .iface _ d => uptoBulk d + 1
  | .map entries => uptoBulkEntries entries + 1
  | .held _ => 1
def uptoBulkAll {H : Type} : List (DataW H) → Nat
  | [] => 0
  | d :: r => uptoBulk d + uptoBulkAll r
def uptoBulkEntries {H : Type} : List (Lit × DataW H) → Nat
  | [] => 0
  | x :: r => uptoBulkEntry x + uptoBulkEntries r
def uptoBulkEntry {H : Type} : Lit × DataW H → Nat
  | (.string bytes, d) => bytes.length + uptoBulk d + 1
  | (_, d) => uptoBulk d + 1
 end
def uptoSmall : (H : Type) → List (DataW H) → Bool := fun _ ds => decide (uptoBulkAll ds ≤ 1048576)
def OpenSpec.upto (s : _root_.Go.ChangeSpec) : _root_.Go.OpenSpec := { _root_.Go.OpenSpec.ofChange s with cond := some uptoSmall }

/-- 'laws.FnFinger', WHERE WHAT IT READS IS OF BULK AT MOST 1048576: true; the input reads as it did. -/
def fnFingerUptoRow : OpenClaim := { program := "ytbdkpcgmnppkgaa", sum := "4269848b657a701f4a752f62bb2e3a0eef2670388dd7c93f72abb59390048cb5", func := "loop.example/g00259/laws.FnFinger", spec := "fnFinger", apart := false, narrowed := true }
def FnFingerUptoSaid : Prop := fnFingerUptoRow.holds Try.pinned (OpenSpec.upto fnFingerSpec)

/-- 'laws.FnPieces', WHERE WHAT IT READS IS OF BULK AT MOST 1048576: true; the input reads as it did. -/
def fnPiecesUptoRow : OpenClaim := { program := "ytbdkpcgmnppkgaa", sum := "4269848b657a701f4a752f62bb2e3a0eef2670388dd7c93f72abb59390048cb5", func := "loop.example/g00259/laws.FnPieces", spec := "fnPieces", unfollowed := true, recurses := true, apart := false, narrowed := true }
def FnPiecesUptoSaid : Prop := fnPiecesUptoRow.holds Try.pinned (OpenSpec.upto fnPiecesSpec)

/-- 'laws.FnExactCuttingRight', WHERE WHAT IT READS IS OF BULK AT MOST 1048576: true; the input reads as it did. -/
def fnExactCuttingRightUptoRow : OpenClaim := { program := "ytbdkpcgmnppkgaa", sum := "4269848b657a701f4a752f62bb2e3a0eef2670388dd7c93f72abb59390048cb5", func := "loop.example/g00259/laws.FnExactCuttingRight", spec := "fnExactCuttingRight", apart := false, narrowed := true }
def FnExactCuttingRightUptoSaid : Prop := fnExactCuttingRightUptoRow.holds Try.pinned (OpenSpec.upto fnExactCuttingRightSpec)

/-- 'laws.FnExactFinger', WHERE WHAT IT READS IS OF BULK AT MOST 1048576: true; the input reads as it did. -/
def fnExactFingerUptoRow : OpenClaim := { program := "ytbdkpcgmnppkgaa", sum := "4269848b657a701f4a752f62bb2e3a0eef2670388dd7c93f72abb59390048cb5", func := "loop.example/g00259/laws.FnExactFinger", spec := "fnExactFinger", apart := false, narrowed := true }
def FnExactFingerUptoSaid : Prop := fnExactFingerUptoRow.holds Try.pinned (OpenSpec.upto fnExactFingerSpec)

/-- 'laws.FnExactFingerMore', WHERE WHAT IT READS IS OF BULK AT MOST 1048576: true; the input reads as it did. -/
def fnExactFingerMoreUptoRow : OpenClaim := { program := "ytbdkpcgmnppkgaa", sum := "4269848b657a701f4a752f62bb2e3a0eef2670388dd7c93f72abb59390048cb5", func := "loop.example/g00259/laws.FnExactFingerMore", spec := "fnExactFingerMore", apart := false, narrowed := true }
def FnExactFingerMoreUptoSaid : Prop := fnExactFingerMoreUptoRow.holds Try.pinned (OpenSpec.upto fnExactFingerMoreSpec)

/-- 'laws.FnExactFingerRoll', WHERE WHAT IT READS IS OF BULK AT MOST 1048576: true; the input reads as it did. -/
def fnExactFingerRollUptoRow : OpenClaim := { program := "ytbdkpcgmnppkgaa", sum := "4269848b657a701f4a752f62bb2e3a0eef2670388dd7c93f72abb59390048cb5", func := "loop.example/g00259/laws.FnExactFingerRoll", spec := "fnExactFingerRoll", apart := false, narrowed := true }
def FnExactFingerRollUptoSaid : Prop := fnExactFingerRollUptoRow.holds Try.pinned (OpenSpec.upto fnExactFingerRollSpec)

/-- 'laws.FnExactCutAt', WHERE WHAT IT READS IS OF BULK AT MOST 1048576: true; the input reads as it did. -/
def fnExactCutAtUptoRow : OpenClaim := { program := "ytbdkpcgmnppkgaa", sum := "4269848b657a701f4a752f62bb2e3a0eef2670388dd7c93f72abb59390048cb5", func := "loop.example/g00259/laws.FnExactCutAt", spec := "fnExactCutAt", unfollowed := true, recurses := true, apart := false, narrowed := true }
def FnExactCutAtUptoSaid : Prop := fnExactCutAtUptoRow.holds Try.pinned (OpenSpec.upto fnExactCutAtSpec)

/-- 'laws.FnExactPieces', WHERE WHAT IT READS IS OF BULK AT MOST 1048576: true; the input reads as it did. -/
def fnExactPiecesUptoRow : OpenClaim := { program := "ytbdkpcgmnppkgaa", sum := "4269848b657a701f4a752f62bb2e3a0eef2670388dd7c93f72abb59390048cb5", func := "loop.example/g00259/laws.FnExactPieces", spec := "fnExactPieces", unfollowed := true, recurses := true, apart := false, narrowed := true }
def FnExactPiecesUptoSaid : Prop := fnExactPiecesUptoRow.holds Try.pinned (OpenSpec.upto fnExactPiecesSpec)

end Rows
end Go.Proofs.Ytbdkpcgmnppkgaa
