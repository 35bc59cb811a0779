/-
  No cell of these rows narrows 'for every input' (looked for: loops, veiled, ifaces, maps, wideKeys, modest, calm, conditions, laid).
  DERIVED. THE GIVEN ROWS OF THIS SEAT. 2 by the template 'for every input the law returns true; each argument reads behind the call as it read before'; 0 by the template 'total and deterministic' (their statements: YtppjbmmeacmoiabTotals.lean).
  GIVEN WITH THE SEED: the statements are not yours to turn. If you find one false, say at which input.
  Laid BY PROGRAM, IN A SANDBOX (cutbox-rows.mjs): the forced cells as the released guide's own fill.sh prints them over the translation 304b7a40a5d5ac9e… (all of the seat's roots in one cut). By AI agents, Wed Nov 11 2026. No macro, syntax, notation, axiom, sorry.
-/
import Derived.Test.YtppjbmmeacmoiabChecked
import GoSem.Claim
import GoSem.ClaimJoined
import GoSem.ClaimMapViews
import Derived.JoinedTies
import Derived.KernelRfl
namespace Go.Proofs.Ytppjbmmeacmoiab
/- THE CELL 'sum', in the pinned program and in every row, IS THE sha256 OF THE DUMP (.gsa) THAT YtppjbmmeacmoiabProg.lean LOADS. Nothing in Lean hashes anything: it is a label: what it is worth is what the hold of that sum in a sandbox is worth. -/
noncomputable def Try.pinned : Pinned := { name := "ytppjbmmeacmoiab", sum := "304b7a40a5d5ac9e7d744d92a002749c249f6055e9bff264daa72b0178a2b67c", checked := Try.checked }
namespace Rows
def none {H : Type} : Left H := { results := [], args := [] }

/-- 'laws.FnExactPlacesBytes': WHATEVER THE INPUT: true; the input reads as it did. -/
def fnExactPlacesBytesSpec : ChangeSpec := { name := "fnExactPlacesBytes", fn := fun _ => fun
  | [d] => { results := [.lit (.bool true)], args := [d] }
  | _ => none }
def fnExactPlacesBytesRow : OpenClaim := { program := "ytppjbmmeacmoiab", sum := "304b7a40a5d5ac9e7d744d92a002749c249f6055e9bff264daa72b0178a2b67c", func := "loop.example/g00259/laws.FnExactPlacesBytes", spec := "fnExactPlacesBytes", inPlace := ["internal/bytealg.abigen_runtime_cmpstring", "internal/abi.NoEscape"], apart := false }
def FnExactPlacesBytesSaid : Prop := fnExactPlacesBytesRow.holds Try.pinned (OpenSpec.ofChange fnExactPlacesBytesSpec)

/-- ITS FALSE NEIGHBOUR: 'it returns false'. Refute it at one input. -/
def fnExactPlacesBytesWrong : ChangeSpec := { name := "fnExactPlacesBytes", fn := fun _ => fun
  | [d] => { results := [.lit (.bool false)], args := [d] }
  | _ => none }
def FnExactPlacesBytesWrongFalsely : Prop := fnExactPlacesBytesRow.holds Try.pinned (OpenSpec.ofChange fnExactPlacesBytesWrong)

/-- 'laws.FnExactPlacesRead': WHATEVER THE INPUT: true; the input reads as it did. -/
def fnExactPlacesReadSpec : ChangeSpec := { name := "fnExactPlacesRead", fn := fun _ => fun
  | [d] => { results := [.lit (.bool true)], args := [d] }
  | _ => none }
def fnExactPlacesReadRow : OpenClaim := { program := "ytppjbmmeacmoiab", sum := "304b7a40a5d5ac9e7d744d92a002749c249f6055e9bff264daa72b0178a2b67c", func := "loop.example/g00259/laws.FnExactPlacesRead", spec := "fnExactPlacesRead", inPlace := ["internal/bytealg.abigen_runtime_cmpstring", "internal/abi.NoEscape"], apart := false }
def FnExactPlacesReadSaid : Prop := fnExactPlacesReadRow.holds Try.pinned (OpenSpec.ofChange fnExactPlacesReadSpec)

/-- ITS FALSE NEIGHBOUR: 'it returns false'. Refute it at one input. -/
def fnExactPlacesReadWrong : ChangeSpec := { name := "fnExactPlacesRead", fn := fun _ => fun
  | [d] => { results := [.lit (.bool false)], args := [d] }
  | _ => none }
def FnExactPlacesReadWrongFalsely : Prop := fnExactPlacesReadRow.holds Try.pinned (OpenSpec.ofChange fnExactPlacesReadWrong)

/- THE SECOND FORM. 'bulk': how many values and letters a reading holds, each counted each time it is reached (what is shared counts as often as it is met; a slice's spare places count too). A statement '..UptoSaid' is the law's where the arguments, and the package variables that the reading takes, are together of bulk at most 1048576: NARROWER than '..Said'. Prove '..Said' where nothing that the law and all that it calls make is longer than what came in: it says more and counts as full. Else prove '..UptoSaid'. A law counts once. -/
mutual
def uptoBulk {H : Type} : DataW H → Nat
  | .lit (.string bytes) => bytes.length + 1
  | .lit _ => 1
  | .nil => 1
  | .ptr d => uptoBulk d + 1
  | .slice elems spare => uptoBulkAll elems + uptoBulkAll spare + 1
  | .agg parts => uptoBulkAll parts + 1
  | .iface _ d => uptoBulk d + 1
  | .map entries => uptoBulkEntries entries + 1
  | .held _ => 1
def uptoBulkAll {H : Type} : List (DataW H) → Nat
  | [] => 0
  | d :: r => uptoBulk d + uptoBulkAll r
def uptoBulkEntries {H : Type} : List (Lit × DataW H) → Nat
  | [] => 0
  | x :: r => uptoBulkEntry x + uptoBulkEntries r
def uptoBulkEntry {H : Type} : Lit × DataW H → Nat
  | (.string bytes, d) => bytes.length + uptoBulk d + 1
  | (_, d) => uptoBulk d + 1
 end
def uptoSmall : (H : Type) → List (DataW H) → Bool := fun _ ds => decide (uptoBulkAll ds ≤ 1048576)
def OpenSpec.upto (s : _root_.Go.ChangeSpec) : _root_.Go.OpenSpec := { _root_.Go.OpenSpec.ofChange s with cond := some uptoSmall }

/-- 'laws.FnExactPlacesBytes', WHERE WHAT IT READS IS OF BULK AT MOST 1048576: true; the input reads as it did. -/
def fnExactPlacesBytesUptoRow : OpenClaim := { program := "ytppjbmmeacmoiab", sum := "304b7a40a5d5ac9e7d744d92a002749c249f6055e9bff264daa72b0178a2b67c", func := "loop.example/g00259/laws.FnExactPlacesBytes", spec := "fnExactPlacesBytes", inPlace := ["internal/bytealg.abigen_runtime_cmpstring", "internal/abi.NoEscape"], apart := false, narrowed := true }
def FnExactPlacesBytesUptoSaid : Prop := fnExactPlacesBytesUptoRow.holds Try.pinned (OpenSpec.upto fnExactPlacesBytesSpec)

/-- 'laws.FnExactPlacesRead', WHERE WHAT IT READS IS OF BULK AT MOST 1048576: true; the input reads as it did. -/
def fnExactPlacesReadUptoRow : OpenClaim := { program := "ytppjbmmeacmoiab", sum := "304b7a40a5d5ac9e7d744d92a002749c249f6055e9bff264daa72b0178a2b67c", func := "loop.example/g00259/laws.FnExactPlacesRead", spec := "fnExactPlacesRead", inPlace := ["internal/bytealg.abigen_runtime_cmpstring", "internal/abi.NoEscape"], apart := false, narrowed := true }
def FnExactPlacesReadUptoSaid : Prop := fnExactPlacesReadUptoRow.holds Try.pinned (OpenSpec.upto fnExactPlacesReadSpec)

end Rows
end Go.Proofs.Ytppjbmmeacmoiab
