/-
  No cell of these rows narrows 'for every input' (looked for: loops, veiled, ifaces, maps, wideKeys, modest, calm, conditions, laid).
  DERIVED. THE GIVEN ROWS OF THIS SEAT. 2 by the template 'for every input the law returns true; each argument reads behind the call as it read before'; 0 by the template 'total and deterministic' (their statements: YtkkndkikfphnbaaTotals.lean).
  GIVEN WITH THE SEED: the statements are not yours to turn. If you find one false, say at which input.
  Laid BY PROGRAM, IN A SANDBOX (cutbox-rows.mjs): the forced cells as the released guide's own fill.sh prints them over the translation c2b3d7ddb90ab6be… (all of the seat's roots in one cut). By AI agents, Wed Nov 11 2026. No macro, syntax, notation, axiom, sorry.
-/
import Derived.Test.YtkkndkikfphnbaaChecked
import GoSem.Claim
import GoSem.ClaimJoined
import GoSem.ClaimMapViews
import Derived.JoinedTies
import Derived.KernelRfl
namespace Go.Proofs.Ytkkndkikfphnbaa
/- THE CELL 'sum', in the pinned program and in every row, IS THE sha256 OF THE DUMP (.gsa) THAT YtkkndkikfphnbaaProg.lean LOADS. Nothing in Lean hashes anything: it is a label: what it is worth is what the hold of that sum in a sandbox is worth. -/
noncomputable def Try.pinned : Pinned := { name := "ytkkndkikfphnbaa", sum := "c2b3d7ddb90ab6beac377e0093146b2f89874075de7598018574b1b7f99853e8", checked := Try.checked }
namespace Rows
def none {H : Type} : Left H := { results := [], args := [] }

/-- 'laws.FnExactHashBegin': WHATEVER THE INPUT: true; the input reads as it did. -/
def fnExactHashBeginSpec : ChangeSpec := { name := "fnExactHashBegin", fn := fun _ => fun
  | [] => { results := [.lit (.bool true)], args := [] }
  | _ => none }
def fnExactHashBeginRow : OpenClaim := { program := "ytkkndkikfphnbaa", sum := "c2b3d7ddb90ab6beac377e0093146b2f89874075de7598018574b1b7f99853e8", func := "loop.example/g00259/laws.FnExactHashBegin", spec := "fnExactHashBegin", apart := false }
def FnExactHashBeginSaid : Prop := fnExactHashBeginRow.holds Try.pinned (OpenSpec.ofChange fnExactHashBeginSpec)

/-- ITS FALSE NEIGHBOUR: 'it returns false'. Refute it at one input. -/
def fnExactHashBeginWrong : ChangeSpec := { name := "fnExactHashBegin", fn := fun _ => fun
  | [] => { results := [.lit (.bool false)], args := [] }
  | _ => none }
def FnExactHashBeginWrongFalsely : Prop := fnExactHashBeginRow.holds Try.pinned (OpenSpec.ofChange fnExactHashBeginWrong)

/-- 'laws.FnExactHashRight': WHATEVER THE INPUT: true; the input reads as it did. -/
def fnExactHashRightSpec : ChangeSpec := { name := "fnExactHashRight", fn := fun _ => fun
  | [d] => { results := [.lit (.bool true)], args := [d] }
  | _ => none }
def fnExactHashRightRow : OpenClaim := { program := "ytkkndkikfphnbaa", sum := "c2b3d7ddb90ab6beac377e0093146b2f89874075de7598018574b1b7f99853e8", func := "loop.example/g00259/laws.FnExactHashRight", spec := "fnExactHashRight", apart := false }
def FnExactHashRightSaid : Prop := fnExactHashRightRow.holds Try.pinned (OpenSpec.ofChange fnExactHashRightSpec)

/-- ITS FALSE NEIGHBOUR: 'it returns false'. Refute it at one input. -/
def fnExactHashRightWrong : ChangeSpec := { name := "fnExactHashRight", fn := fun _ => fun
  | [d] => { results := [.lit (.bool false)], args := [d] }
  | _ => none }
def FnExactHashRightWrongFalsely : Prop := fnExactHashRightRow.holds Try.pinned (OpenSpec.ofChange fnExactHashRightWrong)

/- THE SECOND FORM. 'bulk': how many values and letters a reading holds, each counted each time it is reached (what is shared counts as often as it is met; a slice's spare places count too). A statement '..UptoSaid' is the law's where the arguments, and the package variables that the reading takes, are together of bulk at most 1048576: NARROWER than '..Said'. Prove '..Said' where nothing that the law and all that it calls make is longer than what came in: it says more and counts as full. Else prove '..UptoSaid'. A law counts once. -/
mutual
def uptoBulk {H : Type} : DataW H → Nat
  | .lit (.string bytes) => bytes.length + 1
  | .lit _ => 1
  | .nil => 1
  | .ptr d => uptoBulk d + 1
  | .slice elems spare => uptoBulkAll elems + uptoBulkAll spare + 1
  | .agg parts => uptoBulkAll parts + 1
  | .iface _ d => uptoBulk d + 1
  | .map entries => uptoBulkEntries entries + 1
  | .held _ => 1
def uptoBulkAll {H : Type} : List (DataW H) → Nat
  | [] => 0
  | d :: r => uptoBulk d + uptoBulkAll r
def uptoBulkEntries {H : Type} : List (Lit × DataW H) → Nat
  | [] => 0
  | x :: r => uptoBulkEntry x + uptoBulkEntries r
def uptoBulkEntry {H : Type} : Lit × DataW H → Nat
  | (.string bytes, d) => bytes.length + uptoBulk d + 1
  | (_, d) => uptoBulk d + 1
 end
def uptoSmall : (H : Type) → List (DataW H) → Bool := fun _ ds => decide (uptoBulkAll ds ≤ 1048576)
def OpenSpec.upto (s : _root_.Go.ChangeSpec) : _root_.Go.OpenSpec := { _root_.Go.OpenSpec.ofChange s with cond := some uptoSmall }

/-- 'laws.FnExactHashBegin', WHERE WHAT IT READS IS OF BULK AT MOST 1048576: true; the input reads as it did. -/
def fnExactHashBeginUptoRow : OpenClaim := { program := "ytkkndkikfphnbaa", sum := "c2b3d7ddb90ab6beac377e0093146b2f89874075de7598018574b1b7f99853e8", func := "loop.example/g00259/laws.FnExactHashBegin", spec := "fnExactHashBegin", apart := false, narrowed := true }
def FnExactHashBeginUptoSaid : Prop := fnExactHashBeginUptoRow.holds Try.pinned (OpenSpec.upto fnExactHashBeginSpec)

/-- 'laws.FnExactHashRight', WHERE WHAT IT READS IS OF BULK AT MOST 1048576: true; the input reads as it did. -/
def fnExactHashRightUptoRow : OpenClaim := { program := "ytkkndkikfphnbaa", sum := "c2b3d7ddb90ab6beac377e0093146b2f89874075de7598018574b1b7f99853e8", func := "loop.example/g00259/laws.FnExactHashRight", spec := "fnExactHashRight", apart := false, narrowed := true }
def FnExactHashRightUptoSaid : Prop := fnExactHashRightUptoRow.holds Try.pinned (OpenSpec.upto fnExactHashRightSpec)

end Rows
end Go.Proofs.Ytkkndkikfphnbaa
