/-
  No cell of these rows narrows 'for every input' (looked for: loops, veiled, ifaces, maps, wideKeys, modest, calm, conditions, laid).
  DERIVED. THE GIVEN ROWS OF THIS SEAT. 5 by the template 'for every input the law returns true; each argument reads behind the call as it read before'; 0 by the template 'total and deterministic' (their statements: YtmmmadehifajlaaTotals.lean).
  GIVEN WITH THE SEED: the statements are not yours to turn. If you find one false, say at which input.
  Laid BY PROGRAM, IN A SANDBOX (cutbox-rows.mjs): the forced cells as the released guide's own fill.sh prints them over the translation 9ce5e4260824c3ed… (all of the seat's roots in one cut). By AI agents, Wed Nov 11 2026. No macro, syntax, notation, axiom, sorry.
-/
import Derived.Test.YtmmmadehifajlaaChecked
import GoSem.Claim
import GoSem.ClaimJoined
import GoSem.ClaimMapViews
import Derived.JoinedTies
import Derived.KernelRfl
namespace Go.Proofs.Ytmmmadehifajlaa
/- THE CELL 'sum', in the pinned program and in every row, IS THE sha256 OF THE DUMP (.gsa) THAT YtmmmadehifajlaaProg.lean LOADS. Nothing in Lean hashes anything: it is a label: what it is worth is what the hold of that sum in a sandbox is worth. -/
noncomputable def Try.pinned : Pinned := { name := "ytmmmadehifajlaa", sum := "9ce5e4260824c3ed65813d8fb5406612e433a01c8856a8bff61f32de659b286b", checked := Try.checked }
namespace Rows
def none {H : Type} : Left H := { results := [], args := [] }

/-- 'laws.FnNodes': WHATEVER THE INPUT: true; the input reads as it did. -/
def fnNodesSpec : ChangeSpec := { name := "fnNodes", fn := fun _ => fun
  | [d1, d2] => { results := [.lit (.bool true)], args := [d1, d2] }
  | _ => none }
def fnNodesRow : OpenClaim := { program := "ytmmmadehifajlaa", sum := "9ce5e4260824c3ed65813d8fb5406612e433a01c8856a8bff61f32de659b286b", func := "loop.example/g00259/laws.FnNodes", spec := "fnNodes", inPlace := ["internal/abi.NoEscape", "internal/bytealg.MakeNoZero"], unfollowed := true, recurses := true, apart := false }
def FnNodesSaid : Prop := fnNodesRow.holds Try.pinned (OpenSpec.ofChange fnNodesSpec)

/-- ITS FALSE NEIGHBOUR: 'it returns false'. Refute it at one input. -/
def fnNodesWrong : ChangeSpec := { name := "fnNodes", fn := fun _ => fun
  | [d1, d2] => { results := [.lit (.bool false)], args := [d1, d2] }
  | _ => none }
def FnNodesWrongFalsely : Prop := fnNodesRow.holds Try.pinned (OpenSpec.ofChange fnNodesWrong)

/-- 'laws.FnExactPlacesRead': WHATEVER THE INPUT: true; the input reads as it did. -/
def fnExactPlacesReadSpec : ChangeSpec := { name := "fnExactPlacesRead", fn := fun _ => fun
  | [d] => { results := [.lit (.bool true)], args := [d] }
  | _ => none }
def fnExactPlacesReadRow : OpenClaim := { program := "ytmmmadehifajlaa", sum := "9ce5e4260824c3ed65813d8fb5406612e433a01c8856a8bff61f32de659b286b", func := "loop.example/g00259/laws.FnExactPlacesRead", spec := "fnExactPlacesRead", inPlace := ["internal/bytealg.abigen_runtime_cmpstring", "internal/abi.NoEscape"], unfollowed := true, recurses := true, apart := false }
def FnExactPlacesReadSaid : Prop := fnExactPlacesReadRow.holds Try.pinned (OpenSpec.ofChange fnExactPlacesReadSpec)

/-- ITS FALSE NEIGHBOUR: 'it returns false'. Refute it at one input. -/
def fnExactPlacesReadWrong : ChangeSpec := { name := "fnExactPlacesRead", fn := fun _ => fun
  | [d] => { results := [.lit (.bool false)], args := [d] }
  | _ => none }
def FnExactPlacesReadWrongFalsely : Prop := fnExactPlacesReadRow.holds Try.pinned (OpenSpec.ofChange fnExactPlacesReadWrong)

/-- 'laws.FnExactNodesRight': WHATEVER THE INPUT: true; the input reads as it did. -/
def fnExactNodesRightSpec : ChangeSpec := { name := "fnExactNodesRight", fn := fun _ => fun
  | [d] => { results := [.lit (.bool true)], args := [d] }
  | _ => none }
def fnExactNodesRightRow : OpenClaim := { program := "ytmmmadehifajlaa", sum := "9ce5e4260824c3ed65813d8fb5406612e433a01c8856a8bff61f32de659b286b", func := "loop.example/g00259/laws.FnExactNodesRight", spec := "fnExactNodesRight", apart := false }
def FnExactNodesRightSaid : Prop := fnExactNodesRightRow.holds Try.pinned (OpenSpec.ofChange fnExactNodesRightSpec)

/-- ITS FALSE NEIGHBOUR: 'it returns false'. Refute it at one input. -/
def fnExactNodesRightWrong : ChangeSpec := { name := "fnExactNodesRight", fn := fun _ => fun
  | [d] => { results := [.lit (.bool false)], args := [d] }
  | _ => none }
def FnExactNodesRightWrongFalsely : Prop := fnExactNodesRightRow.holds Try.pinned (OpenSpec.ofChange fnExactNodesRightWrong)

/-- 'laws.FnExactNodesBytes': WHATEVER THE INPUT: true; the input reads as it did. -/
def fnExactNodesBytesSpec : ChangeSpec := { name := "fnExactNodesBytes", fn := fun _ => fun
  | [d] => { results := [.lit (.bool true)], args := [d] }
  | _ => none }
def fnExactNodesBytesRow : OpenClaim := { program := "ytmmmadehifajlaa", sum := "9ce5e4260824c3ed65813d8fb5406612e433a01c8856a8bff61f32de659b286b", func := "loop.example/g00259/laws.FnExactNodesBytes", spec := "fnExactNodesBytes", inPlace := ["internal/abi.NoEscape", "internal/bytealg.MakeNoZero"], apart := false }
def FnExactNodesBytesSaid : Prop := fnExactNodesBytesRow.holds Try.pinned (OpenSpec.ofChange fnExactNodesBytesSpec)

/-- ITS FALSE NEIGHBOUR: 'it returns false'. Refute it at one input. -/
def fnExactNodesBytesWrong : ChangeSpec := { name := "fnExactNodesBytes", fn := fun _ => fun
  | [d] => { results := [.lit (.bool false)], args := [d] }
  | _ => none }
def FnExactNodesBytesWrongFalsely : Prop := fnExactNodesBytesRow.holds Try.pinned (OpenSpec.ofChange fnExactNodesBytesWrong)

/-- 'laws.FnExactNodesRead': WHATEVER THE INPUT: true; the input reads as it did. -/
def fnExactNodesReadSpec : ChangeSpec := { name := "fnExactNodesRead", fn := fun _ => fun
  | [d] => { results := [.lit (.bool true)], args := [d] }
  | _ => none }
def fnExactNodesReadRow : OpenClaim := { program := "ytmmmadehifajlaa", sum := "9ce5e4260824c3ed65813d8fb5406612e433a01c8856a8bff61f32de659b286b", func := "loop.example/g00259/laws.FnExactNodesRead", spec := "fnExactNodesRead", inPlace := ["internal/abi.NoEscape", "internal/bytealg.MakeNoZero"], unfollowed := true, recurses := true, apart := false }
def FnExactNodesReadSaid : Prop := fnExactNodesReadRow.holds Try.pinned (OpenSpec.ofChange fnExactNodesReadSpec)

/-- ITS FALSE NEIGHBOUR: 'it returns false'. Refute it at one input. -/
def fnExactNodesReadWrong : ChangeSpec := { name := "fnExactNodesRead", fn := fun _ => fun
  | [d] => { results := [.lit (.bool false)], args := [d] }
  | _ => none }
def FnExactNodesReadWrongFalsely : Prop := fnExactNodesReadRow.holds Try.pinned (OpenSpec.ofChange fnExactNodesReadWrong)

/- THE SECOND FORM. 'bulk': how many values and letters a reading holds, each counted each time it is reached (what is shared counts as often as it is met; a slice's spare places count too). A statement '..UptoSaid' is the law's where the arguments, and the package variables that the reading takes, are together of bulk at most 1048576: NARROWER than '..Said'. Prove '..Said' where nothing that the law and all that it calls make is longer than what came in: it says more and counts as full. Else prove '..UptoSaid'. A law counts once. -/
mutual
def uptoBulk {H : Type} : DataW H → Nat
  | .lit (.string bytes) => bytes.length + 1
  | .lit _ => 1
  | .nil => 1
  | .ptr d => uptoBulk d + 1
  | .slice elems spare => uptoBulkAll elems + uptoBulkAll spare + 1
  | .agg parts => uptoBulkAll parts + 1
  | .iface _ d => uptoBulk d + 1
  | .map entries => uptoBulkEntries entries + 1
  | .held _ => 1
def uptoBulkAll {H : Type} : List (DataW H) → Nat
  | [] => 0
  | d :: r => uptoBulk d + uptoBulkAll r
def uptoBulkEntries {H : Type} : List (Lit × DataW H) → Nat
  | [] => 0
  | x :: r => uptoBulkEntry x + uptoBulkEntries r
def uptoBulkEntry {H : Type} : Lit × DataW H → Nat
  | (.string bytes, d) => bytes.length + uptoBulk d + 1
  | (_, d) => uptoBulk d + 1
 end
def uptoSmall : (H : Type) → List (DataW H) → Bool := fun _ ds => decide (uptoBulkAll ds ≤ 1048576)
def OpenSpec.upto (s : _root_.Go.ChangeSpec) : _root_.Go.OpenSpec := { _root_.Go.OpenSpec.ofChange s with cond := some uptoSmall }

/-- 'laws.FnNodes', WHERE WHAT IT READS IS OF BULK AT MOST 1048576: true; the input reads as it did. -/
def fnNodesUptoRow : OpenClaim := { program := "ytmmmadehifajlaa", sum := "9ce5e4260824c3ed65813d8fb5406612e433a01c8856a8bff61f32de659b286b", func := "loop.example/g00259/laws.FnNodes", spec := "fnNodes", inPlace := ["internal/abi.NoEscape", "internal/bytealg.MakeNoZero"], unfollowed := true, recurses := true, apart := false, narrowed := true }
def FnNodesUptoSaid : Prop := fnNodesUptoRow.holds Try.pinned (OpenSpec.upto fnNodesSpec)

/-- 'laws.FnExactPlacesRead', WHERE WHAT IT READS IS OF BULK AT MOST 1048576: true; the input reads as it did. -/
def fnExactPlacesReadUptoRow : OpenClaim := { program := "ytmmmadehifajlaa", sum := "9ce5e4260824c3ed65813d8fb5406612e433a01c8856a8bff61f32de659b286b", func := "loop.example/g00259/laws.FnExactPlacesRead", spec := "fnExactPlacesRead", inPlace := ["internal/bytealg.abigen_runtime_cmpstring", "internal/abi.NoEscape"], unfollowed := true, recurses := true, apart := false, narrowed := true }
def FnExactPlacesReadUptoSaid : Prop := fnExactPlacesReadUptoRow.holds Try.pinned (OpenSpec.upto fnExactPlacesReadSpec)

/-- 'laws.FnExactNodesRight', WHERE WHAT IT READS IS OF BULK AT MOST 1048576: true; the input reads as it did. -/
def fnExactNodesRightUptoRow : OpenClaim := { program := "ytmmmadehifajlaa", sum := "9ce5e4260824c3ed65813d8fb5406612e433a01c8856a8bff61f32de659b286b", func := "loop.example/g00259/laws.FnExactNodesRight", spec := "fnExactNodesRight", apart := false, narrowed := true }
def FnExactNodesRightUptoSaid : Prop := fnExactNodesRightUptoRow.holds Try.pinned (OpenSpec.upto fnExactNodesRightSpec)

/-- 'laws.FnExactNodesBytes', WHERE WHAT IT READS IS OF BULK AT MOST 1048576: true; the input reads as it did. -/
def fnExactNodesBytesUptoRow : OpenClaim := { program := "ytmmmadehifajlaa", sum := "9ce5e4260824c3ed65813d8fb5406612e433a01c8856a8bff61f32de659b286b", func := "loop.example/g00259/laws.FnExactNodesBytes", spec := "fnExactNodesBytes", inPlace := ["internal/abi.NoEscape", "internal/bytealg.MakeNoZero"], apart := false, narrowed := true }
def FnExactNodesBytesUptoSaid : Prop := fnExactNodesBytesUptoRow.holds Try.pinned (OpenSpec.upto fnExactNodesBytesSpec)

/-- 'laws.FnExactNodesRead', WHERE WHAT IT READS IS OF BULK AT MOST 1048576: true; the input reads as it did. -/
def fnExactNodesReadUptoRow : OpenClaim := { program := "ytmmmadehifajlaa", sum := "9ce5e4260824c3ed65813d8fb5406612e433a01c8856a8bff61f32de659b286b", func := "loop.example/g00259/laws.FnExactNodesRead", spec := "fnExactNodesRead", inPlace := ["internal/abi.NoEscape", "internal/bytealg.MakeNoZero"], unfollowed := true, recurses := true, apart := false, narrowed := true }
def FnExactNodesReadUptoSaid : Prop := fnExactNodesReadUptoRow.holds Try.pinned (OpenSpec.upto fnExactNodesReadSpec)

end Rows
end Go.Proofs.Ytmmmadehifajlaa
