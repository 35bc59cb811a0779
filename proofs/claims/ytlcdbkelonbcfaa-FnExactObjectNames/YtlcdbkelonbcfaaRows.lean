/-
  No cell of these rows narrows 'for every input' (looked for: loops, veiled, ifaces, maps, wideKeys, modest, calm, conditions, laid).
  DERIVED. THE GIVEN ROWS OF THIS SEAT. 5 by the template 'for every input the law returns true; each argument reads behind the call as it read before'; 0 by the template 'total and deterministic' (their statements: YtlcdbkelonbcfaaTotals.lean).
  GIVEN WITH THE SEED: the statements are not yours to turn. If you find one false, say at which input.
  Laid BY PROGRAM, IN A SANDBOX (cutbox-rows.mjs): the forced cells as the released guide's own fill.sh prints them over the translation 3368da8471c90d3c… (all of the seat's roots in one cut). By AI agents, Wed Nov 11 2026. No macro, syntax, notation, axiom, sorry.
-/
import Derived.Test.YtlcdbkelonbcfaaChecked
import GoSem.Claim
import GoSem.ClaimJoined
import GoSem.ClaimMapViews
import Derived.JoinedTies
import Derived.KernelRfl
namespace Go.Proofs.Ytlcdbkelonbcfaa
/- THE CELL 'sum', in the pinned program and in every row, IS THE sha256 OF THE DUMP (.gsa) THAT YtlcdbkelonbcfaaProg.lean LOADS. Nothing in Lean hashes anything: it is a label: what it is worth is what the hold of that sum in a sandbox is worth. -/
noncomputable def Try.pinned : Pinned := { name := "ytlcdbkelonbcfaa", sum := "3368da8471c90d3c9d92aecda15e7841bd900b3f8dfcc99df549fd9c152e13fd", checked := Try.checked }
namespace Rows
def none {H : Type} : Left H := { results := [], args := [] }

/-- 'laws.FnExactObjectNames': WHATEVER THE INPUT: true; the input reads as it did. -/
def fnExactObjectNamesSpec : ChangeSpec := { name := "fnExactObjectNames", fn := fun _ => fun
  | [d] => { results := [.lit (.bool true)], args := [d] }
  | _ => none }
def fnExactObjectNamesRow : OpenClaim := { program := "ytlcdbkelonbcfaa", sum := "3368da8471c90d3c9d92aecda15e7841bd900b3f8dfcc99df549fd9c152e13fd", func := "loop.example/g00259/laws.FnExactObjectNames", spec := "fnExactObjectNames", recurses := true, apart := false }
def FnExactObjectNamesSaid : Prop := fnExactObjectNamesRow.holds Try.pinned (OpenSpec.ofChange fnExactObjectNamesSpec)

/-- ITS FALSE NEIGHBOUR: 'it returns false'. Refute it at one input. -/
def fnExactObjectNamesWrong : ChangeSpec := { name := "fnExactObjectNames", fn := fun _ => fun
  | [d] => { results := [.lit (.bool false)], args := [d] }
  | _ => none }
def FnExactObjectNamesWrongFalsely : Prop := fnExactObjectNamesRow.holds Try.pinned (OpenSpec.ofChange fnExactObjectNamesWrong)

/-- 'laws.FnExactPlacesFind': WHATEVER THE INPUT: true; the input reads as it did. -/
def fnExactPlacesFindSpec : ChangeSpec := { name := "fnExactPlacesFind", fn := fun _ => fun
  | [d1, d2] => { results := [.lit (.bool true)], args := [d1, d2] }
  | _ => none }
def fnExactPlacesFindRow : OpenClaim := { program := "ytlcdbkelonbcfaa", sum := "3368da8471c90d3c9d92aecda15e7841bd900b3f8dfcc99df549fd9c152e13fd", func := "loop.example/g00259/laws.FnExactPlacesFind", spec := "fnExactPlacesFind", inPlace := ["internal/bytealg.abigen_runtime_cmpstring"], unfollowed := true, recurses := true, apart := false }
def FnExactPlacesFindSaid : Prop := fnExactPlacesFindRow.holds Try.pinned (OpenSpec.ofChange fnExactPlacesFindSpec)

/-- ITS FALSE NEIGHBOUR: 'it returns false'. Refute it at one input. -/
def fnExactPlacesFindWrong : ChangeSpec := { name := "fnExactPlacesFind", fn := fun _ => fun
  | [d1, d2] => { results := [.lit (.bool false)], args := [d1, d2] }
  | _ => none }
def FnExactPlacesFindWrongFalsely : Prop := fnExactPlacesFindRow.holds Try.pinned (OpenSpec.ofChange fnExactPlacesFindWrong)

/-- 'laws.FnExactSnapRight': WHATEVER THE INPUT: true; the input reads as it did. -/
def fnExactSnapRightSpec : ChangeSpec := { name := "fnExactSnapRight", fn := fun _ => fun
  | [d] => { results := [.lit (.bool true)], args := [d] }
  | _ => none }
def fnExactSnapRightRow : OpenClaim := { program := "ytlcdbkelonbcfaa", sum := "3368da8471c90d3c9d92aecda15e7841bd900b3f8dfcc99df549fd9c152e13fd", func := "loop.example/g00259/laws.FnExactSnapRight", spec := "fnExactSnapRight", apart := false }
def FnExactSnapRightSaid : Prop := fnExactSnapRightRow.holds Try.pinned (OpenSpec.ofChange fnExactSnapRightSpec)

/-- ITS FALSE NEIGHBOUR: 'it returns false'. Refute it at one input. -/
def fnExactSnapRightWrong : ChangeSpec := { name := "fnExactSnapRight", fn := fun _ => fun
  | [d] => { results := [.lit (.bool false)], args := [d] }
  | _ => none }
def FnExactSnapRightWrongFalsely : Prop := fnExactSnapRightRow.holds Try.pinned (OpenSpec.ofChange fnExactSnapRightWrong)

/-- 'laws.FnExactSnapBytes': WHATEVER THE INPUT: true; the input reads as it did. -/
def fnExactSnapBytesSpec : ChangeSpec := { name := "fnExactSnapBytes", fn := fun _ => fun
  | [d] => { results := [.lit (.bool true)], args := [d] }
  | _ => none }
def fnExactSnapBytesRow : OpenClaim := { program := "ytlcdbkelonbcfaa", sum := "3368da8471c90d3c9d92aecda15e7841bd900b3f8dfcc99df549fd9c152e13fd", func := "loop.example/g00259/laws.FnExactSnapBytes", spec := "fnExactSnapBytes", apart := false }
def FnExactSnapBytesSaid : Prop := fnExactSnapBytesRow.holds Try.pinned (OpenSpec.ofChange fnExactSnapBytesSpec)

/-- ITS FALSE NEIGHBOUR: 'it returns false'. Refute it at one input. -/
def fnExactSnapBytesWrong : ChangeSpec := { name := "fnExactSnapBytes", fn := fun _ => fun
  | [d] => { results := [.lit (.bool false)], args := [d] }
  | _ => none }
def FnExactSnapBytesWrongFalsely : Prop := fnExactSnapBytesRow.holds Try.pinned (OpenSpec.ofChange fnExactSnapBytesWrong)

/-- 'laws.FnExactSnapRead': WHATEVER THE INPUT: true; the input reads as it did. -/
def fnExactSnapReadSpec : ChangeSpec := { name := "fnExactSnapRead", fn := fun _ => fun
  | [d] => { results := [.lit (.bool true)], args := [d] }
  | _ => none }
def fnExactSnapReadRow : OpenClaim := { program := "ytlcdbkelonbcfaa", sum := "3368da8471c90d3c9d92aecda15e7841bd900b3f8dfcc99df549fd9c152e13fd", func := "loop.example/g00259/laws.FnExactSnapRead", spec := "fnExactSnapRead", apart := false }
def FnExactSnapReadSaid : Prop := fnExactSnapReadRow.holds Try.pinned (OpenSpec.ofChange fnExactSnapReadSpec)

/-- ITS FALSE NEIGHBOUR: 'it returns false'. Refute it at one input. -/
def fnExactSnapReadWrong : ChangeSpec := { name := "fnExactSnapRead", fn := fun _ => fun
  | [d] => { results := [.lit (.bool false)], args := [d] }
  | _ => none }
def FnExactSnapReadWrongFalsely : Prop := fnExactSnapReadRow.holds Try.pinned (OpenSpec.ofChange fnExactSnapReadWrong)

/- THE SECOND FORM. 'bulk': how many values and letters a reading holds, each counted each time it is reached (what is shared counts as often as it is met; a slice's spare places count too). A statement '..UptoSaid' is the law's where the arguments, and the package variables that the reading takes, are together of bulk at most 1048576: NARROWER than '..Said'. Prove '..Said' where nothing that the law and all that it calls make is longer than what came in: it says more and counts as full. Else prove '..UptoSaid'. A law counts once. -/
mutual
def uptoBulk {H : Type} : DataW H → Nat
  | .lit (.string bytes) => bytes.length + 1
  | .lit _ => 1
  | .nil => 1
  | .ptr d => uptoBulk d + 1
  | .slice elems spare => uptoBulkAll elems + uptoBulkAll spare + 1
  | .agg parts => uptoBulkAll parts + 1
  | .iface _ d => uptoBulk d + 1
  | .map entries => uptoBulkEntries entries + 1
  | .held _ => 1
def uptoBulkAll {H : Type} : List (DataW H) → Nat
  | [] => 0
  | d :: r => uptoBulk d + uptoBulkAll r
def uptoBulkEntries {H : Type} : List (Lit × DataW H) → Nat
  | [] => 0
  | x :: r => uptoBulkEntry x + uptoBulkEntries r
def uptoBulkEntry {H : Type} : Lit × DataW H → Nat
  | (.string bytes, d) => bytes.length + uptoBulk d + 1
  | (_, d) => uptoBulk d + 1
 end
def uptoSmall : (H : Type) → List (DataW H) → Bool := fun _ ds => decide (uptoBulkAll ds ≤ 1048576)
def OpenSpec.upto (s : _root_.Go.ChangeSpec) : _root_.Go.OpenSpec := { _root_.Go.OpenSpec.ofChange s with cond := some uptoSmall }

/-- 'laws.FnExactObjectNames', WHERE WHAT IT READS IS OF BULK AT MOST 1048576: true; the input reads as it did. -/
def fnExactObjectNamesUptoRow : OpenClaim := { program := "ytlcdbkelonbcfaa", sum := "3368da8471c90d3c9d92aecda15e7841bd900b3f8dfcc99df549fd9c152e13fd", func := "loop.example/g00259/laws.FnExactObjectNames", spec := "fnExactObjectNames", recurses := true, apart := false, narrowed := true }
def FnExactObjectNamesUptoSaid : Prop := fnExactObjectNamesUptoRow.holds Try.pinned (OpenSpec.upto fnExactObjectNamesSpec)

/-- 'laws.FnExactPlacesFind', WHERE WHAT IT READS IS OF BULK AT MOST 1048576: true; the input reads as it did. -/
def fnExactPlacesFindUptoRow : OpenClaim := { program := "ytlcdbkelonbcfaa", sum := "3368da8471c90d3c9d92aecda15e7841bd900b3f8dfcc99df549fd9c152e13fd", func := "loop.example/g00259/laws.FnExactPlacesFind", spec := "fnExactPlacesFind", inPlace := ["internal/bytealg.abigen_runtime_cmpstring"], unfollowed := true, recurses := true, apart := false, narrowed := true }
def FnExactPlacesFindUptoSaid : Prop := fnExactPlacesFindUptoRow.holds Try.pinned (OpenSpec.upto fnExactPlacesFindSpec)

/-- 'laws.FnExactSnapRight', WHERE WHAT IT READS IS OF BULK AT MOST 1048576: true; the input reads as it did. -/
def fnExactSnapRightUptoRow : OpenClaim := { program := "ytlcdbkelonbcfaa", sum := "3368da8471c90d3c9d92aecda15e7841bd900b3f8dfcc99df549fd9c152e13fd", func := "loop.example/g00259/laws.FnExactSnapRight", spec := "fnExactSnapRight", apart := false, narrowed := true }
def FnExactSnapRightUptoSaid : Prop := fnExactSnapRightUptoRow.holds Try.pinned (OpenSpec.upto fnExactSnapRightSpec)

/-- 'laws.FnExactSnapBytes', WHERE WHAT IT READS IS OF BULK AT MOST 1048576: true; the input reads as it did. -/
def fnExactSnapBytesUptoRow : OpenClaim := { program := "ytlcdbkelonbcfaa", sum := "3368da8471c90d3c9d92aecda15e7841bd900b3f8dfcc99df549fd9c152e13fd", func := "loop.example/g00259/laws.FnExactSnapBytes", spec := "fnExactSnapBytes", apart := false, narrowed := true }
def FnExactSnapBytesUptoSaid : Prop := fnExactSnapBytesUptoRow.holds Try.pinned (OpenSpec.upto fnExactSnapBytesSpec)

/-- 'laws.FnExactSnapRead', WHERE WHAT IT READS IS OF BULK AT MOST 1048576: true; the input reads as it did. -/
def fnExactSnapReadUptoRow : OpenClaim := { program := "ytlcdbkelonbcfaa", sum := "3368da8471c90d3c9d92aecda15e7841bd900b3f8dfcc99df549fd9c152e13fd", func := "loop.example/g00259/laws.FnExactSnapRead", spec := "fnExactSnapRead", apart := false, narrowed := true }
def FnExactSnapReadUptoSaid : Prop := fnExactSnapReadUptoRow.holds Try.pinned (OpenSpec.upto fnExactSnapReadSpec)

end Rows
end Go.Proofs.Ytlcdbkelonbcfaa
