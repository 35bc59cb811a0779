/-
  No cell of these rows narrows 'for every input' (looked for: loops, veiled, ifaces, maps, wideKeys, modest, calm, conditions, laid).
  DERIVED. THE GIVEN ROWS OF THIS SEAT. 4 by the template 'for every input the law returns true; each argument reads behind the call as it read before'; 0 by the template 'total and deterministic' (their statements: YtppjbmmeacmoiaaTotals.lean).
  GIVEN WITH THE SEED: the statements are not yours to turn. If you find one false, say at which input.
  Laid BY PROGRAM, IN A SANDBOX (cutbox-rows.mjs): the forced cells as the released guide's own fill.sh prints them over the translation a53413563ba2ba44… (all of the seat's roots in one cut). By AI agents, Wed Nov 11 2026. No macro, syntax, notation, axiom, sorry.
-/
import Derived.Test.YtppjbmmeacmoiaaChecked
import GoSem.Claim
import GoSem.ClaimJoined
import GoSem.ClaimMapViews
import Derived.JoinedTies
import Derived.KernelRfl
namespace Go.Proofs.Ytppjbmmeacmoiaa
/- THE CELL 'sum', in the pinned program and in every row, IS THE sha256 OF THE DUMP (.gsa) THAT YtppjbmmeacmoiaaProg.lean LOADS. Nothing in Lean hashes anything: it is a label: what it is worth is what the hold of that sum in a sandbox is worth. -/
noncomputable def Try.pinned : Pinned := { name := "ytppjbmmeacmoiaa", sum := "a53413563ba2ba44e114599955aadbae5bc8daab6f4abd5eee0dc1793c9fe360", checked := Try.checked }
namespace Rows
def none {H : Type} : Left H := { results := [], args := [] }

/-- 'laws.FnExactPlacesRight': WHATEVER THE INPUT: true; the input reads as it did. -/
def fnExactPlacesRightSpec : ChangeSpec := { name := "fnExactPlacesRight", fn := fun _ => fun
  | [d] => { results := [.lit (.bool true)], args := [d] }
  | _ => none }
def fnExactPlacesRightRow : OpenClaim := { program := "ytppjbmmeacmoiaa", sum := "a53413563ba2ba44e114599955aadbae5bc8daab6f4abd5eee0dc1793c9fe360", func := "loop.example/g00259/laws.FnExactPlacesRight", spec := "fnExactPlacesRight", inPlace := ["internal/bytealg.abigen_runtime_cmpstring"], plainKeys := false, apart := false }
def FnExactPlacesRightSaid : Prop := fnExactPlacesRightRow.holds Try.pinned (OpenSpec.ofChange fnExactPlacesRightSpec)

/-- ITS FALSE NEIGHBOUR: 'it returns false'. Refute it at one input. -/
def fnExactPlacesRightWrong : ChangeSpec := { name := "fnExactPlacesRight", fn := fun _ => fun
  | [d] => { results := [.lit (.bool false)], args := [d] }
  | _ => none }
def FnExactPlacesRightWrongFalsely : Prop := fnExactPlacesRightRow.holds Try.pinned (OpenSpec.ofChange fnExactPlacesRightWrong)

/-- 'laws.FnExactPlacesAdd': WHATEVER THE INPUT: true; the input reads as it did. -/
def fnExactPlacesAddSpec : ChangeSpec := { name := "fnExactPlacesAdd", fn := fun _ => fun
  | [d1, d2] => { results := [.lit (.bool true)], args := [d1, d2] }
  | _ => none }
def fnExactPlacesAddRow : OpenClaim := { program := "ytppjbmmeacmoiaa", sum := "a53413563ba2ba44e114599955aadbae5bc8daab6f4abd5eee0dc1793c9fe360", func := "loop.example/g00259/laws.FnExactPlacesAdd", spec := "fnExactPlacesAdd", inPlace := ["internal/bytealg.abigen_runtime_cmpstring"], unfollowed := true, recurses := true, plainKeys := false, apart := false }
def FnExactPlacesAddSaid : Prop := fnExactPlacesAddRow.holds Try.pinned (OpenSpec.ofChange fnExactPlacesAddSpec)

/-- ITS FALSE NEIGHBOUR: 'it returns false'. Refute it at one input. -/
def fnExactPlacesAddWrong : ChangeSpec := { name := "fnExactPlacesAdd", fn := fun _ => fun
  | [d1, d2] => { results := [.lit (.bool false)], args := [d1, d2] }
  | _ => none }
def FnExactPlacesAddWrongFalsely : Prop := fnExactPlacesAddRow.holds Try.pinned (OpenSpec.ofChange fnExactPlacesAddWrong)

/-- 'laws.FnExactPlacesFind': WHATEVER THE INPUT: true; the input reads as it did. -/
def fnExactPlacesFindSpec : ChangeSpec := { name := "fnExactPlacesFind", fn := fun _ => fun
  | [d1, d2] => { results := [.lit (.bool true)], args := [d1, d2] }
  | _ => none }
def fnExactPlacesFindRow : OpenClaim := { program := "ytppjbmmeacmoiaa", sum := "a53413563ba2ba44e114599955aadbae5bc8daab6f4abd5eee0dc1793c9fe360", func := "loop.example/g00259/laws.FnExactPlacesFind", spec := "fnExactPlacesFind", inPlace := ["internal/bytealg.abigen_runtime_cmpstring"], unfollowed := true, recurses := true, plainKeys := false, apart := false }
def FnExactPlacesFindSaid : Prop := fnExactPlacesFindRow.holds Try.pinned (OpenSpec.ofChange fnExactPlacesFindSpec)

/-- ITS FALSE NEIGHBOUR: 'it returns false'. Refute it at one input. -/
def fnExactPlacesFindWrong : ChangeSpec := { name := "fnExactPlacesFind", fn := fun _ => fun
  | [d1, d2] => { results := [.lit (.bool false)], args := [d1, d2] }
  | _ => none }
def FnExactPlacesFindWrongFalsely : Prop := fnExactPlacesFindRow.holds Try.pinned (OpenSpec.ofChange fnExactPlacesFindWrong)

/-- 'laws.FnExactPlacesDrop': WHATEVER THE INPUT: true; the input reads as it did. -/
def fnExactPlacesDropSpec : ChangeSpec := { name := "fnExactPlacesDrop", fn := fun _ => fun
  | [d1, d2] => { results := [.lit (.bool true)], args := [d1, d2] }
  | _ => none }
def fnExactPlacesDropRow : OpenClaim := { program := "ytppjbmmeacmoiaa", sum := "a53413563ba2ba44e114599955aadbae5bc8daab6f4abd5eee0dc1793c9fe360", func := "loop.example/g00259/laws.FnExactPlacesDrop", spec := "fnExactPlacesDrop", inPlace := ["internal/bytealg.abigen_runtime_cmpstring"], unfollowed := true, recurses := true, plainKeys := false, apart := false }
def FnExactPlacesDropSaid : Prop := fnExactPlacesDropRow.holds Try.pinned (OpenSpec.ofChange fnExactPlacesDropSpec)

/-- ITS FALSE NEIGHBOUR: 'it returns false'. Refute it at one input. -/
def fnExactPlacesDropWrong : ChangeSpec := { name := "fnExactPlacesDrop", fn := fun _ => fun
  | [d1, d2] => { results := [.lit (.bool false)], args := [d1, d2] }
  | _ => none }
def FnExactPlacesDropWrongFalsely : Prop := fnExactPlacesDropRow.holds Try.pinned (OpenSpec.ofChange fnExactPlacesDropWrong)

/- THE SECOND FORM. 'bulk': how many values and letters a reading holds, each counted each time it is reached (what is shared counts as often as it is met; a slice's spare places count too). A statement '..UptoSaid' is the law's where the arguments, and the package variables that the reading takes, are together of bulk at most 1048576: NARROWER than '..Said'. Prove '..Said' where nothing that the law and all that it calls make is longer than what came in: it says more and counts as full. Else prove '..UptoSaid'. A law counts once. -/
mutual
def uptoBulk {H : Type} : DataW H → Nat
  | .lit (.string bytes) => bytes.length + 1
  | .lit _ => 1
  | .nil => 1
  | .ptr d => uptoBulk d + 1
  | .slice elems spare => uptoBulkAll elems + uptoBulkAll spare + 1
  | .agg parts => uptoBulkAll parts + 1
  | .iface _ d => uptoBulk d + 1
  | .map entries => uptoBulkEntries entries + 1
  | .held _ => 1
def uptoBulkAll {H : Type} : List (DataW H) → Nat
  | [] => 0
  | d :: r => uptoBulk d + uptoBulkAll r
def uptoBulkEntries {H : Type} : List (Lit × DataW H) → Nat
  | [] => 0
  | x :: r => uptoBulkEntry x + uptoBulkEntries r
def uptoBulkEntry {H : Type} : Lit × DataW H → Nat
  | (.string bytes, d) => bytes.length + uptoBulk d + 1
  | (_, d) => uptoBulk d + 1
 end
def uptoSmall : (H : Type) → List (DataW H) → Bool := fun _ ds => decide (uptoBulkAll ds ≤ 1048576)
def OpenSpec.upto (s : _root_.Go.ChangeSpec) : _root_.Go.OpenSpec := { _root_.Go.OpenSpec.ofChange s with cond := some uptoSmall }

/-- 'laws.FnExactPlacesRight', WHERE WHAT IT READS IS OF BULK AT MOST 1048576: true; the input reads as it did. -/
def fnExactPlacesRightUptoRow : OpenClaim := { program := "ytppjbmmeacmoiaa", sum := "a53413563ba2ba44e114599955aadbae5bc8daab6f4abd5eee0dc1793c9fe360", func := "loop.example/g00259/laws.FnExactPlacesRight", spec := "fnExactPlacesRight", inPlace := ["internal/bytealg.abigen_runtime_cmpstring"], plainKeys := false, apart := false, narrowed := true }
def FnExactPlacesRightUptoSaid : Prop := fnExactPlacesRightUptoRow.holds Try.pinned (OpenSpec.upto fnExactPlacesRightSpec)

/-- 'laws.FnExactPlacesAdd', WHERE WHAT IT READS IS OF BULK AT MOST 1048576: true; the input reads as it did. -/
def fnExactPlacesAddUptoRow : OpenClaim := { program := "ytppjbmmeacmoiaa", sum := "a53413563ba2ba44e114599955aadbae5bc8daab6f4abd5eee0dc1793c9fe360", func := "loop.example/g00259/laws.FnExactPlacesAdd", spec := "fnExactPlacesAdd", inPlace := ["internal/bytealg.abigen_runtime_cmpstring"], unfollowed := true, recurses := true, plainKeys := false, apart := false, narrowed := true }
def FnExactPlacesAddUptoSaid : Prop := fnExactPlacesAddUptoRow.holds Try.pinned (OpenSpec.upto fnExactPlacesAddSpec)

/-- 'laws.FnExactPlacesFind', WHERE WHAT IT READS IS OF BULK AT MOST 1048576: true; the input reads as it did. -/
def fnExactPlacesFindUptoRow : OpenClaim := { program := "ytppjbmmeacmoiaa", sum := "a53413563ba2ba44e114599955aadbae5bc8daab6f4abd5eee0dc1793c9fe360", func := "loop.example/g00259/laws.FnExactPlacesFind", spec := "fnExactPlacesFind", inPlace := ["internal/bytealg.abigen_runtime_cmpstring"], unfollowed := true, recurses := true, plainKeys := false, apart := false, narrowed := true }
def FnExactPlacesFindUptoSaid : Prop := fnExactPlacesFindUptoRow.holds Try.pinned (OpenSpec.upto fnExactPlacesFindSpec)

/-- 'laws.FnExactPlacesDrop', WHERE WHAT IT READS IS OF BULK AT MOST 1048576: true; the input reads as it did. -/
def fnExactPlacesDropUptoRow : OpenClaim := { program := "ytppjbmmeacmoiaa", sum := "a53413563ba2ba44e114599955aadbae5bc8daab6f4abd5eee0dc1793c9fe360", func := "loop.example/g00259/laws.FnExactPlacesDrop", spec := "fnExactPlacesDrop", inPlace := ["internal/bytealg.abigen_runtime_cmpstring"], unfollowed := true, recurses := true, plainKeys := false, apart := false, narrowed := true }
def FnExactPlacesDropUptoSaid : Prop := fnExactPlacesDropUptoRow.holds Try.pinned (OpenSpec.upto fnExactPlacesDropSpec)

end Rows
end Go.Proofs.Ytppjbmmeacmoiaa
