/-
  DERIVED. GIVEN WITH THE SEED: THE CARDS: each row of YtlmhdebjmkcanabDoorRows.lean that lists a variable, with what it lists TIED to the program's text (the seventh form; the later family's looks); each row that meets fmt, with fmt's text TOLD by the authors' own Lean function (tested against real Go, not proved from fmt's source: count such statements apart). THE CARD IS WHAT COUNTS. Prove the row's statement (the work); the ties are given (YtlmhdebjmkcanabDoorTie.lean); close each card by the builder's one call (the guide's Derived/Test/ToyasCard.lean, 'card_holds'). Laid BY PROGRAM, IN A SANDBOX (cutbox-door.mjs). By AI agents, Wed Nov 11 2026. No macro, syntax, notation, axiom, sorry.
-/
import Derived.Test.YtlmhdebjmkcanabDoorRows
import GoSem.ClaimSeven
namespace Go.Proofs.YtlmhdebjmkcanabDoor
namespace Rows

/-- THE TIED CARD OF 'laws.FnExactPackRead'. -/
def fnExactPackReadCard : Claim7 := { stood := { row := fnExactPackReadRow, standIns := [], harness := (true, "2e7fca4b2c3e9e276e9e3178157af23056a5bd1db3fbd0ed39702e5bab5776af"), looks := true }, kinds := [], alts := [], laidByText := true, laidKinds := [.data], laidTests := true, laidLooks := .later }
def FnExactPackReadCardSaid : Prop := Claim7.holds Tryd.pinned (.plain (OpenSpec.ofChange fnExactPackReadSpec)) fnExactPackReadCard

/-- THE TIED CARD OF 'laws.FnExactPackScan'. -/
def fnExactPackScanCard : Claim7 := { stood := { row := fnExactPackScanRow, standIns := [], harness := (true, "2e7fca4b2c3e9e276e9e3178157af23056a5bd1db3fbd0ed39702e5bab5776af"), looks := true }, kinds := [], alts := [], laidByText := true, laidKinds := [.data], laidTests := true, laidLooks := .later }
def FnExactPackScanCardSaid : Prop := Claim7.holds Tryd.pinned (.plain (OpenSpec.ofChange fnExactPackScanSpec)) fnExactPackScanCard

/-- THE TIED CARD OF 'laws.FnExactPackGet'. -/
def fnExactPackGetCard : Claim7 := { stood := { row := fnExactPackGetRow, standIns := [], harness := (true, "2e7fca4b2c3e9e276e9e3178157af23056a5bd1db3fbd0ed39702e5bab5776af"), looks := true }, kinds := [], alts := [], laidByText := true, laidKinds := [.data], laidTests := true, laidLooks := .later }
def FnExactPackGetCardSaid : Prop := Claim7.holds Tryd.pinned (.plain (OpenSpec.ofChange fnExactPackGetSpec)) fnExactPackGetCard

/-- THE SECOND FORM's CARD OF 'laws.FnExactPackRead'. -/
def fnExactPackReadUptoCard : Claim7 := { stood := { row := fnExactPackReadUptoRow, standIns := [], harness := (true, "2e7fca4b2c3e9e276e9e3178157af23056a5bd1db3fbd0ed39702e5bab5776af"), looks := true }, kinds := [], alts := [], laidByText := true, laidKinds := [.data], laidTests := true, laidLooks := .later }
def FnExactPackReadUptoCardSaid : Prop := Claim7.holds Tryd.pinned (.plain (OpenSpec.upto fnExactPackReadSpec)) fnExactPackReadUptoCard

/-- THE SECOND FORM's CARD OF 'laws.FnExactPackScan'. -/
def fnExactPackScanUptoCard : Claim7 := { stood := { row := fnExactPackScanUptoRow, standIns := [], harness := (true, "2e7fca4b2c3e9e276e9e3178157af23056a5bd1db3fbd0ed39702e5bab5776af"), looks := true }, kinds := [], alts := [], laidByText := true, laidKinds := [.data], laidTests := true, laidLooks := .later }
def FnExactPackScanUptoCardSaid : Prop := Claim7.holds Tryd.pinned (.plain (OpenSpec.upto fnExactPackScanSpec)) fnExactPackScanUptoCard

/-- THE SECOND FORM's CARD OF 'laws.FnExactPackGet'. -/
def fnExactPackGetUptoCard : Claim7 := { stood := { row := fnExactPackGetUptoRow, standIns := [], harness := (true, "2e7fca4b2c3e9e276e9e3178157af23056a5bd1db3fbd0ed39702e5bab5776af"), looks := true }, kinds := [], alts := [], laidByText := true, laidKinds := [.data], laidTests := true, laidLooks := .later }
def FnExactPackGetUptoCardSaid : Prop := Claim7.holds Tryd.pinned (.plain (OpenSpec.upto fnExactPackGetSpec)) fnExactPackGetUptoCard
end Rows
end Go.Proofs.YtlmhdebjmkcanabDoor
