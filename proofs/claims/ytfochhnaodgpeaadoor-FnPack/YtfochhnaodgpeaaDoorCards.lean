/-
  DERIVED. GIVEN WITH THE SEED: THE CARDS: each row of YtfochhnaodgpeaaDoorRows.lean that lists a variable, with what it lists TIED to the program's text (the seventh form; the later family's looks); each row that meets fmt, with fmt's text TOLD by the authors' own Lean function (tested against real Go, not proved from fmt's source: count such statements apart). THE CARD IS WHAT COUNTS. Prove the row's statement (the work); the ties are given (YtfochhnaodgpeaaDoorTie.lean); close each card by the builder's one call (the guide's Derived/Test/ToyasCard.lean, 'card_holds'). Laid BY PROGRAM, IN A SANDBOX (cutbox-door.mjs). By AI agents, Wed Nov 11 2026. No macro, syntax, notation, axiom, sorry.
-/
import Derived.Test.YtfochhnaodgpeaaDoorRows
import GoSem.ClaimSeven
namespace Go.Proofs.YtfochhnaodgpeaaDoor
namespace Rows

/-- THE TIED CARD OF 'laws.FnPack'. -/
def fnPackCard : Claim7 := { stood := { row := fnPackRow, standIns := [], harness := (true, "be93518d417cfe3834140c2a30503ff735abc117375bbc9daed80deec5391ba8"), looks := true }, kinds := [], alts := [], laidByText := true, laidKinds := [.data], laidTests := true, laidLooks := .later }
def FnPackCardSaid : Prop := Claim7.holds Tryd.pinned (.plain (OpenSpec.ofChange fnPackSpec)) fnPackCard

/-- THE TIED CARD OF 'laws.FnExactBlobKey'. -/
def fnExactBlobKeyCard : Claim7 := { stood := { row := fnExactBlobKeyRow, standIns := [], harness := (true, "be93518d417cfe3834140c2a30503ff735abc117375bbc9daed80deec5391ba8"), looks := true }, kinds := [], alts := [], laidByText := true, laidKinds := [.data], laidTests := true, laidLooks := .later }
def FnExactBlobKeyCardSaid : Prop := Claim7.holds Tryd.pinned (.plain (OpenSpec.ofChange fnExactBlobKeySpec)) fnExactBlobKeyCard

/-- THE TIED CARD OF 'laws.FnExactPackRight'. -/
def fnExactPackRightCard : Claim7 := { stood := { row := fnExactPackRightRow, standIns := [], harness := (true, "be93518d417cfe3834140c2a30503ff735abc117375bbc9daed80deec5391ba8"), looks := true }, kinds := [], alts := [], laidByText := true, laidKinds := [.data], laidTests := true, laidLooks := .later }
def FnExactPackRightCardSaid : Prop := Claim7.holds Tryd.pinned (.plain (OpenSpec.ofChange fnExactPackRightSpec)) fnExactPackRightCard

/-- THE TIED CARD OF 'laws.FnExactPackBytes'. -/
def fnExactPackBytesCard : Claim7 := { stood := { row := fnExactPackBytesRow, standIns := [], harness := (true, "be93518d417cfe3834140c2a30503ff735abc117375bbc9daed80deec5391ba8"), looks := true }, kinds := [], alts := [], laidByText := true, laidKinds := [.data], laidTests := true, laidLooks := .later }
def FnExactPackBytesCardSaid : Prop := Claim7.holds Tryd.pinned (.plain (OpenSpec.ofChange fnExactPackBytesSpec)) fnExactPackBytesCard

/-- THE TIED CARD OF 'laws.FnExactPackRead'. -/
def fnExactPackReadCard : Claim7 := { stood := { row := fnExactPackReadRow, standIns := [], harness := (true, "be93518d417cfe3834140c2a30503ff735abc117375bbc9daed80deec5391ba8"), looks := true }, kinds := [], alts := [], laidByText := true, laidKinds := [.data], laidTests := true, laidLooks := .later }
def FnExactPackReadCardSaid : Prop := Claim7.holds Tryd.pinned (.plain (OpenSpec.ofChange fnExactPackReadSpec)) fnExactPackReadCard

/-- THE TIED CARD OF 'laws.FnExactPackScan'. -/
def fnExactPackScanCard : Claim7 := { stood := { row := fnExactPackScanRow, standIns := [], harness := (true, "be93518d417cfe3834140c2a30503ff735abc117375bbc9daed80deec5391ba8"), looks := true }, kinds := [], alts := [], laidByText := true, laidKinds := [.data], laidTests := true, laidLooks := .later }
def FnExactPackScanCardSaid : Prop := Claim7.holds Tryd.pinned (.plain (OpenSpec.ofChange fnExactPackScanSpec)) fnExactPackScanCard

/-- THE TIED CARD OF 'laws.FnExactPackGet'. -/
def fnExactPackGetCard : Claim7 := { stood := { row := fnExactPackGetRow, standIns := [], harness := (true, "be93518d417cfe3834140c2a30503ff735abc117375bbc9daed80deec5391ba8"), looks := true }, kinds := [], alts := [], laidByText := true, laidKinds := [.data], laidTests := true, laidLooks := .later }
def FnExactPackGetCardSaid : Prop := Claim7.holds Tryd.pinned (.plain (OpenSpec.ofChange fnExactPackGetSpec)) fnExactPackGetCard

/-- THE SECOND FORM's CARD OF 'laws.FnPack'. -/
def fnPackUptoCard : Claim7 := { stood := { row := fnPackUptoRow, standIns := [], harness := (true, "be93518d417cfe3834140c2a30503ff735abc117375bbc9daed80deec5391ba8"), looks := true }, kinds := [], alts := [], laidByText := true, laidKinds := [.data], laidTests := true, laidLooks := .later }
def FnPackUptoCardSaid : Prop := Claim7.holds Tryd.pinned (.plain (OpenSpec.upto fnPackSpec)) fnPackUptoCard

/-- THE SECOND FORM's CARD OF 'laws.FnExactBlobKey'. -/
def fnExactBlobKeyUptoCard : Claim7 := { stood := { row := fnExactBlobKeyUptoRow, standIns := [], harness := (true, "be93518d417cfe3834140c2a30503ff735abc117375bbc9daed80deec5391ba8"), looks := true }, kinds := [], alts := [], laidByText := true, laidKinds := [.data], laidTests := true, laidLooks := .later }
def FnExactBlobKeyUptoCardSaid : Prop := Claim7.holds Tryd.pinned (.plain (OpenSpec.upto fnExactBlobKeySpec)) fnExactBlobKeyUptoCard

/-- THE SECOND FORM's CARD OF 'laws.FnExactPackRight'. -/
def fnExactPackRightUptoCard : Claim7 := { stood := { row := fnExactPackRightUptoRow, standIns := [], harness := (true, "be93518d417cfe3834140c2a30503ff735abc117375bbc9daed80deec5391ba8"), looks := true }, kinds := [], alts := [], laidByText := true, laidKinds := [.data], laidTests := true, laidLooks := .later }
def FnExactPackRightUptoCardSaid : Prop := Claim7.holds Tryd.pinned (.plain (OpenSpec.upto fnExactPackRightSpec)) fnExactPackRightUptoCard

/-- THE SECOND FORM's CARD OF 'laws.FnExactPackBytes'. -/
def fnExactPackBytesUptoCard : Claim7 := { stood := { row := fnExactPackBytesUptoRow, standIns := [], harness := (true, "be93518d417cfe3834140c2a30503ff735abc117375bbc9daed80deec5391ba8"), looks := true }, kinds := [], alts := [], laidByText := true, laidKinds := [.data], laidTests := true, laidLooks := .later }
def FnExactPackBytesUptoCardSaid : Prop := Claim7.holds Tryd.pinned (.plain (OpenSpec.upto fnExactPackBytesSpec)) fnExactPackBytesUptoCard

/-- THE SECOND FORM's CARD OF 'laws.FnExactPackRead'. -/
def fnExactPackReadUptoCard : Claim7 := { stood := { row := fnExactPackReadUptoRow, standIns := [], harness := (true, "be93518d417cfe3834140c2a30503ff735abc117375bbc9daed80deec5391ba8"), looks := true }, kinds := [], alts := [], laidByText := true, laidKinds := [.data], laidTests := true, laidLooks := .later }
def FnExactPackReadUptoCardSaid : Prop := Claim7.holds Tryd.pinned (.plain (OpenSpec.upto fnExactPackReadSpec)) fnExactPackReadUptoCard

/-- THE SECOND FORM's CARD OF 'laws.FnExactPackScan'. -/
def fnExactPackScanUptoCard : Claim7 := { stood := { row := fnExactPackScanUptoRow, standIns := [], harness := (true, "be93518d417cfe3834140c2a30503ff735abc117375bbc9daed80deec5391ba8"), looks := true }, kinds := [], alts := [], laidByText := true, laidKinds := [.data], laidTests := true, laidLooks := .later }
def FnExactPackScanUptoCardSaid : Prop := Claim7.holds Tryd.pinned (.plain (OpenSpec.upto fnExactPackScanSpec)) fnExactPackScanUptoCard

/-- THE SECOND FORM's CARD OF 'laws.FnExactPackGet'. -/
def fnExactPackGetUptoCard : Claim7 := { stood := { row := fnExactPackGetUptoRow, standIns := [], harness := (true, "be93518d417cfe3834140c2a30503ff735abc117375bbc9daed80deec5391ba8"), looks := true }, kinds := [], alts := [], laidByText := true, laidKinds := [.data], laidTests := true, laidLooks := .later }
def FnExactPackGetUptoCardSaid : Prop := Claim7.holds Tryd.pinned (.plain (OpenSpec.upto fnExactPackGetSpec)) fnExactPackGetUptoCard
end Rows
end Go.Proofs.YtfochhnaodgpeaaDoor
