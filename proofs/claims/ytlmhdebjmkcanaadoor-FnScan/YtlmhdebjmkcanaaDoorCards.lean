/-
  DERIVED. GIVEN WITH THE SEED: THE CARDS: each row of YtlmhdebjmkcanaaDoorRows.lean that lists a variable, with what it lists TIED to the program's text (the seventh form; the later family's looks); each row that meets fmt, with fmt's text TOLD by the authors' own Lean function (tested against real Go, not proved from fmt's source: count such statements apart). THE CARD IS WHAT COUNTS. Prove the row's statement (the work); the ties are given (YtlmhdebjmkcanaaDoorTie.lean); close each card by the builder's one call (the guide's Derived/Test/ToyasCard.lean, 'card_holds'). Laid BY PROGRAM, IN A SANDBOX (cutbox-door.mjs). By AI agents, Wed Nov 11 2026. No macro, syntax, notation, axiom, sorry.
-/
import Derived.Test.YtlmhdebjmkcanaaDoorRows
import GoSem.ClaimSeven
namespace Go.Proofs.YtlmhdebjmkcanaaDoor
namespace Rows

/-- THE TIED CARD OF 'laws.FnPack'. -/
def fnPackCard : Claim7 := { stood := { row := fnPackRow, standIns := [], harness := (true, "86d8f809a3dc91345b6237c26d4915357d1792fc154da1bcd68060d9f454d00b"), looks := true }, kinds := [], alts := [], laidByText := true, laidKinds := [.data], laidTests := true, laidLooks := .later }
def FnPackCardSaid : Prop := Claim7.holds Tryd.pinned (.plain (OpenSpec.ofChange fnPackSpec)) fnPackCard

/-- THE TIED CARD OF 'laws.FnScan'. -/
def fnScanCard : Claim7 := { stood := { row := fnScanRow, standIns := [], harness := (true, "86d8f809a3dc91345b6237c26d4915357d1792fc154da1bcd68060d9f454d00b"), looks := true }, kinds := [], alts := [], laidByText := true, laidKinds := [.data], laidTests := true, laidLooks := .later }
def FnScanCardSaid : Prop := Claim7.holds Tryd.pinned (.plain (OpenSpec.ofChange fnScanSpec)) fnScanCard

/-- THE TIED CARD OF 'laws.FnExactBlobKey'. -/
def fnExactBlobKeyCard : Claim7 := { stood := { row := fnExactBlobKeyRow, standIns := [], harness := (true, "86d8f809a3dc91345b6237c26d4915357d1792fc154da1bcd68060d9f454d00b"), looks := true }, kinds := [], alts := [], laidByText := true, laidKinds := [.data], laidTests := true, laidLooks := .later }
def FnExactBlobKeyCardSaid : Prop := Claim7.holds Tryd.pinned (.plain (OpenSpec.ofChange fnExactBlobKeySpec)) fnExactBlobKeyCard

/-- THE TIED CARD OF 'laws.FnExactPackRight'. -/
def fnExactPackRightCard : Claim7 := { stood := { row := fnExactPackRightRow, standIns := [], harness := (true, "86d8f809a3dc91345b6237c26d4915357d1792fc154da1bcd68060d9f454d00b"), looks := true }, kinds := [], alts := [], laidByText := true, laidKinds := [.data], laidTests := true, laidLooks := .later }
def FnExactPackRightCardSaid : Prop := Claim7.holds Tryd.pinned (.plain (OpenSpec.ofChange fnExactPackRightSpec)) fnExactPackRightCard

/-- THE TIED CARD OF 'laws.FnExactPackBytes'. -/
def fnExactPackBytesCard : Claim7 := { stood := { row := fnExactPackBytesRow, standIns := [], harness := (true, "86d8f809a3dc91345b6237c26d4915357d1792fc154da1bcd68060d9f454d00b"), looks := true }, kinds := [], alts := [], laidByText := true, laidKinds := [.data], laidTests := true, laidLooks := .later }
def FnExactPackBytesCardSaid : Prop := Claim7.holds Tryd.pinned (.plain (OpenSpec.ofChange fnExactPackBytesSpec)) fnExactPackBytesCard

/-- THE SECOND FORM's CARD OF 'laws.FnPack'. -/
def fnPackUptoCard : Claim7 := { stood := { row := fnPackUptoRow, standIns := [], harness := (true, "86d8f809a3dc91345b6237c26d4915357d1792fc154da1bcd68060d9f454d00b"), looks := true }, kinds := [], alts := [], laidByText := true, laidKinds := [.data], laidTests := true, laidLooks := .later }
def FnPackUptoCardSaid : Prop := Claim7.holds Tryd.pinned (.plain (OpenSpec.upto fnPackSpec)) fnPackUptoCard

/-- THE SECOND FORM's CARD OF 'laws.FnScan'. -/
def fnScanUptoCard : Claim7 := { stood := { row := fnScanUptoRow, standIns := [], harness := (true, "86d8f809a3dc91345b6237c26d4915357d1792fc154da1bcd68060d9f454d00b"), looks := true }, kinds := [], alts := [], laidByText := true, laidKinds := [.data], laidTests := true, laidLooks := .later }
def FnScanUptoCardSaid : Prop := Claim7.holds Tryd.pinned (.plain (OpenSpec.upto fnScanSpec)) fnScanUptoCard

/-- THE SECOND FORM's CARD OF 'laws.FnExactBlobKey'. -/
def fnExactBlobKeyUptoCard : Claim7 := { stood := { row := fnExactBlobKeyUptoRow, standIns := [], harness := (true, "86d8f809a3dc91345b6237c26d4915357d1792fc154da1bcd68060d9f454d00b"), looks := true }, kinds := [], alts := [], laidByText := true, laidKinds := [.data], laidTests := true, laidLooks := .later }
def FnExactBlobKeyUptoCardSaid : Prop := Claim7.holds Tryd.pinned (.plain (OpenSpec.upto fnExactBlobKeySpec)) fnExactBlobKeyUptoCard

/-- THE SECOND FORM's CARD OF 'laws.FnExactPackRight'. -/
def fnExactPackRightUptoCard : Claim7 := { stood := { row := fnExactPackRightUptoRow, standIns := [], harness := (true, "86d8f809a3dc91345b6237c26d4915357d1792fc154da1bcd68060d9f454d00b"), looks := true }, kinds := [], alts := [], laidByText := true, laidKinds := [.data], laidTests := true, laidLooks := .later }
def FnExactPackRightUptoCardSaid : Prop := Claim7.holds Tryd.pinned (.plain (OpenSpec.upto fnExactPackRightSpec)) fnExactPackRightUptoCard

/-- THE SECOND FORM's CARD OF 'laws.FnExactPackBytes'. -/
def fnExactPackBytesUptoCard : Claim7 := { stood := { row := fnExactPackBytesUptoRow, standIns := [], harness := (true, "86d8f809a3dc91345b6237c26d4915357d1792fc154da1bcd68060d9f454d00b"), looks := true }, kinds := [], alts := [], laidByText := true, laidKinds := [.data], laidTests := true, laidLooks := .later }
def FnExactPackBytesUptoCardSaid : Prop := Claim7.holds Tryd.pinned (.plain (OpenSpec.upto fnExactPackBytesSpec)) fnExactPackBytesUptoCard
end Rows
end Go.Proofs.YtlmhdebjmkcanaaDoor
