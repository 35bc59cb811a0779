/-
  DERIVED. GIVEN WITH THE SEED: THE CARDS: each row of YtjkbldmadcgddaaDoorRows.lean that lists a variable, with what it lists TIED to the program's text (the seventh form; the later family's looks); each row that meets fmt, with fmt's text TOLD by the authors' own Lean function (tested against real Go, not proved from fmt's source: count such statements apart). THE CARD IS WHAT COUNTS. Prove the row's statement (the work); the ties are given (YtjkbldmadcgddaaDoorTie.lean); close each card by the builder's one call (the guide's Derived/Test/ToyasCard.lean, 'card_holds'). Laid BY PROGRAM, IN A SANDBOX (cutbox-door.mjs). By AI agents, Wed Nov 11 2026. No macro, syntax, notation, axiom, sorry.
-/
import Derived.Test.YtjkbldmadcgddaaDoorRows
import GoSem.ClaimSeven
namespace Go.Proofs.YtjkbldmadcgddaaDoor
namespace Rows

/-- THE TIED CARD OF 'laws.FnFrame'. -/
def fnFrameCard : Claim7 := { stood := { row := fnFrameRow, standIns := [], harness := (true, "e796f6fbfee8c73489249cffd36917956d7f986f099a48d65fc4adefb1ee51f7"), looks := false }, kinds := [], alts := [], laidByText := true, laidKinds := [.data], laidTests := true, laidLooks := .later }
def FnFrameCardSaid : Prop := Claim7.holds Tryd.pinned (.plain (OpenSpec.ofChange fnFrameSpec)) fnFrameCard

/-- THE TIED CARD OF 'laws.FnExactFrameRead'. -/
def fnExactFrameReadCard : Claim7 := { stood := { row := fnExactFrameReadRow, standIns := [], harness := (true, "e796f6fbfee8c73489249cffd36917956d7f986f099a48d65fc4adefb1ee51f7"), looks := false }, kinds := [], alts := [], laidByText := true, laidKinds := [.data], laidTests := true, laidLooks := .later }
def FnExactFrameReadCardSaid : Prop := Claim7.holds Tryd.pinned (.plain (OpenSpec.ofChange fnExactFrameReadSpec)) fnExactFrameReadCard

/-- THE SECOND FORM's CARD OF 'laws.FnFrame'. -/
def fnFrameUptoCard : Claim7 := { stood := { row := fnFrameUptoRow, standIns := [], harness := (true, "e796f6fbfee8c73489249cffd36917956d7f986f099a48d65fc4adefb1ee51f7"), looks := false }, kinds := [], alts := [], laidByText := true, laidKinds := [.data], laidTests := true, laidLooks := .later }
def FnFrameUptoCardSaid : Prop := Claim7.holds Tryd.pinned (.plain (OpenSpec.upto fnFrameSpec)) fnFrameUptoCard

/-- THE SECOND FORM's CARD OF 'laws.FnExactFrameRead'. -/
def fnExactFrameReadUptoCard : Claim7 := { stood := { row := fnExactFrameReadUptoRow, standIns := [], harness := (true, "e796f6fbfee8c73489249cffd36917956d7f986f099a48d65fc4adefb1ee51f7"), looks := false }, kinds := [], alts := [], laidByText := true, laidKinds := [.data], laidTests := true, laidLooks := .later }
def FnExactFrameReadUptoCardSaid : Prop := Claim7.holds Tryd.pinned (.plain (OpenSpec.upto fnExactFrameReadSpec)) fnExactFrameReadUptoCard
end Rows
end Go.Proofs.YtjkbldmadcgddaaDoor
