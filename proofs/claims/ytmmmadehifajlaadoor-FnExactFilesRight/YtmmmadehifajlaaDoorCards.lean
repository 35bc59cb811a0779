/-
  DERIVED. GIVEN WITH THE SEED: THE CARDS: each row of YtmmmadehifajlaaDoorRows.lean that lists a variable, with what it lists TIED to the program's text (the seventh form; the later family's looks); each row that meets fmt, with fmt's text TOLD by the authors' own Lean function (tested against real Go, not proved from fmt's source: count such statements apart). THE CARD IS WHAT COUNTS. Prove the row's statement (the work); the ties are given (YtmmmadehifajlaaDoorTie.lean); close each card by the builder's one call (the guide's Derived/Test/ToyasCard.lean, 'card_holds'). Laid BY PROGRAM, IN A SANDBOX (cutbox-door.mjs). By AI agents, Wed Nov 11 2026. No macro, syntax, notation, axiom, sorry.
-/
import Derived.Test.YtmmmadehifajlaaDoorRows
import GoSem.ClaimSeven
namespace Go.Proofs.YtmmmadehifajlaaDoor
namespace Rows

/-- THE TIED CARD OF 'laws.FnExactFilesRight'. -/
def fnExactFilesRightCard : Claim7 := { stood := { row := fnExactFilesRightRow, standIns := [], harness := (true, "dc0ef55d9ccd9e156845b2419b54d26371b7c0bebb6de94899d63eb0e165465e"), looks := false }, kinds := [], alts := [], laidByText := true, laidKinds := [.data, .pinned], laidTests := true, laidLooks := .later }
def FnExactFilesRightCardSaid : Prop := Claim7.holds Tryd.pinned (.plain (OpenSpec.ofChange fnExactFilesRightSpec)) fnExactFilesRightCard

/-- THE SECOND FORM's CARD OF 'laws.FnExactFilesRight'. -/
def fnExactFilesRightUptoCard : Claim7 := { stood := { row := fnExactFilesRightUptoRow, standIns := [], harness := (true, "dc0ef55d9ccd9e156845b2419b54d26371b7c0bebb6de94899d63eb0e165465e"), looks := false }, kinds := [], alts := [], laidByText := true, laidKinds := [.data, .pinned], laidTests := true, laidLooks := .later }
def FnExactFilesRightUptoCardSaid : Prop := Claim7.holds Tryd.pinned (.plain (OpenSpec.upto fnExactFilesRightSpec)) fnExactFilesRightUptoCard
end Rows
end Go.Proofs.YtmmmadehifajlaaDoor
