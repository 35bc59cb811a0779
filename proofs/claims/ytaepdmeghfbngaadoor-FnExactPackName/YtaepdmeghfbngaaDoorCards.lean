/-
  DERIVED. GIVEN WITH THE SEED: THE CARDS: each row of YtaepdmeghfbngaaDoorRows.lean that lists a variable, with what it lists TIED to the program's text (the seventh form; the later family's looks); each row that meets fmt, with fmt's text TOLD by the authors' own Lean function (tested against real Go, not proved from fmt's source: count such statements apart). THE CARD IS WHAT COUNTS. Prove the row's statement (the work); the ties are given (YtaepdmeghfbngaaDoorTie.lean); close each card by the builder's one call (the guide's Derived/Test/ToyasCard.lean, 'card_holds'). Laid BY PROGRAM, IN A SANDBOX (cutbox-door.mjs). By AI agents, Wed Nov 11 2026. No macro, syntax, notation, axiom, sorry.
-/
import Derived.Test.YtaepdmeghfbngaaDoorRows
import GoSem.ClaimSeven
namespace Go.Proofs.YtaepdmeghfbngaaDoor
namespace Rows

/-- THE TIED CARD OF 'laws.FnExactPackName'. -/
def fnExactPackNameCard : Claim7 := { stood := { row := fnExactPackNameRow, standIns := [], harness := (true, "9136c5d1b0d7fdc0784501a543c2047f99be15910eb497c3f387e5669620b876"), looks := false }, kinds := [], alts := [], laidByText := true, laidKinds := [.data], laidTests := true, laidLooks := .later }
def FnExactPackNameCardSaid : Prop := Claim7.holds Tryd.pinned (.plain (OpenSpec.ofChange fnExactPackNameSpec)) fnExactPackNameCard

/-- THE SECOND FORM's CARD OF 'laws.FnExactPackName'. -/
def fnExactPackNameUptoCard : Claim7 := { stood := { row := fnExactPackNameUptoRow, standIns := [], harness := (true, "9136c5d1b0d7fdc0784501a543c2047f99be15910eb497c3f387e5669620b876"), looks := false }, kinds := [], alts := [], laidByText := true, laidKinds := [.data], laidTests := true, laidLooks := .later }
def FnExactPackNameUptoCardSaid : Prop := Claim7.holds Tryd.pinned (.plain (OpenSpec.upto fnExactPackNameSpec)) fnExactPackNameUptoCard
end Rows
end Go.Proofs.YtaepdmeghfbngaaDoor
