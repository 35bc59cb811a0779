/-
  DERIVED. GIVEN WITH THE SEED: THE CARDS: each row of YtkkndkikfphnbaaDoorRows.lean that lists a variable, with what it lists TIED to the program's text (the seventh form; the later family's looks); each row that meets fmt, with fmt's text TOLD by the authors' own Lean function (tested against real Go, not proved from fmt's source: count such statements apart). THE CARD IS WHAT COUNTS. Prove the row's statement (the work); the ties are given (YtkkndkikfphnbaaDoorTie.lean); close each card by the builder's one call (the guide's Derived/Test/ToyasCard.lean, 'card_holds'). Laid BY PROGRAM, IN A SANDBOX (cutbox-door.mjs). By AI agents, Wed Nov 11 2026. No macro, syntax, notation, axiom, sorry.
-/
import Derived.Test.YtkkndkikfphnbaaDoorRows
import GoSem.ClaimSeven
namespace Go.Proofs.YtkkndkikfphnbaaDoor
namespace Rows

/-- THE TIED CARD OF 'laws.FnHash'. -/
def fnHashCard : Claim7 := { stood := { row := fnHashRow, standIns := [], harness := (true, "88b8541074b66f8efe8b398c21c569bf08bc1079436c0d3b94ecb418bd429985"), looks := false }, kinds := [], alts := [], laidByText := true, laidKinds := [.data], laidTests := true, laidLooks := .later }
def FnHashCardSaid : Prop := Claim7.holds Tryd.pinned (.plain (OpenSpec.ofChange fnHashSpec)) fnHashCard

/-- THE TIED CARD OF 'laws.FnExactDigest'. -/
def fnExactDigestCard : Claim7 := { stood := { row := fnExactDigestRow, standIns := [], harness := (true, "88b8541074b66f8efe8b398c21c569bf08bc1079436c0d3b94ecb418bd429985"), looks := false }, kinds := [], alts := [], laidByText := true, laidKinds := [.data], laidTests := true, laidLooks := .later }
def FnExactDigestCardSaid : Prop := Claim7.holds Tryd.pinned (.plain (OpenSpec.ofChange fnExactDigestSpec)) fnExactDigestCard

/-- THE TIED CARD OF 'laws.FnExactHashMore'. -/
def fnExactHashMoreCard : Claim7 := { stood := { row := fnExactHashMoreRow, standIns := [], harness := (true, "88b8541074b66f8efe8b398c21c569bf08bc1079436c0d3b94ecb418bd429985"), looks := false }, kinds := [], alts := [], laidByText := true, laidKinds := [.data], laidTests := true, laidLooks := .later }
def FnExactHashMoreCardSaid : Prop := Claim7.holds Tryd.pinned (.plain (OpenSpec.ofChange fnExactHashMoreSpec)) fnExactHashMoreCard

/-- THE TIED CARD OF 'laws.FnExactHashEnd'. -/
def fnExactHashEndCard : Claim7 := { stood := { row := fnExactHashEndRow, standIns := [], harness := (true, "88b8541074b66f8efe8b398c21c569bf08bc1079436c0d3b94ecb418bd429985"), looks := false }, kinds := [], alts := [], laidByText := true, laidKinds := [.data], laidTests := true, laidLooks := .later }
def FnExactHashEndCardSaid : Prop := Claim7.holds Tryd.pinned (.plain (OpenSpec.ofChange fnExactHashEndSpec)) fnExactHashEndCard

/-- THE TIED CARD OF 'laws.FnExactShort'. -/
def fnExactShortCard : Claim7 := { stood := { row := fnExactShortRow, standIns := [], harness := (true, "88b8541074b66f8efe8b398c21c569bf08bc1079436c0d3b94ecb418bd429985"), looks := false }, kinds := [], alts := [], laidByText := true, laidKinds := [.data], laidTests := true, laidLooks := .later }
def FnExactShortCardSaid : Prop := Claim7.holds Tryd.pinned (.plain (OpenSpec.ofChange fnExactShortSpec)) fnExactShortCard

/-- THE SECOND FORM's CARD OF 'laws.FnHash'. -/
def fnHashUptoCard : Claim7 := { stood := { row := fnHashUptoRow, standIns := [], harness := (true, "88b8541074b66f8efe8b398c21c569bf08bc1079436c0d3b94ecb418bd429985"), looks := false }, kinds := [], alts := [], laidByText := true, laidKinds := [.data], laidTests := true, laidLooks := .later }
def FnHashUptoCardSaid : Prop := Claim7.holds Tryd.pinned (.plain (OpenSpec.upto fnHashSpec)) fnHashUptoCard

/-- THE SECOND FORM's CARD OF 'laws.FnExactDigest'. -/
def fnExactDigestUptoCard : Claim7 := { stood := { row := fnExactDigestUptoRow, standIns := [], harness := (true, "88b8541074b66f8efe8b398c21c569bf08bc1079436c0d3b94ecb418bd429985"), looks := false }, kinds := [], alts := [], laidByText := true, laidKinds := [.data], laidTests := true, laidLooks := .later }
def FnExactDigestUptoCardSaid : Prop := Claim7.holds Tryd.pinned (.plain (OpenSpec.upto fnExactDigestSpec)) fnExactDigestUptoCard

/-- THE SECOND FORM's CARD OF 'laws.FnExactHashMore'. -/
def fnExactHashMoreUptoCard : Claim7 := { stood := { row := fnExactHashMoreUptoRow, standIns := [], harness := (true, "88b8541074b66f8efe8b398c21c569bf08bc1079436c0d3b94ecb418bd429985"), looks := false }, kinds := [], alts := [], laidByText := true, laidKinds := [.data], laidTests := true, laidLooks := .later }
def FnExactHashMoreUptoCardSaid : Prop := Claim7.holds Tryd.pinned (.plain (OpenSpec.upto fnExactHashMoreSpec)) fnExactHashMoreUptoCard

/-- THE SECOND FORM's CARD OF 'laws.FnExactHashEnd'. -/
def fnExactHashEndUptoCard : Claim7 := { stood := { row := fnExactHashEndUptoRow, standIns := [], harness := (true, "88b8541074b66f8efe8b398c21c569bf08bc1079436c0d3b94ecb418bd429985"), looks := false }, kinds := [], alts := [], laidByText := true, laidKinds := [.data], laidTests := true, laidLooks := .later }
def FnExactHashEndUptoCardSaid : Prop := Claim7.holds Tryd.pinned (.plain (OpenSpec.upto fnExactHashEndSpec)) fnExactHashEndUptoCard

/-- THE SECOND FORM's CARD OF 'laws.FnExactShort'. -/
def fnExactShortUptoCard : Claim7 := { stood := { row := fnExactShortUptoRow, standIns := [], harness := (true, "88b8541074b66f8efe8b398c21c569bf08bc1079436c0d3b94ecb418bd429985"), looks := false }, kinds := [], alts := [], laidByText := true, laidKinds := [.data], laidTests := true, laidLooks := .later }
def FnExactShortUptoCardSaid : Prop := Claim7.holds Tryd.pinned (.plain (OpenSpec.upto fnExactShortSpec)) fnExactShortUptoCard
end Rows
end Go.Proofs.YtkkndkikfphnbaaDoor
