/-
  DERIVED. GIVEN WITH THE SEED: THE CARDS: each row of YtggfdmhfcpabdaaGreatDoorRows.lean that lists a variable, with what it lists TIED to the program's text (the seventh form; the later family's looks); each row that meets fmt, with fmt's text TOLD by the authors' own Lean function (tested against real Go, not proved from fmt's source: count such statements apart). THE CARD IS WHAT COUNTS. Prove the row's statement (the work); the ties are given (YtggfdmhfcpabdaaGreatDoorTie.lean); close each card by the builder's one call (the guide's Derived/Test/ToyasCard.lean, 'card_holds'). Laid BY PROGRAM, IN A SANDBOX (cutbox-door.mjs). By AI agents, Wed Nov 11 2026. No macro, syntax, notation, axiom, sorry.
-/
import Derived.Test.YtggfdmhfcpabdaaGreatDoorRows
import GoSem.ClaimSeven
namespace Go.Proofs.YtggfdmhfcpabdaaGreatDoor
namespace Rows

/-- THE TIED CARD OF 'isoglosslaw07.ParseTells'. -/
def parseTellsCard : Claim7 := { stood := { row := parseTellsRow, standIns := [], harness := (true, "10a336962f0acab964f376724587ecd525c6e21f4dc01de0fcfef7cf04cf6878"), looks := true }, kinds := [], alts := [], laidByText := true, laidKinds := [.handle, .data], laidTests := true, laidLooks := .later }
def ParseTellsCardSaid : Prop := Claim7.holds Tryz.pinned (.plain (OpenSpec.ofChange parseTellsSpec)) parseTellsCard

/-- THE TIED CARD OF 'isoglosslaw07.ParseBack'. -/
def parseBackCard : Claim7 := { stood := { row := parseBackRow, standIns := [], harness := (true, "10a336962f0acab964f376724587ecd525c6e21f4dc01de0fcfef7cf04cf6878"), looks := true }, kinds := [], alts := [], laidByText := true, laidKinds := [.handle, .data], laidTests := true, laidLooks := .later }
def ParseBackCardSaid : Prop := Claim7.holds Tryz.pinned (.plain (OpenSpec.ofChange parseBackSpec)) parseBackCard

/-- THE TIED CARD OF 'isoglosslaw07.ParseRight'. -/
def parseRightCard : Claim7 := { stood := { row := parseRightRow, standIns := [], harness := (true, "10a336962f0acab964f376724587ecd525c6e21f4dc01de0fcfef7cf04cf6878"), looks := true }, kinds := [], alts := [], laidByText := true, laidKinds := [.handle, .data], laidTests := true, laidLooks := .later }
def ParseRightCardSaid : Prop := Claim7.holds Tryz.pinned (.plain (OpenSpec.ofChange parseRightSpec)) parseRightCard

/-- THE TIED CARD OF 'isoglosslaw07.ParseFirst'. -/
def parseFirstCard : Claim7 := { stood := { row := parseFirstRow, standIns := [], harness := (true, "10a336962f0acab964f376724587ecd525c6e21f4dc01de0fcfef7cf04cf6878"), looks := true }, kinds := [], alts := [], laidByText := true, laidKinds := [.handle, .data], laidTests := true, laidLooks := .later }
def ParseFirstCardSaid : Prop := Claim7.holds Tryz.pinned (.plain (OpenSpec.ofChange parseFirstSpec)) parseFirstCard

/-- THE TIED CARD OF 'isoglosslaw07.ParseGrows'. -/
def parseGrowsCard : Claim7 := { stood := { row := parseGrowsRow, standIns := [], harness := (true, "10a336962f0acab964f376724587ecd525c6e21f4dc01de0fcfef7cf04cf6878"), looks := true }, kinds := [], alts := [], laidByText := true, laidKinds := [.handle, .data], laidTests := true, laidLooks := .later }
def ParseGrowsCardSaid : Prop := Claim7.holds Tryz.pinned (.plain (OpenSpec.ofChange parseGrowsSpec)) parseGrowsCard

/-- THE TIED CARD OF 'isoglosslaw07.ParsePrivate'. -/
def parsePrivateCard : Claim7 := { stood := { row := parsePrivateRow, standIns := [], harness := (true, "10a336962f0acab964f376724587ecd525c6e21f4dc01de0fcfef7cf04cf6878"), looks := true }, kinds := [], alts := [], laidByText := true, laidKinds := [.handle, .data], laidTests := true, laidLooks := .later }
def ParsePrivateCardSaid : Prop := Claim7.holds Tryz.pinned (.plain (OpenSpec.ofChange parsePrivateSpec)) parsePrivateCard

/-- THE SECOND FORM's CARD OF 'isoglosslaw07.ParseTells'. -/
def parseTellsUptoCard : Claim7 := { stood := { row := parseTellsUptoRow, standIns := [], harness := (true, "10a336962f0acab964f376724587ecd525c6e21f4dc01de0fcfef7cf04cf6878"), looks := true }, kinds := [], alts := [], laidByText := true, laidKinds := [.handle, .data], laidTests := true, laidLooks := .later }
def ParseTellsUptoCardSaid : Prop := Claim7.holds Tryz.pinned (.plain (OpenSpec.upto parseTellsSpec)) parseTellsUptoCard

/-- THE SECOND FORM's CARD OF 'isoglosslaw07.ParseBack'. -/
def parseBackUptoCard : Claim7 := { stood := { row := parseBackUptoRow, standIns := [], harness := (true, "10a336962f0acab964f376724587ecd525c6e21f4dc01de0fcfef7cf04cf6878"), looks := true }, kinds := [], alts := [], laidByText := true, laidKinds := [.handle, .data], laidTests := true, laidLooks := .later }
def ParseBackUptoCardSaid : Prop := Claim7.holds Tryz.pinned (.plain (OpenSpec.upto parseBackSpec)) parseBackUptoCard

/-- THE SECOND FORM's CARD OF 'isoglosslaw07.ParseRight'. -/
def parseRightUptoCard : Claim7 := { stood := { row := parseRightUptoRow, standIns := [], harness := (true, "10a336962f0acab964f376724587ecd525c6e21f4dc01de0fcfef7cf04cf6878"), looks := true }, kinds := [], alts := [], laidByText := true, laidKinds := [.handle, .data], laidTests := true, laidLooks := .later }
def ParseRightUptoCardSaid : Prop := Claim7.holds Tryz.pinned (.plain (OpenSpec.upto parseRightSpec)) parseRightUptoCard

/-- THE SECOND FORM's CARD OF 'isoglosslaw07.ParseFirst'. -/
def parseFirstUptoCard : Claim7 := { stood := { row := parseFirstUptoRow, standIns := [], harness := (true, "10a336962f0acab964f376724587ecd525c6e21f4dc01de0fcfef7cf04cf6878"), looks := true }, kinds := [], alts := [], laidByText := true, laidKinds := [.handle, .data], laidTests := true, laidLooks := .later }
def ParseFirstUptoCardSaid : Prop := Claim7.holds Tryz.pinned (.plain (OpenSpec.upto parseFirstSpec)) parseFirstUptoCard

/-- THE SECOND FORM's CARD OF 'isoglosslaw07.ParseGrows'. -/
def parseGrowsUptoCard : Claim7 := { stood := { row := parseGrowsUptoRow, standIns := [], harness := (true, "10a336962f0acab964f376724587ecd525c6e21f4dc01de0fcfef7cf04cf6878"), looks := true }, kinds := [], alts := [], laidByText := true, laidKinds := [.handle, .data], laidTests := true, laidLooks := .later }
def ParseGrowsUptoCardSaid : Prop := Claim7.holds Tryz.pinned (.plain (OpenSpec.upto parseGrowsSpec)) parseGrowsUptoCard

/-- THE SECOND FORM's CARD OF 'isoglosslaw07.ParsePrivate'. -/
def parsePrivateUptoCard : Claim7 := { stood := { row := parsePrivateUptoRow, standIns := [], harness := (true, "10a336962f0acab964f376724587ecd525c6e21f4dc01de0fcfef7cf04cf6878"), looks := true }, kinds := [], alts := [], laidByText := true, laidKinds := [.handle, .data], laidTests := true, laidLooks := .later }
def ParsePrivateUptoCardSaid : Prop := Claim7.holds Tryz.pinned (.plain (OpenSpec.upto parsePrivateSpec)) parsePrivateUptoCard
end Rows
end Go.Proofs.YtggfdmhfcpabdaaGreatDoor
