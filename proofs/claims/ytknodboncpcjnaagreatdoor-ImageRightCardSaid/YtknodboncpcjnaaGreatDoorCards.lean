/-
  DERIVED. GIVEN WITH THE SEED: THE CARDS: each row of YtknodboncpcjnaaGreatDoorRows.lean that lists a variable, with what it lists TIED to the program's text (the seventh form; the later family's looks); each row that meets fmt, with fmt's text TOLD by the authors' own Lean function (tested against real Go, not proved from fmt's source: count such statements apart). THE CARD IS WHAT COUNTS. Prove the row's statement (the work); the ties are given (YtknodboncpcjnaaGreatDoorTie.lean); close each card by the builder's one call (the guide's Derived/Test/ToyasCard.lean, 'card_holds'). Laid BY PROGRAM, IN A SANDBOX (cutbox-door.mjs). By AI agents, Wed Nov 11 2026. No macro, syntax, notation, axiom, sorry.
-/
import Derived.Test.YtknodboncpcjnaaGreatDoorRows
import GoSem.ClaimSeven
namespace Go.Proofs.YtknodboncpcjnaaGreatDoor
namespace Rows

/-- THE TIED CARD OF 'isoglosslaw13.ImageRight'. -/
def imageRightCard : Claim7 := { stood := { row := imageRightRow, standIns := [], harness := (true, "ec4704174bde4be45fd9c17991e10bc734cb66748ad6463e473ed8cb3911af39"), looks := true }, kinds := [], alts := [], laidByText := true, laidKinds := [.data], laidTests := true, laidLooks := .later }
def ImageRightCardSaid : Prop := Claim7.holds Tryz.pinned (.plain (OpenSpec.ofChange imageRightSpec)) imageRightCard

/-- THE TIED CARD OF 'isoglosslaw13.ImageEncodes'. -/
def imageEncodesCard : Claim7 := { stood := { row := imageEncodesRow, standIns := [], harness := (true, "ec4704174bde4be45fd9c17991e10bc734cb66748ad6463e473ed8cb3911af39"), looks := true }, kinds := [], alts := [], laidByText := true, laidKinds := [.handle, .data], laidTests := true, laidLooks := .later }
def ImageEncodesCardSaid : Prop := Claim7.holds Tryz.pinned (.plain (OpenSpec.ofChange imageEncodesSpec)) imageEncodesCard

/-- THE TIED CARD OF 'isoglosslaw13.ImageDecodes'. -/
def imageDecodesCard : Claim7 := { stood := { row := imageDecodesRow, standIns := [], harness := (true, "ec4704174bde4be45fd9c17991e10bc734cb66748ad6463e473ed8cb3911af39"), looks := true }, kinds := [], alts := [], laidByText := true, laidKinds := [.data, .handle, .data, .pinned], laidTests := true, laidLooks := .later }
def ImageDecodesCardSaid : Prop := Claim7.holds Tryz.pinned (.plain (OpenSpec.ofChange imageDecodesSpec)) imageDecodesCard

/-- THE TIED CARD OF 'isoglosslaw13.ImageBack'. -/
def imageBackCard : Claim7 := { stood := { row := imageBackRow, standIns := [], harness := (true, "ec4704174bde4be45fd9c17991e10bc734cb66748ad6463e473ed8cb3911af39"), looks := true }, kinds := [], alts := [], laidByText := true, laidKinds := [.data, .data, .pinned], laidTests := true, laidLooks := .later }
def ImageBackCardSaid : Prop := Claim7.holds Tryz.pinned (.plain (OpenSpec.ofChange imageBackSpec)) imageBackCard

/-- THE TIED CARD OF 'isoglosslaw13.ImageTurned'. -/
def imageTurnedCard : Claim7 := { stood := { row := imageTurnedRow, standIns := [], harness := (true, "ec4704174bde4be45fd9c17991e10bc734cb66748ad6463e473ed8cb3911af39"), looks := true }, kinds := [], alts := [], laidByText := true, laidKinds := [.data], laidTests := true, laidLooks := .later }
def ImageTurnedCardSaid : Prop := Claim7.holds Tryz.pinned (.plain (OpenSpec.ofChange imageTurnedSpec)) imageTurnedCard

/-- THE TIED CARD OF 'isoglosslaw13.ImageLess'. -/
def imageLessCard : Claim7 := { stood := { row := imageLessRow, standIns := [], harness := (true, "ec4704174bde4be45fd9c17991e10bc734cb66748ad6463e473ed8cb3911af39"), looks := true }, kinds := [], alts := [], laidByText := true, laidKinds := [.handle, .data], laidTests := true, laidLooks := .later }
def ImageLessCardSaid : Prop := Claim7.holds Tryz.pinned (.plain (OpenSpec.ofChange imageLessSpec)) imageLessCard

/-- THE TIED CARD OF 'isoglosslaw14.CheckTells'. -/
def checkTellsCard : Claim7 := { stood := { row := checkTellsRow, standIns := [], harness := (true, "ec4704174bde4be45fd9c17991e10bc734cb66748ad6463e473ed8cb3911af39"), looks := true }, kinds := [], alts := [], laidByText := true, laidKinds := [.handle, .data], laidTests := true, laidLooks := .later }
def CheckTellsCardSaid : Prop := Claim7.holds Tryz.pinned (.plain (OpenSpec.ofChange checkTellsSpec)) checkTellsCard

/-- THE TIED CARD OF 'isoglosslaw14.CheckLoads'. -/
def checkLoadsCard : Claim7 := { stood := { row := checkLoadsRow, standIns := [], harness := (true, "ec4704174bde4be45fd9c17991e10bc734cb66748ad6463e473ed8cb3911af39"), looks := true }, kinds := [], alts := [], laidByText := true, laidKinds := [.data, .handle, .data, .pinned], laidTests := true, laidLooks := .later }
def CheckLoadsCardSaid : Prop := Claim7.holds Tryz.pinned (.plain (OpenSpec.ofChange checkLoadsSpec)) checkLoadsCard

/-- THE TIED CARD OF 'isoglosslaw14.CheckEnds'. -/
def checkEndsCard : Claim7 := { stood := { row := checkEndsRow, standIns := [], harness := (true, "ec4704174bde4be45fd9c17991e10bc734cb66748ad6463e473ed8cb3911af39"), looks := true }, kinds := [], alts := [], laidByText := true, laidKinds := [.handle, .data], laidTests := true, laidLooks := .later }
def CheckEndsCardSaid : Prop := Claim7.holds Tryz.pinned (.plain (OpenSpec.ofChange checkEndsSpec)) checkEndsCard

/-- THE TIED CARD OF 'isoglosslaw14.CheckFewer'. -/
def checkFewerCard : Claim7 := { stood := { row := checkFewerRow, standIns := [], harness := (true, "ec4704174bde4be45fd9c17991e10bc734cb66748ad6463e473ed8cb3911af39"), looks := true }, kinds := [], alts := [], laidByText := true, laidKinds := [.handle, .data], laidTests := true, laidLooks := .later }
def CheckFewerCardSaid : Prop := Claim7.holds Tryz.pinned (.plain (OpenSpec.ofChange checkFewerSpec)) checkFewerCard

/-- THE TIED CARD OF 'isoglosslaw14.CheckMore'. -/
def checkMoreCard : Claim7 := { stood := { row := checkMoreRow, standIns := [], harness := (true, "ec4704174bde4be45fd9c17991e10bc734cb66748ad6463e473ed8cb3911af39"), looks := true }, kinds := [], alts := [], laidByText := true, laidKinds := [.handle, .data], laidTests := true, laidLooks := .later }
def CheckMoreCardSaid : Prop := Claim7.holds Tryz.pinned (.plain (OpenSpec.ofChange checkMoreSpec)) checkMoreCard

/-- THE SECOND FORM's CARD OF 'isoglosslaw13.ImageRight'. -/
def imageRightUptoCard : Claim7 := { stood := { row := imageRightUptoRow, standIns := [], harness := (true, "ec4704174bde4be45fd9c17991e10bc734cb66748ad6463e473ed8cb3911af39"), looks := true }, kinds := [], alts := [], laidByText := true, laidKinds := [.data], laidTests := true, laidLooks := .later }
def ImageRightUptoCardSaid : Prop := Claim7.holds Tryz.pinned (.plain (OpenSpec.upto imageRightSpec)) imageRightUptoCard

/-- THE SECOND FORM's CARD OF 'isoglosslaw13.ImageEncodes'. -/
def imageEncodesUptoCard : Claim7 := { stood := { row := imageEncodesUptoRow, standIns := [], harness := (true, "ec4704174bde4be45fd9c17991e10bc734cb66748ad6463e473ed8cb3911af39"), looks := true }, kinds := [], alts := [], laidByText := true, laidKinds := [.handle, .data], laidTests := true, laidLooks := .later }
def ImageEncodesUptoCardSaid : Prop := Claim7.holds Tryz.pinned (.plain (OpenSpec.upto imageEncodesSpec)) imageEncodesUptoCard

/-- THE SECOND FORM's CARD OF 'isoglosslaw13.ImageDecodes'. -/
def imageDecodesUptoCard : Claim7 := { stood := { row := imageDecodesUptoRow, standIns := [], harness := (true, "ec4704174bde4be45fd9c17991e10bc734cb66748ad6463e473ed8cb3911af39"), looks := true }, kinds := [], alts := [], laidByText := true, laidKinds := [.data, .handle, .data, .pinned], laidTests := true, laidLooks := .later }
def ImageDecodesUptoCardSaid : Prop := Claim7.holds Tryz.pinned (.plain (OpenSpec.upto imageDecodesSpec)) imageDecodesUptoCard

/-- THE SECOND FORM's CARD OF 'isoglosslaw13.ImageBack'. -/
def imageBackUptoCard : Claim7 := { stood := { row := imageBackUptoRow, standIns := [], harness := (true, "ec4704174bde4be45fd9c17991e10bc734cb66748ad6463e473ed8cb3911af39"), looks := true }, kinds := [], alts := [], laidByText := true, laidKinds := [.data, .data, .pinned], laidTests := true, laidLooks := .later }
def ImageBackUptoCardSaid : Prop := Claim7.holds Tryz.pinned (.plain (OpenSpec.upto imageBackSpec)) imageBackUptoCard

/-- THE SECOND FORM's CARD OF 'isoglosslaw13.ImageTurned'. -/
def imageTurnedUptoCard : Claim7 := { stood := { row := imageTurnedUptoRow, standIns := [], harness := (true, "ec4704174bde4be45fd9c17991e10bc734cb66748ad6463e473ed8cb3911af39"), looks := true }, kinds := [], alts := [], laidByText := true, laidKinds := [.data], laidTests := true, laidLooks := .later }
def ImageTurnedUptoCardSaid : Prop := Claim7.holds Tryz.pinned (.plain (OpenSpec.upto imageTurnedSpec)) imageTurnedUptoCard

/-- THE SECOND FORM's CARD OF 'isoglosslaw13.ImageLess'. -/
def imageLessUptoCard : Claim7 := { stood := { row := imageLessUptoRow, standIns := [], harness := (true, "ec4704174bde4be45fd9c17991e10bc734cb66748ad6463e473ed8cb3911af39"), looks := true }, kinds := [], alts := [], laidByText := true, laidKinds := [.handle, .data], laidTests := true, laidLooks := .later }
def ImageLessUptoCardSaid : Prop := Claim7.holds Tryz.pinned (.plain (OpenSpec.upto imageLessSpec)) imageLessUptoCard

/-- THE SECOND FORM's CARD OF 'isoglosslaw14.CheckTells'. -/
def checkTellsUptoCard : Claim7 := { stood := { row := checkTellsUptoRow, standIns := [], harness := (true, "ec4704174bde4be45fd9c17991e10bc734cb66748ad6463e473ed8cb3911af39"), looks := true }, kinds := [], alts := [], laidByText := true, laidKinds := [.handle, .data], laidTests := true, laidLooks := .later }
def CheckTellsUptoCardSaid : Prop := Claim7.holds Tryz.pinned (.plain (OpenSpec.upto checkTellsSpec)) checkTellsUptoCard

/-- THE SECOND FORM's CARD OF 'isoglosslaw14.CheckLoads'. -/
def checkLoadsUptoCard : Claim7 := { stood := { row := checkLoadsUptoRow, standIns := [], harness := (true, "ec4704174bde4be45fd9c17991e10bc734cb66748ad6463e473ed8cb3911af39"), looks := true }, kinds := [], alts := [], laidByText := true, laidKinds := [.data, .handle, .data, .pinned], laidTests := true, laidLooks := .later }
def CheckLoadsUptoCardSaid : Prop := Claim7.holds Tryz.pinned (.plain (OpenSpec.upto checkLoadsSpec)) checkLoadsUptoCard

/-- THE SECOND FORM's CARD OF 'isoglosslaw14.CheckEnds'. -/
def checkEndsUptoCard : Claim7 := { stood := { row := checkEndsUptoRow, standIns := [], harness := (true, "ec4704174bde4be45fd9c17991e10bc734cb66748ad6463e473ed8cb3911af39"), looks := true }, kinds := [], alts := [], laidByText := true, laidKinds := [.handle, .data], laidTests := true, laidLooks := .later }
def CheckEndsUptoCardSaid : Prop := Claim7.holds Tryz.pinned (.plain (OpenSpec.upto checkEndsSpec)) checkEndsUptoCard

/-- THE SECOND FORM's CARD OF 'isoglosslaw14.CheckFewer'. -/
def checkFewerUptoCard : Claim7 := { stood := { row := checkFewerUptoRow, standIns := [], harness := (true, "ec4704174bde4be45fd9c17991e10bc734cb66748ad6463e473ed8cb3911af39"), looks := true }, kinds := [], alts := [], laidByText := true, laidKinds := [.handle, .data], laidTests := true, laidLooks := .later }
def CheckFewerUptoCardSaid : Prop := Claim7.holds Tryz.pinned (.plain (OpenSpec.upto checkFewerSpec)) checkFewerUptoCard

/-- THE SECOND FORM's CARD OF 'isoglosslaw14.CheckMore'. -/
def checkMoreUptoCard : Claim7 := { stood := { row := checkMoreUptoRow, standIns := [], harness := (true, "ec4704174bde4be45fd9c17991e10bc734cb66748ad6463e473ed8cb3911af39"), looks := true }, kinds := [], alts := [], laidByText := true, laidKinds := [.handle, .data], laidTests := true, laidLooks := .later }
def CheckMoreUptoCardSaid : Prop := Claim7.holds Tryz.pinned (.plain (OpenSpec.upto checkMoreSpec)) checkMoreUptoCard
end Rows
end Go.Proofs.YtknodboncpcjnaaGreatDoor
