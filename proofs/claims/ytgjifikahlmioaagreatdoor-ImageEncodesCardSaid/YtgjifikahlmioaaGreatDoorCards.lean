/-
  DERIVED. GIVEN WITH THE SEED: THE CARDS: each row of YtgjifikahlmioaaGreatDoorRows.lean that lists a variable, with what it lists TIED to the program's text (the seventh form; the later family's looks); each row that meets fmt, with fmt's text TOLD by the authors' own Lean function (tested against real Go, not proved from fmt's source: count such statements apart). THE CARD IS WHAT COUNTS. Prove the row's statement (the work); the ties are given (YtgjifikahlmioaaGreatDoorTie.lean); close each card by the builder's one call (the guide's Derived/Test/ToyasCard.lean, 'card_holds'). Laid BY PROGRAM, IN A SANDBOX (cutbox-door.mjs). By AI agents, Wed Nov 11 2026. No macro, syntax, notation, axiom, sorry.
-/
import Derived.Test.YtgjifikahlmioaaGreatDoorRows
import GoSem.ClaimSeven
namespace Go.Proofs.YtgjifikahlmioaaGreatDoor
namespace Rows

/-- THE TIED CARD OF 'isoglosslaw13.ImageEncodes'. -/
def imageEncodesCard : Claim7 := { stood := { row := imageEncodesRow, standIns := [], harness := (true, "dab71cbf973b53ba853a495242d858c3d09865705b713c3a292ffbc5bc489ad7"), looks := true }, kinds := [], alts := [], laidByText := true, laidKinds := [.handle, .data], laidTests := true, laidLooks := .later }
def ImageEncodesCardSaid : Prop := Claim7.holds Tryz.pinned (.plain (OpenSpec.ofChange imageEncodesSpec)) imageEncodesCard

/-- THE TIED CARD OF 'isoglosslaw13.ImageLess'. -/
def imageLessCard : Claim7 := { stood := { row := imageLessRow, standIns := [], harness := (true, "dab71cbf973b53ba853a495242d858c3d09865705b713c3a292ffbc5bc489ad7"), looks := true }, kinds := [], alts := [], laidByText := true, laidKinds := [.handle, .data], laidTests := true, laidLooks := .later }
def ImageLessCardSaid : Prop := Claim7.holds Tryz.pinned (.plain (OpenSpec.ofChange imageLessSpec)) imageLessCard

/-- THE TIED CARD OF 'isoglosslaw15.DataTells'. -/
def dataTellsCard : Claim7 := { stood := { row := dataTellsRow, standIns := [], harness := (true, "dab71cbf973b53ba853a495242d858c3d09865705b713c3a292ffbc5bc489ad7"), looks := true }, kinds := [], alts := [], laidByText := true, laidKinds := [.data], laidTests := true, laidLooks := .later }
def DataTellsCardSaid : Prop := Claim7.holds Tryz.pinned (.plain (OpenSpec.ofChange dataTellsSpec)) dataTellsCard

/-- THE SECOND FORM's CARD OF 'isoglosslaw13.ImageEncodes'. -/
def imageEncodesUptoCard : Claim7 := { stood := { row := imageEncodesUptoRow, standIns := [], harness := (true, "dab71cbf973b53ba853a495242d858c3d09865705b713c3a292ffbc5bc489ad7"), looks := true }, kinds := [], alts := [], laidByText := true, laidKinds := [.handle, .data], laidTests := true, laidLooks := .later }
def ImageEncodesUptoCardSaid : Prop := Claim7.holds Tryz.pinned (.plain (OpenSpec.upto imageEncodesSpec)) imageEncodesUptoCard

/-- THE SECOND FORM's CARD OF 'isoglosslaw13.ImageLess'. -/
def imageLessUptoCard : Claim7 := { stood := { row := imageLessUptoRow, standIns := [], harness := (true, "dab71cbf973b53ba853a495242d858c3d09865705b713c3a292ffbc5bc489ad7"), looks := true }, kinds := [], alts := [], laidByText := true, laidKinds := [.handle, .data], laidTests := true, laidLooks := .later }
def ImageLessUptoCardSaid : Prop := Claim7.holds Tryz.pinned (.plain (OpenSpec.upto imageLessSpec)) imageLessUptoCard

/-- THE SECOND FORM's CARD OF 'isoglosslaw15.DataTells'. -/
def dataTellsUptoCard : Claim7 := { stood := { row := dataTellsUptoRow, standIns := [], harness := (true, "dab71cbf973b53ba853a495242d858c3d09865705b713c3a292ffbc5bc489ad7"), looks := true }, kinds := [], alts := [], laidByText := true, laidKinds := [.data], laidTests := true, laidLooks := .later }
def DataTellsUptoCardSaid : Prop := Claim7.holds Tryz.pinned (.plain (OpenSpec.upto dataTellsSpec)) dataTellsUptoCard
end Rows
end Go.Proofs.YtgjifikahlmioaaGreatDoor
