/-
  DERIVED. GIVEN WITH THE SEED: THE CARDS: each row of YtaeaknpkjgacdaaDoorRows.lean that lists a variable, with what it lists TIED to the program's text (the seventh form; the later family's looks); each row that meets fmt, with fmt's text TOLD by the authors' own Lean function (tested against real Go, not proved from fmt's source: count such statements apart). THE CARD IS WHAT COUNTS. Prove the row's statement (the work); the ties are given (YtaeaknpkjgacdaaDoorTie.lean); close each card by the builder's one call (the guide's Derived/Test/ToyasCard.lean, 'card_holds'). Laid BY PROGRAM, IN A SANDBOX (cutbox-door.mjs). By AI agents, Wed Nov 11 2026. No macro, syntax, notation, axiom, sorry.
-/
import Derived.Test.YtaeaknpkjgacdaaDoorRows
import GoSem.ClaimSeven
namespace Go.Proofs.YtaeaknpkjgacdaaDoor
namespace Rows

/-- THE TIED CARD OF 'isoglosslaw05.GrandFinds'. -/
def grandFindsCard : Claim7 := { stood := { row := grandFindsRow, standIns := [], harness := (true, "9c8e412875d112c0144db918e0c36cef67694b5572df381bdbec5f66bd24aa9b"), looks := false }, kinds := [], alts := [], laidByText := true, laidKinds := [.data], laidTests := true, laidLooks := .later }
def GrandFindsCardSaid : Prop := Claim7.holds Tryd.pinned (.plain (OpenSpec.ofChange grandFindsSpec)) grandFindsCard

/-- THE TIED CARD OF 'isoglosslaw05.GrandNames'. -/
def grandNamesCard : Claim7 := { stood := { row := grandNamesRow, standIns := [], harness := (true, "9c8e412875d112c0144db918e0c36cef67694b5572df381bdbec5f66bd24aa9b"), looks := false }, kinds := [], alts := [], laidByText := true, laidKinds := [.data], laidTests := true, laidLooks := .later }
def GrandNamesCardSaid : Prop := Claim7.holds Tryd.pinned (.plain (OpenSpec.ofChange grandNamesSpec)) grandNamesCard

/-- THE TIED CARD OF 'isoglosslaw05.GrandAll'. -/
def grandAllCard : Claim7 := { stood := { row := grandAllRow, standIns := [], harness := (true, "9c8e412875d112c0144db918e0c36cef67694b5572df381bdbec5f66bd24aa9b"), looks := false }, kinds := [], alts := [], laidByText := true, laidKinds := [.data], laidTests := true, laidLooks := .later }
def GrandAllCardSaid : Prop := Claim7.holds Tryd.pinned (.plain (OpenSpec.ofChange grandAllSpec)) grandAllCard

/-- THE TIED CARD OF 'isoglosslaw05.GrandTags'. -/
def grandTagsCard : Claim7 := { stood := { row := grandTagsRow, standIns := [], harness := (true, "9c8e412875d112c0144db918e0c36cef67694b5572df381bdbec5f66bd24aa9b"), looks := false }, kinds := [], alts := [], laidByText := true, laidKinds := [.data], laidTests := true, laidLooks := .later }
def GrandTagsCardSaid : Prop := Claim7.holds Tryd.pinned (.plain (OpenSpec.ofChange grandTagsSpec)) grandTagsCard

/-- THE TIED CARD OF 'isoglosslaw05.GrandCases'. -/
def grandCasesCard : Claim7 := { stood := { row := grandCasesRow, standIns := [], harness := (true, "9c8e412875d112c0144db918e0c36cef67694b5572df381bdbec5f66bd24aa9b"), looks := false }, kinds := [], alts := [], laidByText := true, laidKinds := [.data], laidTests := true, laidLooks := .later }
def GrandCasesCardSaid : Prop := Claim7.holds Tryd.pinned (.plain (OpenSpec.ofChange grandCasesSpec)) grandCasesCard

/-- THE SECOND FORM's CARD OF 'isoglosslaw05.GrandFinds'. -/
def grandFindsUptoCard : Claim7 := { stood := { row := grandFindsUptoRow, standIns := [], harness := (true, "9c8e412875d112c0144db918e0c36cef67694b5572df381bdbec5f66bd24aa9b"), looks := false }, kinds := [], alts := [], laidByText := true, laidKinds := [.data], laidTests := true, laidLooks := .later }
def GrandFindsUptoCardSaid : Prop := Claim7.holds Tryd.pinned (.plain (OpenSpec.upto grandFindsSpec)) grandFindsUptoCard

/-- THE SECOND FORM's CARD OF 'isoglosslaw05.GrandNames'. -/
def grandNamesUptoCard : Claim7 := { stood := { row := grandNamesUptoRow, standIns := [], harness := (true, "9c8e412875d112c0144db918e0c36cef67694b5572df381bdbec5f66bd24aa9b"), looks := false }, kinds := [], alts := [], laidByText := true, laidKinds := [.data], laidTests := true, laidLooks := .later }
def GrandNamesUptoCardSaid : Prop := Claim7.holds Tryd.pinned (.plain (OpenSpec.upto grandNamesSpec)) grandNamesUptoCard

/-- THE SECOND FORM's CARD OF 'isoglosslaw05.GrandAll'. -/
def grandAllUptoCard : Claim7 := { stood := { row := grandAllUptoRow, standIns := [], harness := (true, "9c8e412875d112c0144db918e0c36cef67694b5572df381bdbec5f66bd24aa9b"), looks := false }, kinds := [], alts := [], laidByText := true, laidKinds := [.data], laidTests := true, laidLooks := .later }
def GrandAllUptoCardSaid : Prop := Claim7.holds Tryd.pinned (.plain (OpenSpec.upto grandAllSpec)) grandAllUptoCard

/-- THE SECOND FORM's CARD OF 'isoglosslaw05.GrandTags'. -/
def grandTagsUptoCard : Claim7 := { stood := { row := grandTagsUptoRow, standIns := [], harness := (true, "9c8e412875d112c0144db918e0c36cef67694b5572df381bdbec5f66bd24aa9b"), looks := false }, kinds := [], alts := [], laidByText := true, laidKinds := [.data], laidTests := true, laidLooks := .later }
def GrandTagsUptoCardSaid : Prop := Claim7.holds Tryd.pinned (.plain (OpenSpec.upto grandTagsSpec)) grandTagsUptoCard

/-- THE SECOND FORM's CARD OF 'isoglosslaw05.GrandCases'. -/
def grandCasesUptoCard : Claim7 := { stood := { row := grandCasesUptoRow, standIns := [], harness := (true, "9c8e412875d112c0144db918e0c36cef67694b5572df381bdbec5f66bd24aa9b"), looks := false }, kinds := [], alts := [], laidByText := true, laidKinds := [.data], laidTests := true, laidLooks := .later }
def GrandCasesUptoCardSaid : Prop := Claim7.holds Tryd.pinned (.plain (OpenSpec.upto grandCasesSpec)) grandCasesUptoCard
end Rows
end Go.Proofs.YtaeaknpkjgacdaaDoor
