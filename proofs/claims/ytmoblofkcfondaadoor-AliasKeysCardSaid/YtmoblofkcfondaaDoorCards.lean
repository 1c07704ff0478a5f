/-
  DERIVED. GIVEN WITH THE SEED: THE CARDS: each row of YtmoblofkcfondaaDoorRows.lean that lists a variable, with what it lists TIED to the program's text (the seventh form; the later family's looks); each row that meets fmt, with fmt's text TOLD by the authors' own Lean function (tested against real Go, not proved from fmt's source: count such statements apart). THE CARD IS WHAT COUNTS. Prove the row's statement (the work); the ties are given (YtmoblofkcfondaaDoorTie.lean); close each card by the builder's one call (the guide's Derived/Test/ToyasCard.lean, 'card_holds'). Laid BY PROGRAM, IN A SANDBOX (cutbox-door.mjs). By AI agents, Wed Nov 11 2026. No macro, syntax, notation, axiom, sorry.
-/
import Derived.Test.YtmoblofkcfondaaDoorRows
import GoSem.ClaimSeven
namespace Go.Proofs.YtmoblofkcfondaaDoor
namespace Rows

/-- THE TIED CARD OF 'isoglosslaw12.AliasTells'. -/
def aliasTellsCard : Claim7 := { stood := { row := aliasTellsRow, standIns := [], harness := (true, "911a88531b984b552b4694d3fdd9ebf8ab518f238dd01900de7107665162efd5"), looks := false }, kinds := [], alts := [], laidByText := true, laidKinds := [.data], laidTests := true, laidLooks := .later }
def AliasTellsCardSaid : Prop := Claim7.holds Tryd.pinned (.plain (OpenSpec.ofChange aliasTellsSpec)) aliasTellsCard

/-- THE TIED CARD OF 'isoglosslaw12.AliasDecodes'. -/
def aliasDecodesCard : Claim7 := { stood := { row := aliasDecodesRow, standIns := [], harness := (true, "911a88531b984b552b4694d3fdd9ebf8ab518f238dd01900de7107665162efd5"), looks := false }, kinds := [], alts := [], laidByText := true, laidKinds := [.data, .data, .pinned], laidTests := true, laidLooks := .later }
def AliasDecodesCardSaid : Prop := Claim7.holds Tryd.pinned (.plain (OpenSpec.ofChange aliasDecodesSpec)) aliasDecodesCard

/-- THE TIED CARD OF 'isoglosslaw12.AliasBack'. -/
def aliasBackCard : Claim7 := { stood := { row := aliasBackRow, standIns := [], harness := (true, "911a88531b984b552b4694d3fdd9ebf8ab518f238dd01900de7107665162efd5"), looks := false }, kinds := [], alts := [], laidByText := true, laidKinds := [.data, .data, .pinned], laidTests := true, laidLooks := .later }
def AliasBackCardSaid : Prop := Claim7.holds Tryd.pinned (.plain (OpenSpec.ofChange aliasBackSpec)) aliasBackCard

/-- THE TIED CARD OF 'isoglosslaw12.AliasKeys'. -/
def aliasKeysCard : Claim7 := { stood := { row := aliasKeysRow, standIns := [], harness := (true, "911a88531b984b552b4694d3fdd9ebf8ab518f238dd01900de7107665162efd5"), looks := false }, kinds := [], alts := [], laidByText := true, laidKinds := [.data], laidTests := true, laidLooks := .later }
def AliasKeysCardSaid : Prop := Claim7.holds Tryd.pinned (.plain (OpenSpec.ofChange aliasKeysSpec)) aliasKeysCard

/-- THE TIED CARD OF 'isoglosslaw12.AliasOrders'. -/
def aliasOrdersCard : Claim7 := { stood := { row := aliasOrdersRow, standIns := [], harness := (true, "911a88531b984b552b4694d3fdd9ebf8ab518f238dd01900de7107665162efd5"), looks := false }, kinds := [], alts := [], laidByText := true, laidKinds := [.data], laidTests := true, laidLooks := .later }
def AliasOrdersCardSaid : Prop := Claim7.holds Tryd.pinned (.plain (OpenSpec.ofChange aliasOrdersSpec)) aliasOrdersCard

/-- THE TIED CARD OF 'isoglosslaw12.AliasSmall'. -/
def aliasSmallCard : Claim7 := { stood := { row := aliasSmallRow, standIns := [], harness := (true, "911a88531b984b552b4694d3fdd9ebf8ab518f238dd01900de7107665162efd5"), looks := false }, kinds := [], alts := [], laidByText := true, laidKinds := [.data], laidTests := true, laidLooks := .later }
def AliasSmallCardSaid : Prop := Claim7.holds Tryd.pinned (.plain (OpenSpec.ofChange aliasSmallSpec)) aliasSmallCard

/-- THE SECOND FORM's CARD OF 'isoglosslaw12.AliasTells'. -/
def aliasTellsUptoCard : Claim7 := { stood := { row := aliasTellsUptoRow, standIns := [], harness := (true, "911a88531b984b552b4694d3fdd9ebf8ab518f238dd01900de7107665162efd5"), looks := false }, kinds := [], alts := [], laidByText := true, laidKinds := [.data], laidTests := true, laidLooks := .later }
def AliasTellsUptoCardSaid : Prop := Claim7.holds Tryd.pinned (.plain (OpenSpec.upto aliasTellsSpec)) aliasTellsUptoCard

/-- THE SECOND FORM's CARD OF 'isoglosslaw12.AliasDecodes'. -/
def aliasDecodesUptoCard : Claim7 := { stood := { row := aliasDecodesUptoRow, standIns := [], harness := (true, "911a88531b984b552b4694d3fdd9ebf8ab518f238dd01900de7107665162efd5"), looks := false }, kinds := [], alts := [], laidByText := true, laidKinds := [.data, .data, .pinned], laidTests := true, laidLooks := .later }
def AliasDecodesUptoCardSaid : Prop := Claim7.holds Tryd.pinned (.plain (OpenSpec.upto aliasDecodesSpec)) aliasDecodesUptoCard

/-- THE SECOND FORM's CARD OF 'isoglosslaw12.AliasBack'. -/
def aliasBackUptoCard : Claim7 := { stood := { row := aliasBackUptoRow, standIns := [], harness := (true, "911a88531b984b552b4694d3fdd9ebf8ab518f238dd01900de7107665162efd5"), looks := false }, kinds := [], alts := [], laidByText := true, laidKinds := [.data, .data, .pinned], laidTests := true, laidLooks := .later }
def AliasBackUptoCardSaid : Prop := Claim7.holds Tryd.pinned (.plain (OpenSpec.upto aliasBackSpec)) aliasBackUptoCard

/-- THE SECOND FORM's CARD OF 'isoglosslaw12.AliasKeys'. -/
def aliasKeysUptoCard : Claim7 := { stood := { row := aliasKeysUptoRow, standIns := [], harness := (true, "911a88531b984b552b4694d3fdd9ebf8ab518f238dd01900de7107665162efd5"), looks := false }, kinds := [], alts := [], laidByText := true, laidKinds := [.data], laidTests := true, laidLooks := .later }
def AliasKeysUptoCardSaid : Prop := Claim7.holds Tryd.pinned (.plain (OpenSpec.upto aliasKeysSpec)) aliasKeysUptoCard

/-- THE SECOND FORM's CARD OF 'isoglosslaw12.AliasOrders'. -/
def aliasOrdersUptoCard : Claim7 := { stood := { row := aliasOrdersUptoRow, standIns := [], harness := (true, "911a88531b984b552b4694d3fdd9ebf8ab518f238dd01900de7107665162efd5"), looks := false }, kinds := [], alts := [], laidByText := true, laidKinds := [.data], laidTests := true, laidLooks := .later }
def AliasOrdersUptoCardSaid : Prop := Claim7.holds Tryd.pinned (.plain (OpenSpec.upto aliasOrdersSpec)) aliasOrdersUptoCard

/-- THE SECOND FORM's CARD OF 'isoglosslaw12.AliasSmall'. -/
def aliasSmallUptoCard : Claim7 := { stood := { row := aliasSmallUptoRow, standIns := [], harness := (true, "911a88531b984b552b4694d3fdd9ebf8ab518f238dd01900de7107665162efd5"), looks := false }, kinds := [], alts := [], laidByText := true, laidKinds := [.data], laidTests := true, laidLooks := .later }
def AliasSmallUptoCardSaid : Prop := Claim7.holds Tryd.pinned (.plain (OpenSpec.upto aliasSmallSpec)) aliasSmallUptoCard
end Rows
end Go.Proofs.YtmoblofkcfondaaDoor
