/-
  DERIVED. GIVEN WITH THE SEED: THE CARDS: each row of YtlpjdknmnomdlaaDoorRows.lean that lists a variable, with what it lists TIED to the program's text (the seventh form; the later family's looks); each row that meets fmt, with fmt's text TOLD by the authors' own Lean function (tested against real Go, not proved from fmt's source: count such statements apart). THE CARD IS WHAT COUNTS. Prove the row's statement (the work); the ties are given (YtlpjdknmnomdlaaDoorTie.lean); close each card by the builder's one call (the guide's Derived/Test/ToyasCard.lean, 'card_holds'). Laid BY PROGRAM, IN A SANDBOX (cutbox-door.mjs). By AI agents, Wed Nov 11 2026. No macro, syntax, notation, axiom, sorry.
-/
import Derived.Test.YtlpjdknmnomdlaaDoorRows
import GoSem.ClaimSeven
namespace Go.Proofs.YtlpjdknmnomdlaaDoor
namespace Rows

/-- THE TIED CARD OF 'isoglosslaw12.AliasDecodes'. -/
def aliasDecodesCard : Claim7 := { stood := { row := aliasDecodesRow, standIns := [], harness := (true, "bb62b60378b4aec1ff99d57920f73053c902047029b1e2f0e4ed6e9745339384"), looks := false }, kinds := [], alts := [], laidByText := true, laidKinds := [.data, .data, .pinned], laidTests := true, laidLooks := .later }
def AliasDecodesCardSaid : Prop := Claim7.holds Tryd.pinned (.plain (OpenSpec.ofChange aliasDecodesSpec)) aliasDecodesCard

/-- THE SECOND FORM's CARD OF 'isoglosslaw12.AliasDecodes'. -/
def aliasDecodesUptoCard : Claim7 := { stood := { row := aliasDecodesUptoRow, standIns := [], harness := (true, "bb62b60378b4aec1ff99d57920f73053c902047029b1e2f0e4ed6e9745339384"), looks := false }, kinds := [], alts := [], laidByText := true, laidKinds := [.data, .data, .pinned], laidTests := true, laidLooks := .later }
def AliasDecodesUptoCardSaid : Prop := Claim7.holds Tryd.pinned (.plain (OpenSpec.upto aliasDecodesSpec)) aliasDecodesUptoCard
end Rows
end Go.Proofs.YtlpjdknmnomdlaaDoor
