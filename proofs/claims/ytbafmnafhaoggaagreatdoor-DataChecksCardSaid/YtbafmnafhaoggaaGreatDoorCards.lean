/-
  DERIVED. GIVEN WITH THE SEED: THE CARDS: each row of YtbafmnafhaoggaaGreatDoorRows.lean that lists a variable, with what it lists TIED to the program's text (the seventh form; the later family's looks); each row that meets fmt, with fmt's text TOLD by the authors' own Lean function (tested against real Go, not proved from fmt's source: count such statements apart). THE CARD IS WHAT COUNTS. Prove the row's statement (the work); the ties are given (YtbafmnafhaoggaaGreatDoorTie.lean); close each card by the builder's one call (the guide's Derived/Test/ToyasCard.lean, 'card_holds'). Laid BY PROGRAM, IN A SANDBOX (cutbox-door.mjs). By AI agents, Wed Nov 11 2026. No macro, syntax, notation, axiom, sorry.
-/
import Derived.Test.YtbafmnafhaoggaaGreatDoorRows
import GoSem.ClaimSeven
namespace Go.Proofs.YtbafmnafhaoggaaGreatDoor
namespace Rows

/-- THE TIED CARD OF 'isoglosslaw15.DataChecks'. -/
def dataChecksCard : Claim7 := { stood := { row := dataChecksRow, standIns := [], harness := (true, "043fa362b6e60f98305392692c03d224d3de95721b3218b5b9d52e2cbccaa11b"), looks := false }, kinds := [], alts := [], laidByText := true, laidKinds := [.data, .data, .pinned], laidTests := true, laidLooks := .later }
def DataChecksCardSaid : Prop := Claim7.holds Tryz.pinned (.plain (OpenSpec.ofChange dataChecksSpec)) dataChecksCard

/-- THE SECOND FORM's CARD OF 'isoglosslaw15.DataChecks'. -/
def dataChecksUptoCard : Claim7 := { stood := { row := dataChecksUptoRow, standIns := [], harness := (true, "043fa362b6e60f98305392692c03d224d3de95721b3218b5b9d52e2cbccaa11b"), looks := false }, kinds := [], alts := [], laidByText := true, laidKinds := [.data, .data, .pinned], laidTests := true, laidLooks := .later }
def DataChecksUptoCardSaid : Prop := Claim7.holds Tryz.pinned (.plain (OpenSpec.upto dataChecksSpec)) dataChecksUptoCard
end Rows
end Go.Proofs.YtbafmnafhaoggaaGreatDoor
