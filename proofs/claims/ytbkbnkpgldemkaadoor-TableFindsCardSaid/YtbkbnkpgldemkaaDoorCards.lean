/-
  DERIVED. GIVEN WITH THE SEED: THE CARDS: each row of YtbkbnkpgldemkaaDoorRows.lean that lists a variable, with what it lists TIED to the program's text (the seventh form; the later family's looks); each row that meets fmt, with fmt's text TOLD by the authors' own Lean function (tested against real Go, not proved from fmt's source: count such statements apart). THE CARD IS WHAT COUNTS. Prove the row's statement (the work); the ties are given (YtbkbnkpgldemkaaDoorTie.lean); close each card by the builder's one call (the guide's Derived/Test/ToyasCard.lean, 'card_holds'). Laid BY PROGRAM, IN A SANDBOX (cutbox-door.mjs). By AI agents, Wed Nov 11 2026. No macro, syntax, notation, axiom, sorry.
-/
import Derived.Test.YtbkbnkpgldemkaaDoorRows
import GoSem.ClaimSeven
namespace Go.Proofs.YtbkbnkpgldemkaaDoor
namespace Rows

/-- THE TIED CARD OF 'isoglosslaw11.TableFinds'. -/
def tableFindsCard : Claim7 := { stood := { row := tableFindsRow, standIns := [], harness := (true, "15c545384733133d000804516687e3ad7bdbaf871371bfcd17e2ed9c616dcc23"), looks := true }, kinds := [], alts := [], laidByText := true, laidKinds := [.handle], laidTests := true, laidLooks := .later }
def TableFindsCardSaid : Prop := Claim7.holds Tryd.pinned (.plain (OpenSpec.ofChange tableFindsSpec)) tableFindsCard

/-- THE TIED CARD OF 'isoglosslaw11.TableOrder'. -/
def tableOrderCard : Claim7 := { stood := { row := tableOrderRow, standIns := [], harness := (true, "15c545384733133d000804516687e3ad7bdbaf871371bfcd17e2ed9c616dcc23"), looks := true }, kinds := [], alts := [], laidByText := true, laidKinds := [.handle], laidTests := true, laidLooks := .later }
def TableOrderCardSaid : Prop := Claim7.holds Tryd.pinned (.plain (OpenSpec.ofChange tableOrderSpec)) tableOrderCard

/-- THE TIED CARD OF 'isoglosslaw11.TableStops'. -/
def tableStopsCard : Claim7 := { stood := { row := tableStopsRow, standIns := [], harness := (true, "15c545384733133d000804516687e3ad7bdbaf871371bfcd17e2ed9c616dcc23"), looks := true }, kinds := [], alts := [], laidByText := true, laidKinds := [.handle], laidTests := true, laidLooks := .later }
def TableStopsCardSaid : Prop := Claim7.holds Tryd.pinned (.plain (OpenSpec.ofChange tableStopsSpec)) tableStopsCard

/-- THE TIED CARD OF 'isoglosslaw11.TableLess'. -/
def tableLessCard : Claim7 := { stood := { row := tableLessRow, standIns := [], harness := (true, "15c545384733133d000804516687e3ad7bdbaf871371bfcd17e2ed9c616dcc23"), looks := true }, kinds := [], alts := [], laidByText := true, laidKinds := [.handle], laidTests := true, laidLooks := .later }
def TableLessCardSaid : Prop := Claim7.holds Tryd.pinned (.plain (OpenSpec.ofChange tableLessSpec)) tableLessCard

/-- THE SECOND FORM's CARD OF 'isoglosslaw11.TableFinds'. -/
def tableFindsUptoCard : Claim7 := { stood := { row := tableFindsUptoRow, standIns := [], harness := (true, "15c545384733133d000804516687e3ad7bdbaf871371bfcd17e2ed9c616dcc23"), looks := true }, kinds := [], alts := [], laidByText := true, laidKinds := [.handle], laidTests := true, laidLooks := .later }
def TableFindsUptoCardSaid : Prop := Claim7.holds Tryd.pinned (.plain (OpenSpec.upto tableFindsSpec)) tableFindsUptoCard

/-- THE SECOND FORM's CARD OF 'isoglosslaw11.TableOrder'. -/
def tableOrderUptoCard : Claim7 := { stood := { row := tableOrderUptoRow, standIns := [], harness := (true, "15c545384733133d000804516687e3ad7bdbaf871371bfcd17e2ed9c616dcc23"), looks := true }, kinds := [], alts := [], laidByText := true, laidKinds := [.handle], laidTests := true, laidLooks := .later }
def TableOrderUptoCardSaid : Prop := Claim7.holds Tryd.pinned (.plain (OpenSpec.upto tableOrderSpec)) tableOrderUptoCard

/-- THE SECOND FORM's CARD OF 'isoglosslaw11.TableStops'. -/
def tableStopsUptoCard : Claim7 := { stood := { row := tableStopsUptoRow, standIns := [], harness := (true, "15c545384733133d000804516687e3ad7bdbaf871371bfcd17e2ed9c616dcc23"), looks := true }, kinds := [], alts := [], laidByText := true, laidKinds := [.handle], laidTests := true, laidLooks := .later }
def TableStopsUptoCardSaid : Prop := Claim7.holds Tryd.pinned (.plain (OpenSpec.upto tableStopsSpec)) tableStopsUptoCard

/-- THE SECOND FORM's CARD OF 'isoglosslaw11.TableLess'. -/
def tableLessUptoCard : Claim7 := { stood := { row := tableLessUptoRow, standIns := [], harness := (true, "15c545384733133d000804516687e3ad7bdbaf871371bfcd17e2ed9c616dcc23"), looks := true }, kinds := [], alts := [], laidByText := true, laidKinds := [.handle], laidTests := true, laidLooks := .later }
def TableLessUptoCardSaid : Prop := Claim7.holds Tryd.pinned (.plain (OpenSpec.upto tableLessSpec)) tableLessUptoCard
end Rows
end Go.Proofs.YtbkbnkpgldemkaaDoor
