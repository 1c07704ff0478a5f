/-
  NARROWER THAN 'FOR EVERY INPUT', by the rows' own cells (each row's printed sentence says how): ParseTells: laid · ParseFirst: laid.
  DERIVED. THE GIVEN ROWS OF THIS SEAT. 2 by the template 'for every input the law returns true; each argument reads behind the call as it read before'; 0 by the template 'total and deterministic' (their statements: YtpnhjpplfjamkaaGreatDoorTotals.lean).
  GIVEN WITH THE SEED: the statements are not yours to turn. If you find one false, say at which input.
  Laid BY PROGRAM, IN A SANDBOX (cutbox-rows.mjs): the forced cells as the released guide's own fill.sh prints them over the translation fb8df29c05d8613b… (all of the seat's roots in one cut). By AI agents, Wed Nov 11 2026. No macro, syntax, notation, axiom, sorry.
-/
import Derived.Test.YtpnhjpplfjamkaaGreatDoorChecked
import GoSem.Claim
import GoSem.ClaimJoined
import GoSem.ClaimMapViews
import Derived.JoinedTies
import Derived.KernelRfl
namespace Go.Proofs.YtpnhjpplfjamkaaGreatDoor
/- THE CELL 'sum', in the pinned program and in every row, IS THE sha256 OF THE DUMP (.gsa) THAT YtpnhjpplfjamkaaGreatDoorProg.lean LOADS. Nothing in Lean hashes anything: it is a label: what it is worth is what the hold of that sum in a sandbox is worth. -/
noncomputable def Tryz.pinned : Pinned := { name := "ytpnhjpplfjamkaagreatdoor", sum := "fb8df29c05d8613b2f91e6d9b93df3f8c0fb56886aa85fba354ec49d1be1029b", checked := Tryz.checked }
namespace Rows
def none {H : Type} : Left H := { results := [], args := [] }

/- WHAT THE LISTED PACKAGE-LEVEL VARIABLES READ AS WHEN THE CALL BEGINS. Each datum BY PROGRAM (the guide's laid-datum.mjs) off the statement by which the dump's own 'gosem.cut.vars' lays the variable. In a bare row this is a premise. The card (YtpnhjpplfjamkaaGreatDoorCards.lean) ties it to the program's text. -/
def laid_errors_errorType {H : Type} : DataW H := .iface "internal/reflectlite.rtype" (.agg [.ptr (.lit (.string [101, 114, 114, 111, 114]))])
def laid_isogloss_grand_tags {H : Type} : DataW H := .agg [.agg [.lit (.string [97, 114, 116, 45, 108, 111, 106, 98, 97, 110]), .lit (.bool true)], .agg [.lit (.string [99, 101, 108, 45, 103, 97, 117, 108, 105, 115, 104]), .lit (.bool true)], .agg [.lit (.string [101, 110, 45, 103, 98, 45, 111, 101, 100]), .lit (.bool false)], .agg [.lit (.string [105, 45, 97, 109, 105]), .lit (.bool false)], .agg [.lit (.string [105, 45, 98, 110, 110]), .lit (.bool false)], .agg [.lit (.string [105, 45, 100, 101, 102, 97, 117, 108, 116]), .lit (.bool false)], .agg [.lit (.string [105, 45, 101, 110, 111, 99, 104, 105, 97, 110]), .lit (.bool false)], .agg [.lit (.string [105, 45, 104, 97, 107]), .lit (.bool false)], .agg [.lit (.string [105, 45, 107, 108, 105, 110, 103, 111, 110]), .lit (.bool false)], .agg [.lit (.string [105, 45, 108, 117, 120]), .lit (.bool false)], .agg [.lit (.string [105, 45, 109, 105, 110, 103, 111]), .lit (.bool false)], .agg [.lit (.string [105, 45, 110, 97, 118, 97, 106, 111]), .lit (.bool false)], .agg [.lit (.string [105, 45, 112, 119, 110]), .lit (.bool false)], .agg [.lit (.string [105, 45, 116, 97, 111]), .lit (.bool false)], .agg [.lit (.string [105, 45, 116, 97, 121]), .lit (.bool false)], .agg [.lit (.string [105, 45, 116, 115, 117]), .lit (.bool false)], .agg [.lit (.string [110, 111, 45, 98, 111, 107]), .lit (.bool true)], .agg [.lit (.string [110, 111, 45, 110, 121, 110]), .lit (.bool true)], .agg [.lit (.string [115, 103, 110, 45, 98, 101, 45, 102, 114]), .lit (.bool false)], .agg [.lit (.string [115, 103, 110, 45, 98, 101, 45, 110, 108]), .lit (.bool false)], .agg [.lit (.string [115, 103, 110, 45, 99, 104, 45, 100, 101]), .lit (.bool false)], .agg [.lit (.string [122, 104, 45, 103, 117, 111, 121, 117]), .lit (.bool true)], .agg [.lit (.string [122, 104, 45, 104, 97, 107, 107, 97]), .lit (.bool true)], .agg [.lit (.string [122, 104, 45, 109, 105, 110]), .lit (.bool true)], .agg [.lit (.string [122, 104, 45, 109, 105, 110, 45, 110, 97, 110]), .lit (.bool true)], .agg [.lit (.string [122, 104, 45, 120, 105, 97, 110, 103]), .lit (.bool true)]]

/-- 'isoglosslaw07.ParseTells': WHATEVER THE INPUT: true; the input reads as it did. -/
def parseTellsSpec : ChangeSpec := { name := "parseTells", fn := fun _ => fun
  | [d1, d2, d3] => { results := [.lit (.bool true)], args := [d1, d2, d3] }
  | _ => none }
def parseTellsRow : OpenClaim := { program := "ytpnhjpplfjamkaagreatdoor", sum := "fb8df29c05d8613b2f91e6d9b93df3f8c0fb56886aa85fba354ec49d1be1029b", func := "isogloss/isoglosslaw07.ParseTells", spec := "parseTells", inPlace := ["internal/bytealg.IndexByteString", "internal/reflectlite.ValueOf", "(internal/reflectlite.Value).Type", "(internal/reflectlite.Value).IsNil", "internal/reflectlite.TypeOf", "(internal/reflectlite.Value).Elem", "(internal/reflectlite.Value).Set"], unfollowed := true, recurses := true, named := ["isogloss/grand.tags", "errors.errorType"], apart := false, laid := [("errors.errorType", laid_errors_errorType), ("isogloss/grand.tags", laid_isogloss_grand_tags)] }
def ParseTellsSaid : Prop := parseTellsRow.holds Tryz.pinned (OpenSpec.ofChange parseTellsSpec)

/-- ITS FALSE NEIGHBOUR: 'it returns false'. Refute it at one input. -/
def parseTellsWrong : ChangeSpec := { name := "parseTells", fn := fun _ => fun
  | [d1, d2, d3] => { results := [.lit (.bool false)], args := [d1, d2, d3] }
  | _ => none }
def ParseTellsWrongFalsely : Prop := parseTellsRow.holds Tryz.pinned (OpenSpec.ofChange parseTellsWrong)

/-- 'isoglosslaw07.ParseFirst': WHATEVER THE INPUT: true; the input reads as it did. -/
def parseFirstSpec : ChangeSpec := { name := "parseFirst", fn := fun _ => fun
  | [d1, d2] => { results := [.lit (.bool true)], args := [d1, d2] }
  | _ => none }
def parseFirstRow : OpenClaim := { program := "ytpnhjpplfjamkaagreatdoor", sum := "fb8df29c05d8613b2f91e6d9b93df3f8c0fb56886aa85fba354ec49d1be1029b", func := "isogloss/isoglosslaw07.ParseFirst", spec := "parseFirst", inPlace := ["internal/bytealg.IndexByteString", "internal/reflectlite.ValueOf", "(internal/reflectlite.Value).Type", "(internal/reflectlite.Value).IsNil", "internal/reflectlite.TypeOf", "(internal/reflectlite.Value).Elem", "(internal/reflectlite.Value).Set"], unfollowed := true, recurses := true, named := ["isogloss/grand.tags", "errors.errorType"], apart := false, laid := [("errors.errorType", laid_errors_errorType), ("isogloss/grand.tags", laid_isogloss_grand_tags)] }
def ParseFirstSaid : Prop := parseFirstRow.holds Tryz.pinned (OpenSpec.ofChange parseFirstSpec)

/-- ITS FALSE NEIGHBOUR: 'it returns false'. Refute it at one input. -/
def parseFirstWrong : ChangeSpec := { name := "parseFirst", fn := fun _ => fun
  | [d1, d2] => { results := [.lit (.bool false)], args := [d1, d2] }
  | _ => none }
def ParseFirstWrongFalsely : Prop := parseFirstRow.holds Tryz.pinned (OpenSpec.ofChange parseFirstWrong)

/- THE SECOND FORM. 'bulk': how many values and letters a reading holds, each counted each time it is reached (what is shared counts as often as it is met; a slice's spare places count too). A statement '..UptoSaid' is the law's where the arguments, and the package variables that the reading takes, are together of bulk at most 1048576: NARROWER than '..Said'. Prove '..Said' where nothing that the law and all that it calls make is longer than what came in: it says more and counts as full. Else prove '..UptoSaid'. A law counts once. -/
mutual
def uptoBulk {H : Type} : DataW H → Nat
  | .lit (.string bytes) => bytes.length + 1
  | .lit _ => 1
  | .nil => 1
  | .ptr d => uptoBulk d + 1
  | .slice elems spare => uptoBulkAll elems + uptoBulkAll spare + 1
  | .agg parts => uptoBulkAll parts + 1
  | .iface _ d => uptoBulk d + 1
  | .map entries => uptoBulkEntries entries + 1
  | .held _ => 1
def uptoBulkAll {H : Type} : List (DataW H) → Nat
  | [] => 0
  | d :: r => uptoBulk d + uptoBulkAll r
def uptoBulkEntries {H : Type} : List (Lit × DataW H) → Nat
  | [] => 0
  | x :: r => uptoBulkEntry x + uptoBulkEntries r
def uptoBulkEntry {H : Type} : Lit × DataW H → Nat
  | (.string bytes, d) => bytes.length + uptoBulk d + 1
  | (_, d) => uptoBulk d + 1
 end
def uptoSmall : (H : Type) → List (DataW H) → Bool := fun _ ds => decide (uptoBulkAll ds ≤ 1048576)
def OpenSpec.upto (s : _root_.Go.ChangeSpec) : _root_.Go.OpenSpec := { _root_.Go.OpenSpec.ofChange s with cond := some uptoSmall }

/-- 'isoglosslaw07.ParseTells', WHERE WHAT IT READS IS OF BULK AT MOST 1048576: true; the input reads as it did. -/
def parseTellsUptoRow : OpenClaim := { program := "ytpnhjpplfjamkaagreatdoor", sum := "fb8df29c05d8613b2f91e6d9b93df3f8c0fb56886aa85fba354ec49d1be1029b", func := "isogloss/isoglosslaw07.ParseTells", spec := "parseTells", inPlace := ["internal/bytealg.IndexByteString", "internal/reflectlite.ValueOf", "(internal/reflectlite.Value).Type", "(internal/reflectlite.Value).IsNil", "internal/reflectlite.TypeOf", "(internal/reflectlite.Value).Elem", "(internal/reflectlite.Value).Set"], unfollowed := true, recurses := true, named := ["isogloss/grand.tags", "errors.errorType"], apart := false, laid := [("errors.errorType", laid_errors_errorType), ("isogloss/grand.tags", laid_isogloss_grand_tags)], narrowed := true }
def ParseTellsUptoSaid : Prop := parseTellsUptoRow.holds Tryz.pinned (OpenSpec.upto parseTellsSpec)

/-- 'isoglosslaw07.ParseFirst', WHERE WHAT IT READS IS OF BULK AT MOST 1048576: true; the input reads as it did. -/
def parseFirstUptoRow : OpenClaim := { program := "ytpnhjpplfjamkaagreatdoor", sum := "fb8df29c05d8613b2f91e6d9b93df3f8c0fb56886aa85fba354ec49d1be1029b", func := "isogloss/isoglosslaw07.ParseFirst", spec := "parseFirst", inPlace := ["internal/bytealg.IndexByteString", "internal/reflectlite.ValueOf", "(internal/reflectlite.Value).Type", "(internal/reflectlite.Value).IsNil", "internal/reflectlite.TypeOf", "(internal/reflectlite.Value).Elem", "(internal/reflectlite.Value).Set"], unfollowed := true, recurses := true, named := ["isogloss/grand.tags", "errors.errorType"], apart := false, laid := [("errors.errorType", laid_errors_errorType), ("isogloss/grand.tags", laid_isogloss_grand_tags)], narrowed := true }
def ParseFirstUptoSaid : Prop := parseFirstUptoRow.holds Tryz.pinned (OpenSpec.upto parseFirstSpec)

end Rows
end Go.Proofs.YtpnhjpplfjamkaaGreatDoor
