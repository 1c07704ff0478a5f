/-
  NARROWER THAN 'FOR EVERY INPUT', by the rows' own cells (each row's printed sentence says how): GrandFinds: laid · GrandNames: laid · GrandAll: laid · GrandTags: laid · GrandCases: laid.
  DERIVED. THE GIVEN ROWS OF THIS SEAT. 5 by the template 'for every input the law returns true; each argument reads behind the call as it read before'; 0 by the template 'total and deterministic' (their statements: YtaeaknpkjgacdaaDoorTotals.lean).
  GIVEN WITH THE SEED: the statements are not yours to turn. If you find one false, say at which input.
  Laid BY PROGRAM, IN A SANDBOX (cutbox-rows.mjs): the forced cells as the released guide's own fill.sh prints them over the translation 50a73476f2f7bae6… (all of the seat's roots in one cut). By AI agents, Wed Nov 11 2026. No macro, syntax, notation, axiom, sorry.
-/
import Derived.Test.YtaeaknpkjgacdaaDoorChecked
import GoSem.Claim
import GoSem.ClaimJoined
import GoSem.ClaimMapViews
import Derived.JoinedTies
import Derived.KernelRfl
namespace Go.Proofs.YtaeaknpkjgacdaaDoor
/- THE CELL 'sum', in the pinned program and in every row, IS THE sha256 OF THE DUMP (.gsa) THAT YtaeaknpkjgacdaaDoorProg.lean LOADS. Nothing in Lean hashes anything: it is a label: what it is worth is what the hold of that sum in a sandbox is worth. -/
noncomputable def Tryd.pinned : Pinned := { name := "ytaeaknpkjgacdaadoor", sum := "50a73476f2f7bae6f457bd76d2f527d746cad909092d54c3cb8a9d5d72ebab05", checked := Tryd.checked }
namespace Rows
def none {H : Type} : Left H := { results := [], args := [] }

/- WHAT THE LISTED PACKAGE-LEVEL VARIABLES READ AS WHEN THE CALL BEGINS. Each datum BY PROGRAM (the guide's laid-datum.mjs) off the statement by which the dump's own 'gosem.cut.vars' lays the variable. In a bare row this is a premise. The card (YtaeaknpkjgacdaaDoorCards.lean) ties it to the program's text. -/
def laid_isogloss_grand_tags {H : Type} : DataW H := .agg [.agg [.lit (.string [97, 114, 116, 45, 108, 111, 106, 98, 97, 110]), .lit (.bool true)], .agg [.lit (.string [99, 101, 108, 45, 103, 97, 117, 108, 105, 115, 104]), .lit (.bool true)], .agg [.lit (.string [101, 110, 45, 103, 98, 45, 111, 101, 100]), .lit (.bool false)], .agg [.lit (.string [105, 45, 97, 109, 105]), .lit (.bool false)], .agg [.lit (.string [105, 45, 98, 110, 110]), .lit (.bool false)], .agg [.lit (.string [105, 45, 100, 101, 102, 97, 117, 108, 116]), .lit (.bool false)], .agg [.lit (.string [105, 45, 101, 110, 111, 99, 104, 105, 97, 110]), .lit (.bool false)], .agg [.lit (.string [105, 45, 104, 97, 107]), .lit (.bool false)], .agg [.lit (.string [105, 45, 107, 108, 105, 110, 103, 111, 110]), .lit (.bool false)], .agg [.lit (.string [105, 45, 108, 117, 120]), .lit (.bool false)], .agg [.lit (.string [105, 45, 109, 105, 110, 103, 111]), .lit (.bool false)], .agg [.lit (.string [105, 45, 110, 97, 118, 97, 106, 111]), .lit (.bool false)], .agg [.lit (.string [105, 45, 112, 119, 110]), .lit (.bool false)], .agg [.lit (.string [105, 45, 116, 97, 111]), .lit (.bool false)], .agg [.lit (.string [105, 45, 116, 97, 121]), .lit (.bool false)], .agg [.lit (.string [105, 45, 116, 115, 117]), .lit (.bool false)], .agg [.lit (.string [110, 111, 45, 98, 111, 107]), .lit (.bool true)], .agg [.lit (.string [110, 111, 45, 110, 121, 110]), .lit (.bool true)], .agg [.lit (.string [115, 103, 110, 45, 98, 101, 45, 102, 114]), .lit (.bool false)], .agg [.lit (.string [115, 103, 110, 45, 98, 101, 45, 110, 108]), .lit (.bool false)], .agg [.lit (.string [115, 103, 110, 45, 99, 104, 45, 100, 101]), .lit (.bool false)], .agg [.lit (.string [122, 104, 45, 103, 117, 111, 121, 117]), .lit (.bool true)], .agg [.lit (.string [122, 104, 45, 104, 97, 107, 107, 97]), .lit (.bool true)], .agg [.lit (.string [122, 104, 45, 109, 105, 110]), .lit (.bool true)], .agg [.lit (.string [122, 104, 45, 109, 105, 110, 45, 110, 97, 110]), .lit (.bool true)], .agg [.lit (.string [122, 104, 45, 120, 105, 97, 110, 103]), .lit (.bool true)]]

/-- 'isoglosslaw05.GrandFinds': WHATEVER THE INPUT: true; the input reads as it did. -/
def grandFindsSpec : ChangeSpec := { name := "grandFinds", fn := fun _ => fun
  | [d1, d2, d3] => { results := [.lit (.bool true)], args := [d1, d2, d3] }
  | _ => none }
def grandFindsRow : OpenClaim := { program := "ytaeaknpkjgacdaadoor", sum := "50a73476f2f7bae6f457bd76d2f527d746cad909092d54c3cb8a9d5d72ebab05", func := "isogloss/isoglosslaw05.GrandFinds", spec := "grandFinds", unfollowed := true, recurses := true, named := ["isogloss/grand.tags"], apart := false, laid := [("isogloss/grand.tags", laid_isogloss_grand_tags)] }
def GrandFindsSaid : Prop := grandFindsRow.holds Tryd.pinned (OpenSpec.ofChange grandFindsSpec)

/-- ITS FALSE NEIGHBOUR: 'it returns false'. Refute it at one input. -/
def grandFindsWrong : ChangeSpec := { name := "grandFinds", fn := fun _ => fun
  | [d1, d2, d3] => { results := [.lit (.bool false)], args := [d1, d2, d3] }
  | _ => none }
def GrandFindsWrongFalsely : Prop := grandFindsRow.holds Tryd.pinned (OpenSpec.ofChange grandFindsWrong)

/-- 'isoglosslaw05.GrandNames': WHATEVER THE INPUT: true; the input reads as it did. -/
def grandNamesSpec : ChangeSpec := { name := "grandNames", fn := fun _ => fun
  | [d] => { results := [.lit (.bool true)], args := [d] }
  | _ => none }
def grandNamesRow : OpenClaim := { program := "ytaeaknpkjgacdaadoor", sum := "50a73476f2f7bae6f457bd76d2f527d746cad909092d54c3cb8a9d5d72ebab05", func := "isogloss/isoglosslaw05.GrandNames", spec := "grandNames", unfollowed := true, recurses := true, named := ["isogloss/grand.tags"], apart := false, laid := [("isogloss/grand.tags", laid_isogloss_grand_tags)] }
def GrandNamesSaid : Prop := grandNamesRow.holds Tryd.pinned (OpenSpec.ofChange grandNamesSpec)

/-- ITS FALSE NEIGHBOUR: 'it returns false'. Refute it at one input. -/
def grandNamesWrong : ChangeSpec := { name := "grandNames", fn := fun _ => fun
  | [d] => { results := [.lit (.bool false)], args := [d] }
  | _ => none }
def GrandNamesWrongFalsely : Prop := grandNamesRow.holds Tryd.pinned (OpenSpec.ofChange grandNamesWrong)

/-- 'isoglosslaw05.GrandAll': WHATEVER THE INPUT: true; the input reads as it did. -/
def grandAllSpec : ChangeSpec := { name := "grandAll", fn := fun _ => fun
  | [d] => { results := [.lit (.bool true)], args := [d] }
  | _ => none }
def grandAllRow : OpenClaim := { program := "ytaeaknpkjgacdaadoor", sum := "50a73476f2f7bae6f457bd76d2f527d746cad909092d54c3cb8a9d5d72ebab05", func := "isogloss/isoglosslaw05.GrandAll", spec := "grandAll", unfollowed := true, recurses := true, named := ["isogloss/grand.tags"], apart := false, laid := [("isogloss/grand.tags", laid_isogloss_grand_tags)] }
def GrandAllSaid : Prop := grandAllRow.holds Tryd.pinned (OpenSpec.ofChange grandAllSpec)

/-- ITS FALSE NEIGHBOUR: 'it returns false'. Refute it at one input. -/
def grandAllWrong : ChangeSpec := { name := "grandAll", fn := fun _ => fun
  | [d] => { results := [.lit (.bool false)], args := [d] }
  | _ => none }
def GrandAllWrongFalsely : Prop := grandAllRow.holds Tryd.pinned (OpenSpec.ofChange grandAllWrong)

/-- 'isoglosslaw05.GrandTags': WHATEVER THE INPUT: true; the input reads as it did. -/
def grandTagsSpec : ChangeSpec := { name := "grandTags", fn := fun _ => fun
  | [d] => { results := [.lit (.bool true)], args := [d] }
  | _ => none }
def grandTagsRow : OpenClaim := { program := "ytaeaknpkjgacdaadoor", sum := "50a73476f2f7bae6f457bd76d2f527d746cad909092d54c3cb8a9d5d72ebab05", func := "isogloss/isoglosslaw05.GrandTags", spec := "grandTags", unfollowed := true, recurses := true, named := ["isogloss/grand.tags"], apart := false, laid := [("isogloss/grand.tags", laid_isogloss_grand_tags)] }
def GrandTagsSaid : Prop := grandTagsRow.holds Tryd.pinned (OpenSpec.ofChange grandTagsSpec)

/-- ITS FALSE NEIGHBOUR: 'it returns false'. Refute it at one input. -/
def grandTagsWrong : ChangeSpec := { name := "grandTags", fn := fun _ => fun
  | [d] => { results := [.lit (.bool false)], args := [d] }
  | _ => none }
def GrandTagsWrongFalsely : Prop := grandTagsRow.holds Tryd.pinned (OpenSpec.ofChange grandTagsWrong)

/-- 'isoglosslaw05.GrandCases': WHATEVER THE INPUT: true; the input reads as it did. -/
def grandCasesSpec : ChangeSpec := { name := "grandCases", fn := fun _ => fun
  | [d1, d2] => { results := [.lit (.bool true)], args := [d1, d2] }
  | _ => none }
def grandCasesRow : OpenClaim := { program := "ytaeaknpkjgacdaadoor", sum := "50a73476f2f7bae6f457bd76d2f527d746cad909092d54c3cb8a9d5d72ebab05", func := "isogloss/isoglosslaw05.GrandCases", spec := "grandCases", unfollowed := true, recurses := true, named := ["isogloss/grand.tags"], apart := false, laid := [("isogloss/grand.tags", laid_isogloss_grand_tags)] }
def GrandCasesSaid : Prop := grandCasesRow.holds Tryd.pinned (OpenSpec.ofChange grandCasesSpec)

/-- ITS FALSE NEIGHBOUR: 'it returns false'. Refute it at one input. -/
def grandCasesWrong : ChangeSpec := { name := "grandCases", fn := fun _ => fun
  | [d1, d2] => { results := [.lit (.bool false)], args := [d1, d2] }
  | _ => none }
def GrandCasesWrongFalsely : Prop := grandCasesRow.holds Tryd.pinned (OpenSpec.ofChange grandCasesWrong)

/- THE SECOND FORM. 'bulk': how many values and letters a reading holds, each counted each time it is reached (what is shared counts as often as it is met; a slice's spare places count too). A statement '..UptoSaid' is the law's where the arguments, and the package variables that the reading takes, are together of bulk at most 1048576: NARROWER than '..Said'. Prove '..Said' where nothing that the law and all that it calls make is longer than what came in: it says more and counts as full. Else prove '..UptoSaid'. A law counts once. -/
mutual
def uptoBulk {H : Type} : DataW H → Nat
  | .lit (.string bytes) => bytes.length + 1
  | .lit _ => 1
  | .nil => 1
  | .ptr d => uptoBulk d + 1
  | .slice elems spare => uptoBulkAll elems + uptoBulkAll spare + 1
  | .agg parts => uptoBulkAll parts + 1
  | .iface _ d => uptoBulk d + 1
  | .map entries => uptoBulkEntries entries + 1
  | .held _ => 1
def uptoBulkAll {H : Type} : List (DataW H) → Nat
  | [] => 0
  | d :: r => uptoBulk d + uptoBulkAll r
def uptoBulkEntries {H : Type} : List (Lit × DataW H) → Nat
  | [] => 0
  | x :: r => uptoBulkEntry x + uptoBulkEntries r
def uptoBulkEntry {H : Type} : Lit × DataW H → Nat
  | (.string bytes, d) => bytes.length + uptoBulk d + 1
  | (_, d) => uptoBulk d + 1
 end
def uptoSmall : (H : Type) → List (DataW H) → Bool := fun _ ds => decide (uptoBulkAll ds ≤ 1048576)
def OpenSpec.upto (s : _root_.Go.ChangeSpec) : _root_.Go.OpenSpec := { _root_.Go.OpenSpec.ofChange s with cond := some uptoSmall }

/-- 'isoglosslaw05.GrandFinds', WHERE WHAT IT READS IS OF BULK AT MOST 1048576: true; the input reads as it did. -/
def grandFindsUptoRow : OpenClaim := { program := "ytaeaknpkjgacdaadoor", sum := "50a73476f2f7bae6f457bd76d2f527d746cad909092d54c3cb8a9d5d72ebab05", func := "isogloss/isoglosslaw05.GrandFinds", spec := "grandFinds", unfollowed := true, recurses := true, named := ["isogloss/grand.tags"], apart := false, laid := [("isogloss/grand.tags", laid_isogloss_grand_tags)], narrowed := true }
def GrandFindsUptoSaid : Prop := grandFindsUptoRow.holds Tryd.pinned (OpenSpec.upto grandFindsSpec)

/-- 'isoglosslaw05.GrandNames', WHERE WHAT IT READS IS OF BULK AT MOST 1048576: true; the input reads as it did. -/
def grandNamesUptoRow : OpenClaim := { program := "ytaeaknpkjgacdaadoor", sum := "50a73476f2f7bae6f457bd76d2f527d746cad909092d54c3cb8a9d5d72ebab05", func := "isogloss/isoglosslaw05.GrandNames", spec := "grandNames", unfollowed := true, recurses := true, named := ["isogloss/grand.tags"], apart := false, laid := [("isogloss/grand.tags", laid_isogloss_grand_tags)], narrowed := true }
def GrandNamesUptoSaid : Prop := grandNamesUptoRow.holds Tryd.pinned (OpenSpec.upto grandNamesSpec)

/-- 'isoglosslaw05.GrandAll', WHERE WHAT IT READS IS OF BULK AT MOST 1048576: true; the input reads as it did. -/
def grandAllUptoRow : OpenClaim := { program := "ytaeaknpkjgacdaadoor", sum := "50a73476f2f7bae6f457bd76d2f527d746cad909092d54c3cb8a9d5d72ebab05", func := "isogloss/isoglosslaw05.GrandAll", spec := "grandAll", unfollowed := true, recurses := true, named := ["isogloss/grand.tags"], apart := false, laid := [("isogloss/grand.tags", laid_isogloss_grand_tags)], narrowed := true }
def GrandAllUptoSaid : Prop := grandAllUptoRow.holds Tryd.pinned (OpenSpec.upto grandAllSpec)

/-- 'isoglosslaw05.GrandTags', WHERE WHAT IT READS IS OF BULK AT MOST 1048576: true; the input reads as it did. -/
def grandTagsUptoRow : OpenClaim := { program := "ytaeaknpkjgacdaadoor", sum := "50a73476f2f7bae6f457bd76d2f527d746cad909092d54c3cb8a9d5d72ebab05", func := "isogloss/isoglosslaw05.GrandTags", spec := "grandTags", unfollowed := true, recurses := true, named := ["isogloss/grand.tags"], apart := false, laid := [("isogloss/grand.tags", laid_isogloss_grand_tags)], narrowed := true }
def GrandTagsUptoSaid : Prop := grandTagsUptoRow.holds Tryd.pinned (OpenSpec.upto grandTagsSpec)

/-- 'isoglosslaw05.GrandCases', WHERE WHAT IT READS IS OF BULK AT MOST 1048576: true; the input reads as it did. -/
def grandCasesUptoRow : OpenClaim := { program := "ytaeaknpkjgacdaadoor", sum := "50a73476f2f7bae6f457bd76d2f527d746cad909092d54c3cb8a9d5d72ebab05", func := "isogloss/isoglosslaw05.GrandCases", spec := "grandCases", unfollowed := true, recurses := true, named := ["isogloss/grand.tags"], apart := false, laid := [("isogloss/grand.tags", laid_isogloss_grand_tags)], narrowed := true }
def GrandCasesUptoSaid : Prop := grandCasesUptoRow.holds Tryd.pinned (OpenSpec.upto grandCasesSpec)

end Rows
end Go.Proofs.YtaeaknpkjgacdaaDoor
