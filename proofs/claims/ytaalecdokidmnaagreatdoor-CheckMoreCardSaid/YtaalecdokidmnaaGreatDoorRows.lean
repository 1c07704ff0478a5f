/-
  NARROWER THAN 'FOR EVERY INPUT', by the rows' own cells (each row's printed sentence says how): CheckEnds: laid · CheckFewer: laid · CheckMore: laid · CheckTells: laid.
  DERIVED. THE GIVEN ROWS OF THIS SEAT. 4 by the template 'for every input the law returns true; each argument reads behind the call as it read before'; 0 by the template 'total and deterministic' (their statements: YtaalecdokidmnaaGreatDoorTotals.lean).
  GIVEN WITH THE SEED: the statements are not yours to turn. If you find one false, say at which input.
  Laid BY PROGRAM, IN A SANDBOX (cutbox-rows.mjs): the forced cells as the released guide's own fill.sh prints them over the translation 071a3767a4459045… (all of the seat's roots in one cut). By AI agents, Wed Nov 11 2026. No macro, syntax, notation, axiom, sorry.
-/
import Derived.Test.YtaalecdokidmnaaGreatDoorChecked
import GoSem.Claim
import GoSem.ClaimJoined
import GoSem.ClaimMapViews
import Derived.JoinedTies
import Derived.KernelRfl
namespace Go.Proofs.YtaalecdokidmnaaGreatDoor
/- THE CELL 'sum', in the pinned program and in every row, IS THE sha256 OF THE DUMP (.gsa) THAT YtaalecdokidmnaaGreatDoorProg.lean LOADS. Nothing in Lean hashes anything: it is a label: what it is worth is what the hold of that sum in a sandbox is worth. -/
noncomputable def Tryz.pinned : Pinned := { name := "ytaalecdokidmnaagreatdoor", sum := "071a3767a4459045082d5808dce823a895e1103ebc89daddc6c6ce5e4c6682c5", checked := Tryz.checked }
namespace Rows
def none {H : Type} : Left H := { results := [], args := [] }

/- WHAT THE LISTED PACKAGE-LEVEL VARIABLES READ AS WHEN THE CALL BEGINS. Each datum BY PROGRAM (the guide's laid-datum.mjs) off the statement by which the dump's own 'gosem.cut.vars' lays the variable. In a bare row this is a premise. The card (YtaalecdokidmnaaGreatDoorCards.lean) ties it to the program's text. -/
def laid_errors_errorType {H : Type} : DataW H := .iface "internal/reflectlite.rtype" (.agg [.ptr (.lit (.string [101, 114, 114, 111, 114]))])
def laid_isogloss_grand_tags {H : Type} : DataW H := .agg [.agg [.lit (.string [97, 114, 116, 45, 108, 111, 106, 98, 97, 110]), .lit (.bool true)], .agg [.lit (.string [99, 101, 108, 45, 103, 97, 117, 108, 105, 115, 104]), .lit (.bool true)], .agg [.lit (.string [101, 110, 45, 103, 98, 45, 111, 101, 100]), .lit (.bool false)], .agg [.lit (.string [105, 45, 97, 109, 105]), .lit (.bool false)], .agg [.lit (.string [105, 45, 98, 110, 110]), .lit (.bool false)], .agg [.lit (.string [105, 45, 100, 101, 102, 97, 117, 108, 116]), .lit (.bool false)], .agg [.lit (.string [105, 45, 101, 110, 111, 99, 104, 105, 97, 110]), .lit (.bool false)], .agg [.lit (.string [105, 45, 104, 97, 107]), .lit (.bool false)], .agg [.lit (.string [105, 45, 107, 108, 105, 110, 103, 111, 110]), .lit (.bool false)], .agg [.lit (.string [105, 45, 108, 117, 120]), .lit (.bool false)], .agg [.lit (.string [105, 45, 109, 105, 110, 103, 111]), .lit (.bool false)], .agg [.lit (.string [105, 45, 110, 97, 118, 97, 106, 111]), .lit (.bool false)], .agg [.lit (.string [105, 45, 112, 119, 110]), .lit (.bool false)], .agg [.lit (.string [105, 45, 116, 97, 111]), .lit (.bool false)], .agg [.lit (.string [105, 45, 116, 97, 121]), .lit (.bool false)], .agg [.lit (.string [105, 45, 116, 115, 117]), .lit (.bool false)], .agg [.lit (.string [110, 111, 45, 98, 111, 107]), .lit (.bool true)], .agg [.lit (.string [110, 111, 45, 110, 121, 110]), .lit (.bool true)], .agg [.lit (.string [115, 103, 110, 45, 98, 101, 45, 102, 114]), .lit (.bool false)], .agg [.lit (.string [115, 103, 110, 45, 98, 101, 45, 110, 108]), .lit (.bool false)], .agg [.lit (.string [115, 103, 110, 45, 99, 104, 45, 100, 101]), .lit (.bool false)], .agg [.lit (.string [122, 104, 45, 103, 117, 111, 121, 117]), .lit (.bool true)], .agg [.lit (.string [122, 104, 45, 104, 97, 107, 107, 97]), .lit (.bool true)], .agg [.lit (.string [122, 104, 45, 109, 105, 110]), .lit (.bool true)], .agg [.lit (.string [122, 104, 45, 109, 105, 110, 45, 110, 97, 110]), .lit (.bool true)], .agg [.lit (.string [122, 104, 45, 120, 105, 97, 110, 103]), .lit (.bool true)]]

/-- 'isoglosslaw14.CheckEnds': WHATEVER THE INPUT: true; the input reads as it did. -/
def checkEndsSpec : ChangeSpec := { name := "checkEnds", fn := fun _ => fun
  | [d1, d2] => { results := [.lit (.bool true)], args := [d1, d2] }
  | _ => none }
def checkEndsRow : OpenClaim := { program := "ytaalecdokidmnaagreatdoor", sum := "071a3767a4459045082d5808dce823a895e1103ebc89daddc6c6ce5e4c6682c5", func := "isogloss/isoglosslaw14.CheckEnds", spec := "checkEnds", inPlace := ["internal/abi.NoEscape", "internal/bytealg.MakeNoZero", "internal/reflectlite.ValueOf", "(internal/reflectlite.Value).Type", "(internal/reflectlite.Value).IsNil", "internal/reflectlite.TypeOf", "(internal/reflectlite.Value).Elem", "(internal/reflectlite.Value).Set"], unfollowed := true, recurses := true, named := ["isogloss/grand.tags", "errors.errorType"], plainKeys := false, apart := false, laid := [("errors.errorType", laid_errors_errorType), ("isogloss/grand.tags", laid_isogloss_grand_tags)] }
def CheckEndsSaid : Prop := checkEndsRow.holds Tryz.pinned (OpenSpec.ofChange checkEndsSpec)

/-- ITS FALSE NEIGHBOUR: 'it returns false'. Refute it at one input. -/
def checkEndsWrong : ChangeSpec := { name := "checkEnds", fn := fun _ => fun
  | [d1, d2] => { results := [.lit (.bool false)], args := [d1, d2] }
  | _ => none }
def CheckEndsWrongFalsely : Prop := checkEndsRow.holds Tryz.pinned (OpenSpec.ofChange checkEndsWrong)

/-- 'isoglosslaw14.CheckFewer': WHATEVER THE INPUT: true; the input reads as it did. -/
def checkFewerSpec : ChangeSpec := { name := "checkFewer", fn := fun _ => fun
  | [d1, d2] => { results := [.lit (.bool true)], args := [d1, d2] }
  | _ => none }
def checkFewerRow : OpenClaim := { program := "ytaalecdokidmnaagreatdoor", sum := "071a3767a4459045082d5808dce823a895e1103ebc89daddc6c6ce5e4c6682c5", func := "isogloss/isoglosslaw14.CheckFewer", spec := "checkFewer", inPlace := ["internal/abi.NoEscape", "internal/bytealg.MakeNoZero", "internal/reflectlite.ValueOf", "(internal/reflectlite.Value).Type", "(internal/reflectlite.Value).IsNil", "internal/reflectlite.TypeOf", "(internal/reflectlite.Value).Elem", "(internal/reflectlite.Value).Set"], unfollowed := true, recurses := true, named := ["isogloss/grand.tags", "errors.errorType"], plainKeys := false, apart := false, laid := [("errors.errorType", laid_errors_errorType), ("isogloss/grand.tags", laid_isogloss_grand_tags)] }
def CheckFewerSaid : Prop := checkFewerRow.holds Tryz.pinned (OpenSpec.ofChange checkFewerSpec)

/-- ITS FALSE NEIGHBOUR: 'it returns false'. Refute it at one input. -/
def checkFewerWrong : ChangeSpec := { name := "checkFewer", fn := fun _ => fun
  | [d1, d2] => { results := [.lit (.bool false)], args := [d1, d2] }
  | _ => none }
def CheckFewerWrongFalsely : Prop := checkFewerRow.holds Tryz.pinned (OpenSpec.ofChange checkFewerWrong)

/-- 'isoglosslaw14.CheckMore': WHATEVER THE INPUT: true; the input reads as it did. -/
def checkMoreSpec : ChangeSpec := { name := "checkMore", fn := fun _ => fun
  | [d1, d2] => { results := [.lit (.bool true)], args := [d1, d2] }
  | _ => none }
def checkMoreRow : OpenClaim := { program := "ytaalecdokidmnaagreatdoor", sum := "071a3767a4459045082d5808dce823a895e1103ebc89daddc6c6ce5e4c6682c5", func := "isogloss/isoglosslaw14.CheckMore", spec := "checkMore", inPlace := ["internal/abi.NoEscape", "internal/bytealg.MakeNoZero", "internal/reflectlite.ValueOf", "(internal/reflectlite.Value).Type", "(internal/reflectlite.Value).IsNil", "internal/reflectlite.TypeOf", "(internal/reflectlite.Value).Elem", "(internal/reflectlite.Value).Set"], unfollowed := true, recurses := true, named := ["isogloss/grand.tags", "errors.errorType"], plainKeys := false, apart := false, laid := [("errors.errorType", laid_errors_errorType), ("isogloss/grand.tags", laid_isogloss_grand_tags)] }
def CheckMoreSaid : Prop := checkMoreRow.holds Tryz.pinned (OpenSpec.ofChange checkMoreSpec)

/-- ITS FALSE NEIGHBOUR: 'it returns false'. Refute it at one input. -/
def checkMoreWrong : ChangeSpec := { name := "checkMore", fn := fun _ => fun
  | [d1, d2] => { results := [.lit (.bool false)], args := [d1, d2] }
  | _ => none }
def CheckMoreWrongFalsely : Prop := checkMoreRow.holds Tryz.pinned (OpenSpec.ofChange checkMoreWrong)

/-- 'isoglosslaw14.CheckTells': WHATEVER THE INPUT: true; the input reads as it did. -/
def checkTellsSpec : ChangeSpec := { name := "checkTells", fn := fun _ => fun
  | [d1, d2, d3] => { results := [.lit (.bool true)], args := [d1, d2, d3] }
  | _ => none }
def checkTellsRow : OpenClaim := { program := "ytaalecdokidmnaagreatdoor", sum := "071a3767a4459045082d5808dce823a895e1103ebc89daddc6c6ce5e4c6682c5", func := "isogloss/isoglosslaw14.CheckTells", spec := "checkTells", inPlace := ["internal/abi.NoEscape", "internal/bytealg.MakeNoZero", "internal/reflectlite.ValueOf", "(internal/reflectlite.Value).Type", "(internal/reflectlite.Value).IsNil", "internal/reflectlite.TypeOf", "(internal/reflectlite.Value).Elem", "(internal/reflectlite.Value).Set"], unfollowed := true, recurses := true, named := ["isogloss/grand.tags", "errors.errorType"], plainKeys := false, apart := false, laid := [("errors.errorType", laid_errors_errorType), ("isogloss/grand.tags", laid_isogloss_grand_tags)] }
def CheckTellsSaid : Prop := checkTellsRow.holds Tryz.pinned (OpenSpec.ofChange checkTellsSpec)

/-- ITS FALSE NEIGHBOUR: 'it returns false'. Refute it at one input. -/
def checkTellsWrong : ChangeSpec := { name := "checkTells", fn := fun _ => fun
  | [d1, d2, d3] => { results := [.lit (.bool false)], args := [d1, d2, d3] }
  | _ => none }
def CheckTellsWrongFalsely : Prop := checkTellsRow.holds Tryz.pinned (OpenSpec.ofChange checkTellsWrong)

/- THE SECOND FORM. 'bulk': how many values and letters a reading holds, each counted each time it is reached (what is shared counts as often as it is met; a slice's spare places count too). A statement '..UptoSaid' is the law's where the arguments, and the package variables that the reading takes, are together of bulk at most 1048576: NARROWER than '..Said'. Prove '..Said' where nothing that the law and all that it calls make is longer than what came in: it says more and counts as full. Else prove '..UptoSaid'. A law counts once. -/
mutual
def uptoBulk {H : Type} : DataW H → Nat
  | .lit (.string bytes) => bytes.length + 1
  | .lit _ => 1
  | .nil => 1
  | .ptr d => uptoBulk d + 1
  | .slice elems spare => uptoBulkAll elems + uptoBulkAll spare + 1
  | .agg parts => uptoBulkAll parts + 1
  | .iface _ d => uptoBulk d + 1
  | .map entries => uptoBulkEntries entries + 1
  | .held _ => 1
def uptoBulkAll {H : Type} : List (DataW H) → Nat
  | [] => 0
  | d :: r => uptoBulk d + uptoBulkAll r
def uptoBulkEntries {H : Type} : List (Lit × DataW H) → Nat
  | [] => 0
  | x :: r => uptoBulkEntry x + uptoBulkEntries r
def uptoBulkEntry {H : Type} : Lit × DataW H → Nat
  | (.string bytes, d) => bytes.length + uptoBulk d + 1
  | (_, d) => uptoBulk d + 1
 end
def uptoSmall : (H : Type) → List (DataW H) → Bool := fun _ ds => decide (uptoBulkAll ds ≤ 1048576)
def OpenSpec.upto (s : _root_.Go.ChangeSpec) : _root_.Go.OpenSpec := { _root_.Go.OpenSpec.ofChange s with cond := some uptoSmall }

/-- 'isoglosslaw14.CheckEnds', WHERE WHAT IT READS IS OF BULK AT MOST 1048576: true; the input reads as it did. -/
def checkEndsUptoRow : OpenClaim := { program := "ytaalecdokidmnaagreatdoor", sum := "071a3767a4459045082d5808dce823a895e1103ebc89daddc6c6ce5e4c6682c5", func := "isogloss/isoglosslaw14.CheckEnds", spec := "checkEnds", inPlace := ["internal/abi.NoEscape", "internal/bytealg.MakeNoZero", "internal/reflectlite.ValueOf", "(internal/reflectlite.Value).Type", "(internal/reflectlite.Value).IsNil", "internal/reflectlite.TypeOf", "(internal/reflectlite.Value).Elem", "(internal/reflectlite.Value).Set"], unfollowed := true, recurses := true, named := ["isogloss/grand.tags", "errors.errorType"], plainKeys := false, apart := false, laid := [("errors.errorType", laid_errors_errorType), ("isogloss/grand.tags", laid_isogloss_grand_tags)], narrowed := true }
def CheckEndsUptoSaid : Prop := checkEndsUptoRow.holds Tryz.pinned (OpenSpec.upto checkEndsSpec)

/-- 'isoglosslaw14.CheckFewer', WHERE WHAT IT READS IS OF BULK AT MOST 1048576: true; the input reads as it did. -/
def checkFewerUptoRow : OpenClaim := { program := "ytaalecdokidmnaagreatdoor", sum := "071a3767a4459045082d5808dce823a895e1103ebc89daddc6c6ce5e4c6682c5", func := "isogloss/isoglosslaw14.CheckFewer", spec := "checkFewer", inPlace := ["internal/abi.NoEscape", "internal/bytealg.MakeNoZero", "internal/reflectlite.ValueOf", "(internal/reflectlite.Value).Type", "(internal/reflectlite.Value).IsNil", "internal/reflectlite.TypeOf", "(internal/reflectlite.Value).Elem", "(internal/reflectlite.Value).Set"], unfollowed := true, recurses := true, named := ["isogloss/grand.tags", "errors.errorType"], plainKeys := false, apart := false, laid := [("errors.errorType", laid_errors_errorType), ("isogloss/grand.tags", laid_isogloss_grand_tags)], narrowed := true }
def CheckFewerUptoSaid : Prop := checkFewerUptoRow.holds Tryz.pinned (OpenSpec.upto checkFewerSpec)

/-- 'isoglosslaw14.CheckMore', WHERE WHAT IT READS IS OF BULK AT MOST 1048576: true; the input reads as it did. -/
def checkMoreUptoRow : OpenClaim := { program := "ytaalecdokidmnaagreatdoor", sum := "071a3767a4459045082d5808dce823a895e1103ebc89daddc6c6ce5e4c6682c5", func := "isogloss/isoglosslaw14.CheckMore", spec := "checkMore", inPlace := ["internal/abi.NoEscape", "internal/bytealg.MakeNoZero", "internal/reflectlite.ValueOf", "(internal/reflectlite.Value).Type", "(internal/reflectlite.Value).IsNil", "internal/reflectlite.TypeOf", "(internal/reflectlite.Value).Elem", "(internal/reflectlite.Value).Set"], unfollowed := true, recurses := true, named := ["isogloss/grand.tags", "errors.errorType"], plainKeys := false, apart := false, laid := [("errors.errorType", laid_errors_errorType), ("isogloss/grand.tags", laid_isogloss_grand_tags)], narrowed := true }
def CheckMoreUptoSaid : Prop := checkMoreUptoRow.holds Tryz.pinned (OpenSpec.upto checkMoreSpec)

/-- 'isoglosslaw14.CheckTells', WHERE WHAT IT READS IS OF BULK AT MOST 1048576: true; the input reads as it did. -/
def checkTellsUptoRow : OpenClaim := { program := "ytaalecdokidmnaagreatdoor", sum := "071a3767a4459045082d5808dce823a895e1103ebc89daddc6c6ce5e4c6682c5", func := "isogloss/isoglosslaw14.CheckTells", spec := "checkTells", inPlace := ["internal/abi.NoEscape", "internal/bytealg.MakeNoZero", "internal/reflectlite.ValueOf", "(internal/reflectlite.Value).Type", "(internal/reflectlite.Value).IsNil", "internal/reflectlite.TypeOf", "(internal/reflectlite.Value).Elem", "(internal/reflectlite.Value).Set"], unfollowed := true, recurses := true, named := ["isogloss/grand.tags", "errors.errorType"], plainKeys := false, apart := false, laid := [("errors.errorType", laid_errors_errorType), ("isogloss/grand.tags", laid_isogloss_grand_tags)], narrowed := true }
def CheckTellsUptoSaid : Prop := checkTellsUptoRow.holds Tryz.pinned (OpenSpec.upto checkTellsSpec)

end Rows
end Go.Proofs.YtaalecdokidmnaaGreatDoor
