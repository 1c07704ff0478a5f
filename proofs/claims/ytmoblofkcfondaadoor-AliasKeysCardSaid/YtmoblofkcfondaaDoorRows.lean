/-
  NARROWER THAN 'FOR EVERY INPUT', by the rows' own cells (each row's printed sentence says how): AliasTells: laid · AliasDecodes: laid · AliasBack: laid · AliasKeys: laid · AliasOrders: laid · AliasSmall: laid.
  DERIVED. THE GIVEN ROWS OF THIS SEAT. 6 by the template 'for every input the law returns true; each argument reads behind the call as it read before'; 0 by the template 'total and deterministic' (their statements: YtmoblofkcfondaaDoorTotals.lean).
  GIVEN WITH THE SEED: the statements are not yours to turn. If you find one false, say at which input.
  Laid BY PROGRAM, IN A SANDBOX (cutbox-rows.mjs): the forced cells as the released guide's own fill.sh prints them over the translation 05ab49d7eae671d8… (all of the seat's roots in one cut). By AI agents, Wed Nov 11 2026. No macro, syntax, notation, axiom, sorry.
-/
import Derived.Test.YtmoblofkcfondaaDoorChecked
import GoSem.PinnedTables
import GoSem.Claim
import GoSem.ClaimJoined
import GoSem.ClaimMapViews
import Derived.JoinedTies
import Derived.KernelRfl
namespace Go.Proofs.YtmoblofkcfondaaDoor
/- THE CELL 'sum', in the pinned program and in every row, IS THE sha256 OF THE DUMP (.gsa) THAT YtmoblofkcfondaaDoorProg.lean LOADS. Nothing in Lean hashes anything: it is a label: what it is worth is what the hold of that sum in a sandbox is worth. -/
noncomputable def Tryd.pinned : Pinned := { name := "ytmoblofkcfondaadoor", sum := "05ab49d7eae671d85764d6d6dc3fbe05a48549895db92c5f75a3fc1c230b7f52", checked := Tryd.checked }
namespace Rows
def none {H : Type} : Left H := { results := [], args := [] }

/- WHAT THE LISTED PACKAGE-LEVEL VARIABLES READ AS WHEN THE CALL BEGINS. Each datum BY PROGRAM (the guide's laid-datum.mjs) off the statement by which the dump's own 'gosem.cut.vars' lays the variable. In a bare row this is a premise. The card (YtmoblofkcfondaaDoorCards.lean) ties it to the program's text. -/
def laid_isogloss_grand_tags {H : Type} : DataW H := .agg [.agg [.lit (.string [97, 114, 116, 45, 108, 111, 106, 98, 97, 110]), .lit (.bool true)], .agg [.lit (.string [99, 101, 108, 45, 103, 97, 117, 108, 105, 115, 104]), .lit (.bool true)], .agg [.lit (.string [101, 110, 45, 103, 98, 45, 111, 101, 100]), .lit (.bool false)], .agg [.lit (.string [105, 45, 97, 109, 105]), .lit (.bool false)], .agg [.lit (.string [105, 45, 98, 110, 110]), .lit (.bool false)], .agg [.lit (.string [105, 45, 100, 101, 102, 97, 117, 108, 116]), .lit (.bool false)], .agg [.lit (.string [105, 45, 101, 110, 111, 99, 104, 105, 97, 110]), .lit (.bool false)], .agg [.lit (.string [105, 45, 104, 97, 107]), .lit (.bool false)], .agg [.lit (.string [105, 45, 107, 108, 105, 110, 103, 111, 110]), .lit (.bool false)], .agg [.lit (.string [105, 45, 108, 117, 120]), .lit (.bool false)], .agg [.lit (.string [105, 45, 109, 105, 110, 103, 111]), .lit (.bool false)], .agg [.lit (.string [105, 45, 110, 97, 118, 97, 106, 111]), .lit (.bool false)], .agg [.lit (.string [105, 45, 112, 119, 110]), .lit (.bool false)], .agg [.lit (.string [105, 45, 116, 97, 111]), .lit (.bool false)], .agg [.lit (.string [105, 45, 116, 97, 121]), .lit (.bool false)], .agg [.lit (.string [105, 45, 116, 115, 117]), .lit (.bool false)], .agg [.lit (.string [110, 111, 45, 98, 111, 107]), .lit (.bool true)], .agg [.lit (.string [110, 111, 45, 110, 121, 110]), .lit (.bool true)], .agg [.lit (.string [115, 103, 110, 45, 98, 101, 45, 102, 114]), .lit (.bool false)], .agg [.lit (.string [115, 103, 110, 45, 98, 101, 45, 110, 108]), .lit (.bool false)], .agg [.lit (.string [115, 103, 110, 45, 99, 104, 45, 100, 101]), .lit (.bool false)], .agg [.lit (.string [122, 104, 45, 103, 117, 111, 121, 117]), .lit (.bool true)], .agg [.lit (.string [122, 104, 45, 104, 97, 107, 107, 97]), .lit (.bool true)], .agg [.lit (.string [122, 104, 45, 109, 105, 110]), .lit (.bool true)], .agg [.lit (.string [122, 104, 45, 109, 105, 110, 45, 110, 97, 110]), .lit (.bool true)], .agg [.lit (.string [122, 104, 45, 120, 105, 97, 110, 103]), .lit (.bool true)]]
def laid_unicode_utf8_acceptRanges {H : Type} : DataW H := .agg [.agg [.lit (.int .u8 128), .lit (.int .u8 191)], .agg [.lit (.int .u8 160), .lit (.int .u8 191)], .agg [.lit (.int .u8 128), .lit (.int .u8 159)], .agg [.lit (.int .u8 144), .lit (.int .u8 191)], .agg [.lit (.int .u8 128), .lit (.int .u8 143)], .agg [.lit (.int .u8 0), .lit (.int .u8 0)], .agg [.lit (.int .u8 0), .lit (.int .u8 0)], .agg [.lit (.int .u8 0), .lit (.int .u8 0)], .agg [.lit (.int .u8 0), .lit (.int .u8 0)], .agg [.lit (.int .u8 0), .lit (.int .u8 0)], .agg [.lit (.int .u8 0), .lit (.int .u8 0)], .agg [.lit (.int .u8 0), .lit (.int .u8 0)], .agg [.lit (.int .u8 0), .lit (.int .u8 0)], .agg [.lit (.int .u8 0), .lit (.int .u8 0)], .agg [.lit (.int .u8 0), .lit (.int .u8 0)], .agg [.lit (.int .u8 0), .lit (.int .u8 0)]]
/-- One of Go's own tables, pinned by name: the form's constant. -/
def laid_unicode_utf8_first : DataW Unit := Go.Pinned.utf8First

/-- 'isoglosslaw12.AliasTells': WHATEVER THE INPUT: true; the input reads as it did. -/
def aliasTellsSpec : ChangeSpec := { name := "aliasTells", fn := fun _ => fun
  | [d1, d2] => { results := [.lit (.bool true)], args := [d1, d2] }
  | _ => none }
def aliasTellsRow : OpenClaim := { program := "ytmoblofkcfondaadoor", sum := "05ab49d7eae671d85764d6d6dc3fbe05a48549895db92c5f75a3fc1c230b7f52", func := "isogloss/isoglosslaw12.AliasTells", spec := "aliasTells", unfollowed := true, recurses := true, named := ["isogloss/grand.tags"], apart := false, laid := [("isogloss/grand.tags", laid_isogloss_grand_tags)] }
def AliasTellsSaid : Prop := aliasTellsRow.holds Tryd.pinned (OpenSpec.ofChange aliasTellsSpec)

/-- ITS FALSE NEIGHBOUR: 'it returns false'. Refute it at one input. -/
def aliasTellsWrong : ChangeSpec := { name := "aliasTells", fn := fun _ => fun
  | [d1, d2] => { results := [.lit (.bool false)], args := [d1, d2] }
  | _ => none }
def AliasTellsWrongFalsely : Prop := aliasTellsRow.holds Tryd.pinned (OpenSpec.ofChange aliasTellsWrong)

/-- 'isoglosslaw12.AliasDecodes': WHATEVER THE INPUT: true; the input reads as it did. -/
def aliasDecodesSpec : ChangeSpec := { name := "aliasDecodes", fn := fun _ => fun
  | [d1, d2, d3] => { results := [.lit (.bool true)], args := [d1, d2, d3] }
  | _ => none }
def aliasDecodesRow : OpenClaim := { program := "ytmoblofkcfondaadoor", sum := "05ab49d7eae671d85764d6d6dc3fbe05a48549895db92c5f75a3fc1c230b7f52", func := "isogloss/isoglosslaw12.AliasDecodes", spec := "aliasDecodes", inPlace := ["internal/bytealg.IndexByteString", "internal/bytealg.IndexString"], unfollowed := true, recurses := true, named := ["isogloss/grand.tags", "unicode/utf8.first", "unicode/utf8.acceptRanges", "internal/bytealg.MaxLen"], apart := false, laid := [("unicode/utf8.acceptRanges", laid_unicode_utf8_acceptRanges), ("isogloss/grand.tags", laid_isogloss_grand_tags), ("unicode/utf8.first", laid_unicode_utf8_first)] }
def AliasDecodesSaid : Prop := aliasDecodesRow.holds Tryd.pinned (OpenSpec.ofChange aliasDecodesSpec)

/-- ITS FALSE NEIGHBOUR: 'it returns false'. Refute it at one input. -/
def aliasDecodesWrong : ChangeSpec := { name := "aliasDecodes", fn := fun _ => fun
  | [d1, d2, d3] => { results := [.lit (.bool false)], args := [d1, d2, d3] }
  | _ => none }
def AliasDecodesWrongFalsely : Prop := aliasDecodesRow.holds Tryd.pinned (OpenSpec.ofChange aliasDecodesWrong)

/-- 'isoglosslaw12.AliasBack': WHATEVER THE INPUT: true; the input reads as it did. -/
def aliasBackSpec : ChangeSpec := { name := "aliasBack", fn := fun _ => fun
  | [d1, d2] => { results := [.lit (.bool true)], args := [d1, d2] }
  | _ => none }
def aliasBackRow : OpenClaim := { program := "ytmoblofkcfondaadoor", sum := "05ab49d7eae671d85764d6d6dc3fbe05a48549895db92c5f75a3fc1c230b7f52", func := "isogloss/isoglosslaw12.AliasBack", spec := "aliasBack", inPlace := ["internal/bytealg.IndexByteString", "internal/bytealg.IndexString"], unfollowed := true, recurses := true, named := ["isogloss/grand.tags", "unicode/utf8.first", "unicode/utf8.acceptRanges", "internal/bytealg.MaxLen"], apart := false, laid := [("unicode/utf8.acceptRanges", laid_unicode_utf8_acceptRanges), ("isogloss/grand.tags", laid_isogloss_grand_tags), ("unicode/utf8.first", laid_unicode_utf8_first)] }
def AliasBackSaid : Prop := aliasBackRow.holds Tryd.pinned (OpenSpec.ofChange aliasBackSpec)

/-- ITS FALSE NEIGHBOUR: 'it returns false'. Refute it at one input. -/
def aliasBackWrong : ChangeSpec := { name := "aliasBack", fn := fun _ => fun
  | [d1, d2] => { results := [.lit (.bool false)], args := [d1, d2] }
  | _ => none }
def AliasBackWrongFalsely : Prop := aliasBackRow.holds Tryd.pinned (OpenSpec.ofChange aliasBackWrong)

/-- 'isoglosslaw12.AliasKeys': WHATEVER THE INPUT: true; the input reads as it did. -/
def aliasKeysSpec : ChangeSpec := { name := "aliasKeys", fn := fun _ => fun
  | [d1, d2, d3] => { results := [.lit (.bool true)], args := [d1, d2, d3] }
  | _ => none }
def aliasKeysRow : OpenClaim := { program := "ytmoblofkcfondaadoor", sum := "05ab49d7eae671d85764d6d6dc3fbe05a48549895db92c5f75a3fc1c230b7f52", func := "isogloss/isoglosslaw12.AliasKeys", spec := "aliasKeys", unfollowed := true, recurses := true, named := ["isogloss/grand.tags"], apart := false, laid := [("isogloss/grand.tags", laid_isogloss_grand_tags)] }
def AliasKeysSaid : Prop := aliasKeysRow.holds Tryd.pinned (OpenSpec.ofChange aliasKeysSpec)

/-- ITS FALSE NEIGHBOUR: 'it returns false'. Refute it at one input. -/
def aliasKeysWrong : ChangeSpec := { name := "aliasKeys", fn := fun _ => fun
  | [d1, d2, d3] => { results := [.lit (.bool false)], args := [d1, d2, d3] }
  | _ => none }
def AliasKeysWrongFalsely : Prop := aliasKeysRow.holds Tryd.pinned (OpenSpec.ofChange aliasKeysWrong)

/-- 'isoglosslaw12.AliasOrders': WHATEVER THE INPUT: true; the input reads as it did. -/
def aliasOrdersSpec : ChangeSpec := { name := "aliasOrders", fn := fun _ => fun
  | [d1, d2] => { results := [.lit (.bool true)], args := [d1, d2] }
  | _ => none }
def aliasOrdersRow : OpenClaim := { program := "ytmoblofkcfondaadoor", sum := "05ab49d7eae671d85764d6d6dc3fbe05a48549895db92c5f75a3fc1c230b7f52", func := "isogloss/isoglosslaw12.AliasOrders", spec := "aliasOrders", unfollowed := true, recurses := true, named := ["isogloss/grand.tags"], apart := false, laid := [("isogloss/grand.tags", laid_isogloss_grand_tags)] }
def AliasOrdersSaid : Prop := aliasOrdersRow.holds Tryd.pinned (OpenSpec.ofChange aliasOrdersSpec)

/-- ITS FALSE NEIGHBOUR: 'it returns false'. Refute it at one input. -/
def aliasOrdersWrong : ChangeSpec := { name := "aliasOrders", fn := fun _ => fun
  | [d1, d2] => { results := [.lit (.bool false)], args := [d1, d2] }
  | _ => none }
def AliasOrdersWrongFalsely : Prop := aliasOrdersRow.holds Tryd.pinned (OpenSpec.ofChange aliasOrdersWrong)

/-- 'isoglosslaw12.AliasSmall': WHATEVER THE INPUT: true; the input reads as it did. -/
def aliasSmallSpec : ChangeSpec := { name := "aliasSmall", fn := fun _ => fun
  | [d1, d2] => { results := [.lit (.bool true)], args := [d1, d2] }
  | _ => none }
def aliasSmallRow : OpenClaim := { program := "ytmoblofkcfondaadoor", sum := "05ab49d7eae671d85764d6d6dc3fbe05a48549895db92c5f75a3fc1c230b7f52", func := "isogloss/isoglosslaw12.AliasSmall", spec := "aliasSmall", unfollowed := true, recurses := true, named := ["isogloss/grand.tags"], apart := false, laid := [("isogloss/grand.tags", laid_isogloss_grand_tags)] }
def AliasSmallSaid : Prop := aliasSmallRow.holds Tryd.pinned (OpenSpec.ofChange aliasSmallSpec)

/-- ITS FALSE NEIGHBOUR: 'it returns false'. Refute it at one input. -/
def aliasSmallWrong : ChangeSpec := { name := "aliasSmall", fn := fun _ => fun
  | [d1, d2] => { results := [.lit (.bool false)], args := [d1, d2] }
  | _ => none }
def AliasSmallWrongFalsely : Prop := aliasSmallRow.holds Tryd.pinned (OpenSpec.ofChange aliasSmallWrong)

/- THE SECOND FORM. 'bulk': how many values and letters a reading holds, each counted each time it is reached (what is shared counts as often as it is met; a slice's spare places count too). A statement '..UptoSaid' is the law's where the arguments, and the package variables that the reading takes, are together of bulk at most 1048576: NARROWER than '..Said'. Prove '..Said' where nothing that the law and all that it calls make is longer than what came in: it says more and counts as full. Else prove '..UptoSaid'. A law counts once. -/
mutual
def uptoBulk {H : Type} : DataW H → Nat
  | .lit (.string bytes) => bytes.length + 1
  | .lit _ => 1
  | .nil => 1
  | .ptr d => uptoBulk d + 1
  | .slice elems spare => uptoBulkAll elems + uptoBulkAll spare + 1
  | .agg parts => uptoBulkAll parts + 1
  | .iface _ d => uptoBulk d + 1
  | .map entries => uptoBulkEntries entries + 1
  | .held _ => 1
def uptoBulkAll {H : Type} : List (DataW H) → Nat
  | [] => 0
  | d :: r => uptoBulk d + uptoBulkAll r
def uptoBulkEntries {H : Type} : List (Lit × DataW H) → Nat
  | [] => 0
  | x :: r => uptoBulkEntry x + uptoBulkEntries r
def uptoBulkEntry {H : Type} : Lit × DataW H → Nat
  | (.string bytes, d) => bytes.length + uptoBulk d + 1
  | (_, d) => uptoBulk d + 1
 end
def uptoSmall : (H : Type) → List (DataW H) → Bool := fun _ ds => decide (uptoBulkAll ds ≤ 1048576)
def OpenSpec.upto (s : _root_.Go.ChangeSpec) : _root_.Go.OpenSpec := { _root_.Go.OpenSpec.ofChange s with cond := some uptoSmall }

/-- 'isoglosslaw12.AliasTells', WHERE WHAT IT READS IS OF BULK AT MOST 1048576: true; the input reads as it did. -/
def aliasTellsUptoRow : OpenClaim := { program := "ytmoblofkcfondaadoor", sum := "05ab49d7eae671d85764d6d6dc3fbe05a48549895db92c5f75a3fc1c230b7f52", func := "isogloss/isoglosslaw12.AliasTells", spec := "aliasTells", unfollowed := true, recurses := true, named := ["isogloss/grand.tags"], apart := false, laid := [("isogloss/grand.tags", laid_isogloss_grand_tags)], narrowed := true }
def AliasTellsUptoSaid : Prop := aliasTellsUptoRow.holds Tryd.pinned (OpenSpec.upto aliasTellsSpec)

/-- 'isoglosslaw12.AliasDecodes', WHERE WHAT IT READS IS OF BULK AT MOST 1048576: true; the input reads as it did. -/
def aliasDecodesUptoRow : OpenClaim := { program := "ytmoblofkcfondaadoor", sum := "05ab49d7eae671d85764d6d6dc3fbe05a48549895db92c5f75a3fc1c230b7f52", func := "isogloss/isoglosslaw12.AliasDecodes", spec := "aliasDecodes", inPlace := ["internal/bytealg.IndexByteString", "internal/bytealg.IndexString"], unfollowed := true, recurses := true, named := ["isogloss/grand.tags", "unicode/utf8.first", "unicode/utf8.acceptRanges", "internal/bytealg.MaxLen"], apart := false, laid := [("unicode/utf8.acceptRanges", laid_unicode_utf8_acceptRanges), ("isogloss/grand.tags", laid_isogloss_grand_tags), ("unicode/utf8.first", laid_unicode_utf8_first)], narrowed := true }
def AliasDecodesUptoSaid : Prop := aliasDecodesUptoRow.holds Tryd.pinned (OpenSpec.upto aliasDecodesSpec)

/-- 'isoglosslaw12.AliasBack', WHERE WHAT IT READS IS OF BULK AT MOST 1048576: true; the input reads as it did. -/
def aliasBackUptoRow : OpenClaim := { program := "ytmoblofkcfondaadoor", sum := "05ab49d7eae671d85764d6d6dc3fbe05a48549895db92c5f75a3fc1c230b7f52", func := "isogloss/isoglosslaw12.AliasBack", spec := "aliasBack", inPlace := ["internal/bytealg.IndexByteString", "internal/bytealg.IndexString"], unfollowed := true, recurses := true, named := ["isogloss/grand.tags", "unicode/utf8.first", "unicode/utf8.acceptRanges", "internal/bytealg.MaxLen"], apart := false, laid := [("unicode/utf8.acceptRanges", laid_unicode_utf8_acceptRanges), ("isogloss/grand.tags", laid_isogloss_grand_tags), ("unicode/utf8.first", laid_unicode_utf8_first)], narrowed := true }
def AliasBackUptoSaid : Prop := aliasBackUptoRow.holds Tryd.pinned (OpenSpec.upto aliasBackSpec)

/-- 'isoglosslaw12.AliasKeys', WHERE WHAT IT READS IS OF BULK AT MOST 1048576: true; the input reads as it did. -/
def aliasKeysUptoRow : OpenClaim := { program := "ytmoblofkcfondaadoor", sum := "05ab49d7eae671d85764d6d6dc3fbe05a48549895db92c5f75a3fc1c230b7f52", func := "isogloss/isoglosslaw12.AliasKeys", spec := "aliasKeys", unfollowed := true, recurses := true, named := ["isogloss/grand.tags"], apart := false, laid := [("isogloss/grand.tags", laid_isogloss_grand_tags)], narrowed := true }
def AliasKeysUptoSaid : Prop := aliasKeysUptoRow.holds Tryd.pinned (OpenSpec.upto aliasKeysSpec)

/-- 'isoglosslaw12.AliasOrders', WHERE WHAT IT READS IS OF BULK AT MOST 1048576: true; the input reads as it did. -/
def aliasOrdersUptoRow : OpenClaim := { program := "ytmoblofkcfondaadoor", sum := "05ab49d7eae671d85764d6d6dc3fbe05a48549895db92c5f75a3fc1c230b7f52", func := "isogloss/isoglosslaw12.AliasOrders", spec := "aliasOrders", unfollowed := true, recurses := true, named := ["isogloss/grand.tags"], apart := false, laid := [("isogloss/grand.tags", laid_isogloss_grand_tags)], narrowed := true }
def AliasOrdersUptoSaid : Prop := aliasOrdersUptoRow.holds Tryd.pinned (OpenSpec.upto aliasOrdersSpec)

/-- 'isoglosslaw12.AliasSmall', WHERE WHAT IT READS IS OF BULK AT MOST 1048576: true; the input reads as it did. -/
def aliasSmallUptoRow : OpenClaim := { program := "ytmoblofkcfondaadoor", sum := "05ab49d7eae671d85764d6d6dc3fbe05a48549895db92c5f75a3fc1c230b7f52", func := "isogloss/isoglosslaw12.AliasSmall", spec := "aliasSmall", unfollowed := true, recurses := true, named := ["isogloss/grand.tags"], apart := false, laid := [("isogloss/grand.tags", laid_isogloss_grand_tags)], narrowed := true }
def AliasSmallUptoSaid : Prop := aliasSmallUptoRow.holds Tryd.pinned (OpenSpec.upto aliasSmallSpec)

end Rows
end Go.Proofs.YtmoblofkcfondaaDoor
