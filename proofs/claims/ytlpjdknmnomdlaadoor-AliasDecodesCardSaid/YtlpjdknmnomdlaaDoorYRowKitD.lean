/-
  The laid array where three variables are listed (AliasDecodes, AliasBack).
-/
import Derived.Test.YtlpjdknmnomdlaaDoorERowKit
namespace Go.Proofs.YtlpjdknmnomdlaaDoor
open Go.ChangeShapes Go.WideShapes Go.RowKit

theorem gl_of_laid3 {W : World} (h : laidMetH Tryd.prog Rows.aliasDecodesRow.laid W) : GL W := by
  rw [show Rows.aliasDecodesRow.laid = [("unicode/utf8.acceptRanges", Rows.laid_unicode_utf8_acceptRanges), ("isogloss/grand.tags", Rows.laid_isogloss_grand_tags), ("unicode/utf8.first", Rows.laid_unicode_utf8_first)] from rfl] at h
  rw [MakeChecks.laidMetH_plain _ _ _ (by kernel_rfl)] at h
  obtain ⟨ps, ⟨_, _, _, _, _, _, _, _, _, _, ⟨g', t', cs, fuel, p, q, hg', ht', hvar, hd, _, _⟩, _⟩, _⟩ := h
  have hty : (Tryd.prog.globals[0]?).map (·.type) = some 108 := by kernel_rfl
  obtain rfl := Option.some.inj (gGlobal.symm.trans hg')
  obtain rfl := Option.some.inj (hty.symm.trans ht')
  have hd' : DataW.trod _ Tryd.prog W 0 _ _ fuel 108 cs.toList = some (.agg gData, p) := hd
  have := tags_cells hd'
  show World.var? _ _ _ = _
  rw [hvar, ← this]
end Go.Proofs.YtlpjdknmnomdlaaDoor
