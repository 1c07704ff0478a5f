/-
  The statements' own: awake and short.
-/
import Derived.Test.YtajdfckppnedjaaBRef
namespace Go.Proofs.Ytajdfckppnedjaa
open Go Go.RowKit

/-- A text cut to 40 bytes. -/
def cut (s : ByteArray) : ByteArray := if 40 < s.size then s.extract 0 40 else s
theorem size_cut (s : ByteArray) : (cut s).size ≤ 40 := by
  unfold cut; split
  · rw [ByteArray.size_extract]; omega
  · omega
theorem ex_title : titleS ⟨#[108, 65, 84, 78]⟩ = ⟨#[76, 97, 116, 110]⟩ := by decide +kernel
theorem ex_class : classS ⟨#[49, 57, 57, 52]⟩ = 2 := by decide +kernel
theorem ex_same : sameS ⟨#[69, 78]⟩ ⟨#[101, 110]⟩ = true := by decide +kernel

end Go.Proofs.Ytajdfckppnedjaa
