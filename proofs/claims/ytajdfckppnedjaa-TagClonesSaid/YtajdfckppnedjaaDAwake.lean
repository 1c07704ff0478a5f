/-
  The statements' own (layer 4): awake and short.
-/
import Derived.Test.YtajdfckppnedjaaDCheck
import Derived.Test.YtajdfckppnedjaaBKit
namespace Go.Proofs.Ytajdfckppnedjaa
open Go Go.RowKit

/-- A text cut to 60 bytes. -/
def cut60 (s : ByteArray) : ByteArray := if 60 < s.size then s.extract 0 60 else s
theorem size_cut60 (s : ByteArray) : (cut60 s).size ≤ 60 := by
  unfold cut60; split
  · rw [ByteArray.size_extract]; omega
  · omega
theorem ex_chk : chkS ⟨#[101, 110, 45, 45, 117, 115]⟩ = some 3 := by decide +kernel
theorem ex_trim : trimS ⟨#[122, 104, 45, 72, 97, 110, 116, 45, 67, 78, 45, 120, 45, 112, 114, 105, 118, 97, 116, 101, 49]⟩ = ⟨#[122, 104, 45, 72, 97, 110, 116, 45, 67, 78]⟩ := by decide +kernel

end Go.Proofs.Ytajdfckppnedjaa
