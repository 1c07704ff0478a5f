/-
  Package grand: its array as the program's text lays it; Search's question; Search; Find; Regular.
-/
import Derived.Test.YtbafmnafhaoggaaGreatDoorBase
import Derived.Test.YtbafmnafhaoggaaGreatDoorBMaths
import Derived.Test.YtbafmnafhaoggaaGreatDoorSeqs
import Derived.Deep.MidRow
import Derived.LaidLaws
namespace Go.Proofs.YtbafmnafhaoggaaGreatDoor
open Go Go.RowKit

/-- The array's cells. -/
def gC : List Value := gL.flatMap fun x => [.string x.1, .bool x.2]
theorem gC_len : gC.length = 52 := by decide +kernel
theorem gC_name (k : Nat) (hk : k < 26) : gC[k * 2]? = some (.string (nameG k)) := by
  have h : k = 0 ∨ k = 1 ∨ k = 2 ∨ k = 3 ∨ k = 4 ∨ k = 5 ∨ k = 6 ∨ k = 7 ∨ k = 8 ∨ k = 9 ∨ k = 10 ∨ k = 11 ∨ k = 12 ∨ k = 13 ∨ k = 14 ∨ k = 15 ∨ k = 16 ∨ k = 17 ∨ k = 18 ∨ k = 19 ∨ k = 20 ∨ k = 21 ∨ k = 22 ∨ k = 23 ∨ k = 24 ∨ k = 25 := by omega
  rcases h with rfl | rfl | rfl | rfl | rfl | rfl | rfl | rfl | rfl | rfl | rfl | rfl | rfl | rfl | rfl | rfl | rfl | rfl | rfl | rfl | rfl | rfl | rfl | rfl | rfl | rfl <;> rfl
theorem gC_reg (k : Nat) (hk : k < 26) : gC[k * 2 + 1]? = some (.bool (regG k)) := by
  have h : k = 0 ∨ k = 1 ∨ k = 2 ∨ k = 3 ∨ k = 4 ∨ k = 5 ∨ k = 6 ∨ k = 7 ∨ k = 8 ∨ k = 9 ∨ k = 10 ∨ k = 11 ∨ k = 12 ∨ k = 13 ∨ k = 14 ∨ k = 15 ∨ k = 16 ∨ k = 17 ∨ k = 18 ∨ k = 19 ∨ k = 20 ∨ k = 21 ∨ k = 22 ∨ k = 23 ∨ k = 24 ∨ k = 25 := by omega
  rcases h with rfl | rfl | rfl | rfl | rfl | rfl | rfl | rfl | rfl | rfl | rfl | rfl | rfl | rfl | rfl | rfl | rfl | rfl | rfl | rfl | rfl | rfl | rfl | rfl | rfl | rfl <;> rfl

theorem gGlobal : Tryz.prog.globalNamed "isogloss/grand.tags" = some 1 := by kernel_rfl
/-- The variable holds the tags. -/
def GL (W : World) : Prop := W.var? Tryz.prog "isogloss/grand.tags" = some gC.toArray
theorem GL.size {W : World} (h : GL W) : 1 < W.heap.size := by
  have h' : World.var? Tryz.prog W "isogloss/grand.tags" = _ := h
  unfold World.var? at h'
  rw [gGlobal] at h'
  rcases Nat.lt_or_ge 1 W.heap.size with hl | hl
  · exact hl
  · simp [Array.getElem?_eq_none hl] at h'
theorem GL.below {B : Nat} {w w' : World} (h : GL w) (hb : Below B w w') (hB : 1 < B) : GL w' := var?_below hb gGlobal hB h
theorem GL.block {w w' : World} (h : GL w) (hb : w'.heap[1]? = w.heap[1]?) : GL w' := by
  have h' : World.var? Tryz.prog w "isogloss/grand.tags" = _ := h
  show World.var? Tryz.prog w' "isogloss/grand.tags" = _
  unfold World.var? at h' ⊢
  rw [gGlobal] at h' ⊢
  simp only [Option.bind_some] at h' ⊢
  rw [hb]; exact h'
theorem GL.name {W : World} (h : GL W) (k : Nat) (hk : k < 26) : W.cell? ⟨1, k * 2, none⟩ = some (.string (nameG k)) := by
  have := World.var?_cell gGlobal h (k * 2)
  rw [this]
  simpa using gC_name k hk
theorem GL.load {W : World} (h : GL W) : (Instr.loadAt 236 (.pointer (some ⟨1, 0, none⟩))).run Tryz.prog W = .ok (.agg gC.toArray) W :=
  run_loadAt_mid W 1 0 236 gC (.array 26 235) (fun j v hj => by
    rw [Nat.zero_add, World.var?_cell gGlobal h j]
    simpa using hj) (by kernel_rfl) rfl (by rw [gC_len]; kernel_rfl)

end Go.Proofs.YtbafmnafhaoggaaGreatDoor
