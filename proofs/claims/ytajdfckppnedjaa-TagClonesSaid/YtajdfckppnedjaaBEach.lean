/-
  Package ascii: each; Lower, Upper, Title; a row of bytes made and filled, turned into a text.
-/
import Derived.Test.YtajdfckppnedjaaBByte
import Derived.OwnWalk
import Derived.WalkSmall
import Derived.Carry
namespace Go.Proofs.Ytajdfckppnedjaa
open Go Go.RowKit

theorem byteInfo : (Try.prog.info? 5).map (fun i => (i.zero, i.size, i.bytes)) = some (some (.int .u8 0), 1, 1) := by kernel_rfl

/-- Bytes as cells. -/
def bcells (l : List UInt8) : List Value := l.map fun c => .int .u8 (c.toNat : Int)
theorem length_bcells (l : List UInt8) : (bcells l).length = l.length := by simp [bcells]
/-- The row after k rounds. -/
def eachL (g : Nat → UInt8 → UInt8) (l : List UInt8) (k : Nat) : List UInt8 := (l.take k).mapIdx g ++ List.replicate (l.length - k) 0
theorem eachL_zero (g : Nat → UInt8 → UInt8) (l : List UInt8) : eachL g l 0 = List.replicate l.length 0 := by simp [eachL]
theorem eachL_all (g : Nat → UInt8 → UInt8) (l : List UInt8) : eachL g l l.length = l.mapIdx g := by simp [eachL]
theorem length_eachL (g : Nat → UInt8 → UInt8) (l : List UInt8) (k : Nat) (h : k ≤ l.length) : (eachL g l k).length = l.length := by
  simp [eachL, List.length_take]; omega
theorem eachL_succ (g : Nat → UInt8 → UInt8) (l : List UInt8) (k : Nat) (h : k < l.length) : (eachL g l k).set k (g k l[k]) = eachL g l (k + 1) := by
  apply List.ext_getElem?
  intro j
  unfold eachL
  have hk : ((l.take k).mapIdx g).length = k := by simp [List.length_take]; omega
  have hk1 : ((l.take (k + 1)).mapIdx g).length = k + 1 := by simp [List.length_take]; omega
  rw [List.getElem?_set]
  by_cases hj : k = j
  · subst hj
    rw [if_pos rfl, if_pos (by rw [List.length_append, hk, List.length_replicate]; omega), List.getElem?_append_left (by omega)]
    simp [h]
  · rw [if_neg hj]
    by_cases hjk : j < k
    · rw [List.getElem?_append_left (by omega), List.getElem?_append_left (by omega)]
      simp [hjk, show j < k + 1 by omega]
    · rw [List.getElem?_append_right (by omega), List.getElem?_append_right (by omega), hk, hk1]
      simp only [List.getElem?_replicate]
      by_cases hjl : j < l.length
      · rw [if_pos (by omega), if_pos (by omega)]
      · rw [if_neg (by omega), if_neg (by omega)]
theorem bcells_set (l : List UInt8) (k : Nat) (c : UInt8) : (bcells l).set k (.int .u8 (c.toNat : Int)) = bcells (l.set k c) := by
  unfold bcells; rw [List.map_set]
theorem made_bcells (n : Nat) : (madeCells (Value.int .u8 0).cells (n * 1)).toList = bcells (List.replicate n 0) := by
  rw [Nat.mul_one]
  show (madeCells #[Value.int .u8 0] n).toList = _
  rw [toList_madeCells_one]
  simp [bcells]

/-- What each's rounds keep. -/
def EaI (g : Nat → UInt8 → UInt8) (s : ByteArray) (w : World) (k : Nat) (wr : World) : Prop :=
  wr.ownsRow w.heap.size 5 1 (.slice (some ⟨w.heap.size, 0, none⟩) s.size s.size) s.size (bcells (eachL g (bs s) k)) ∧ Below w.heap.size w wr
theorem EaI.start {g : Nat → UInt8 → UInt8} {s : ByteArray} {w w1 : World} (h : w1.ownsRow w.heap.size 5 1 (.slice (some ⟨w.heap.size, 0, none⟩) s.size s.size) s.size (madeCells (Value.int .u8 0).cells (s.size * 1)).toList) (hg : w.grownBy w1 none) : EaI g s w 0 w1 := by
  refine ⟨?_, (Below.refl _ w).grown hg (Nat.le_refl _) (fun _ h => by cases h)⟩
  rw [made_bcells] at h
  rw [eachL_zero, size_bs]
  exact h
theorem EaI.cell {g : Nat → UInt8 → UInt8} {s : ByteArray} {w wr : World} {k : Nat} (h : EaI g s w k wr) (hk : k < s.size) : (∃ v, wr.cell? ⟨w.heap.size, k, none⟩ = some v) ∧ wr.frozen? ⟨w.heap.size, k, none⟩ = false := by
  refine ⟨?_, h.1.frozenAt k⟩
  rw [h.1.cellAt k (by omega)]
  have hl : k < (bcells (eachL g (bs s) k)).length := by rw [length_bcells, length_eachL _ _ _ (by rw [size_bs]; omega), size_bs]; exact hk
  exact ⟨_, List.getElem?_eq_getElem hl⟩
theorem EaI.step {g : Nat → UInt8 → UInt8} {s : ByteArray} {w wr : World} {k : Nat} {c : UInt8} (h : EaI g s w k wr) (hk : k < s.size) (hc : c = g k s[k]) : EaI g s w (k + 1) (wr.setCell ⟨w.heap.size, k, none⟩ (.int .u8 (c.toNat : Int))) := by
  refine ⟨?_, h.2.setCell (p := ⟨w.heap.size, k, none⟩) (Nat.le_refl _) _⟩
  have h1 := (h.1.stored k (.int .u8 (c.toNat : Int))).1
  rw [bcells_set] at h1
  have hkl : k < (bs s).length := by rw [size_bs]; exact hk
  have he : (eachL g (bs s) k).set k c = eachL g (bs s) (k + 1) := by
    rw [hc]; exact eachL_succ g (bs s) k hkl
  rw [he] at h1
  exact h1
theorem EaI.conv {g : Nat → UInt8 → UInt8} {s : ByteArray} {w wr : World} (h : EaI g s w s.size wr) : (convert 59 9 (.slice (some ⟨w.heap.size, 0, none⟩) s.size s.size)).run Try.prog wr = .ok (.string (ofL ((bs s).mapIdx g))) wr := by
  have hl : ((bs s).mapIdx g).length = s.size := by rw [List.length_mapIdx, size_bs]
  have h1 := h.1
  rw [show eachL g (bs s) s.size = (bs s).mapIdx g by rw [← size_bs]; exact eachL_all _ _] at h1
  have := run_convert_bytes_back (P := Try.prog) wr 59 9 5 ⟨w.heap.size, 0, none⟩ s.size ((bs s).mapIdx g) Try.underlying59 Try.underlying5 Try.underlying9 (fun j hj => by
    have e : ((⟨w.heap.size, 0, none⟩ : Addr).add j) = ⟨w.heap.size, j, none⟩ := by simp [Addr.add, eq_comm]
    rw [e, h1.cellAt j (by omega)]
    unfold bcells
    rw [List.getElem?_map, List.getElem?_eq_getElem hj]
    rfl)
  rw [hl] at this
  exact this

theorem mapIdx_const (f : UInt8 → UInt8) (l : List UInt8) : l.mapIdx (fun _ c => f c) = l.map f := by
  apply List.ext_getElem? ; intro j; simp
theorem mapIdx_title (l : List UInt8) : l.mapIdx titB = titleL l := by
  cases l with
  | nil => rfl
  | cons c r =>
    rw [List.mapIdx_cons]
    unfold titleL
    congr 1
    rw [show (fun i => titB (i + 1)) = fun _ c => lowB c from by funext i c; simp [titB]]
    exact mapIdx_const lowB r
theorem ret_string {a b : ByteArray} (h : a = b) : Ending.returned (.string a) = .returned (.string b) := by rw [h]
end Go.Proofs.Ytajdfckppnedjaa
