/-
  Package likely: the ladder. (Printed by wip/gen_tlad.py.)
-/
import Derived.Test.YthjfcfhibdpbnaaTKit
import Derived.RangeFuncNested
import Derived.Deep.QuietTactic
import Derived.BigQuiet
import Derived.RangeFuncBound
import Derived.RangeFuncKeeps
import Derived.RangeFuncBox
import Derived.RangeFuncCalls
namespace Go.Proofs.Ythjfcfhibdpbnaa
open Go Go.RowKit

attribute [local go_sem] Oper.semAt_some

/-- So many arrays of three texts, side by side. -/
def ArrL (W : World) (g o : Nat) (A : List KT) : Prop := ∀ i x, A[i]? = some x → W.cell? ⟨g, o + i * 3, none⟩ = some (.string x.1) ∧ W.cell? ⟨g, o + i * 3 + 1, none⟩ = some (.string x.2.1) ∧ W.cell? ⟨g, o + i * 3 + 2, none⟩ = some (.string x.2.2)
theorem ArrL.below {W W' : World} {g o : Nat} {A : List KT} (h : ArrL W g o A) (hb : Below W.heap.size W W') : ArrL W' g o A := fun i x hx => by
  obtain ⟨c0, c1, c2⟩ := h i x hx
  exact ⟨(hb.cell (p := ⟨g, o + i * 3, none⟩) (lt_cellT c0)).trans c0, (hb.cell (p := ⟨g, o + i * 3 + 1, none⟩) (lt_cellT c1)).trans c1, (hb.cell (p := ⟨g, o + i * 3 + 2, none⟩) (lt_cellT c2)).trans c2⟩
theorem ArrL.take {W : World} {g o : Nat} {A : List KT} (h : ArrL W g o A) (n : Nat) : ArrL W g o (A.take n) := fun i x hx => by
  rw [List.getElem?_take] at hx
  split at hx
  · exact h i x hx
  · cases hx
theorem hasD_snoc (A : List KT) (x k : KT) : hasD (A ++ [x]) k = (hasD A k || decide (x = k)) := by simp [hasD, List.any_append]
theorem take_nextT {α : Type} {l : List α} {k : Nat} {x : α} (h : l[k]? = some x) : l.take (k + 1) = l.take k ++ [x] := by rw [List.take_add_one, h]; rfl
theorem hasD_false {A : List KT} {k : KT} (h : hasD A k = false) : ∀ (i : Nat) (x : KT), A[i]? = some x → x ≠ k := by
  intro i x hx e
  have := (hasD_iff A k).2 (e ▸ List.mem_of_getElem? hx)
  rw [h] at this
  cases this

set_option maxRecDepth 100000 in
set_option maxHeartbeats 2000000 in
theorem index_t (g cap : Nat) (A : List KT) (a b c : ByteArray) (w : World) (hA : ArrL w g 0 A) (hn : A.length ≤ 1000) :
    Calls Try.prog 60 #[.slice (some ⟨g, 0, none⟩) A.length cap, .agg #[.string a, .string b, .string c]] w fun e w' => ∃ z : Int, e = .returned (.int .i64 z) ∧ decide (0 ≤ z) = hasD A (a, b, c) ∧ Below w.heap.size w w' := by
  obtain ⟨W1, hW1⟩ : ∃ W1, w.alloc (.cells #[.string a, .string b, .string c] 62) = W1 := ⟨_, rfl⟩
  have hb1 : Below w.heap.size w W1 := by rw [← hW1]; exact (Below.refl _ w).alloc (Nat.le_refl _) _
  have hX1 : W1.heap[w.heap.size]? = some (.cells #[.string a, .string b, .string c] 62 (0, 0)) := by rw [← hW1]; exact World.alloc_heap_new w _
  have HX1 := Lib.hid hX1
  have HL1 := Lib.hid (lt_blockT hX1)
  have HA := Lib.hid (hA.below hb1)
  have HB1 := Lib.hid hb1
  have HW1 := Lib.hid hW1
  have hg := eqgT
  clear hA hX1 hb1 hW1
  go_enter Try.func60, Try.ntmps60
  go_upto_region 1 with fail
  rw [HW1.out]
  go_wp2_with fail
  go_loopw [8] (fun i wr => ∃ k : Nat, k ≤ A.length ∧ i = .int .i64 (k : Int) ∧ hasD (A.take k) (a, b, c) = false ∧ Hid (Below W1.heap.size W1 wr)) (fun i _ => A.length - (intOf i).toNat)
  case atStart => exact ⟨0, Nat.zero_le _, rfl, rfl, Lib.hid (Below.refl _ _)⟩
  case round =>
    obtain ⟨k, hk, rfl, hno, HWR⟩ := hrel
    obtain ⟨x0, x1, x2⟩ := cells3T ((HWR.out.block _ HL1.out).trans HX1.out)
    by_cases hlt : k < A.length
    · have hki : (k : Int) < (A.length : Int) := by omega
      have hk0 : (0 : Int) ≤ (k : Int) := by omega
      have hkb : (k : Int) ≤ 1000 := by omega
      obtain ⟨x, hx⟩ : ∃ x, A[k]? = some x := ⟨_, List.getElem?_eq_getElem hlt⟩
      obtain ⟨c0, c1, c2⟩ := (HA.out.below HWR.out) k x hx
      rw [Nat.zero_add] at c0 c1 c2
      have q1 := fun w => eq_threeT a b c x.1 x.2.1 x.2.2 w
      have HNX := Lib.hid (take_nextT hx)
      obtain ⟨y0, y1, y2⟩ := x
      dsimp only at c0 c1 c2 q1
      by_cases he : (a, b, c) = (y0, y1, y2)
      · have HH := Lib.hid (show hasD A (a, b, c) = true from (hasD_iff _ _).2 (he ▸ List.mem_of_getElem? hx))
        rw [decide_eq_true he] at q1
        clear hx he hno
        go_upto_region 4 with fail
        go_quiet (fail)
        go_wp2_with fail
        go_ret
        exact ⟨_, rfl, by rw [HH.out]; exact decide_eq_true hk0, below_drewT (HB1.out.trans (HWR.out.mono HB1.out.size)) _⟩
      · have HH := Lib.hid (show hasD (A.take k ++ [(y0, y1, y2)]) (a, b, c) = false by rw [hasD_snoc, hno, decide_eq_false (fun e => he e.symm)]; rfl)
        rw [decide_eq_false he] at q1
        clear hx he hno
        go_upto_region 4 with fail
        go_quiet (fail)
        go_wp2_with fail
        go_roundw
        case rel => exact ⟨k + 1, by omega, by go_num, by rw [HNX.out]; exact HH.out, Lib.hid (below_drewT HWR.out _)⟩
        case measure => simp [intOf]; omega
    · obtain rfl : k = A.length := by omega
      have hki : ¬ (A.length : Int) < (A.length : Int) := by omega
      rw [List.take_of_length_le (Nat.le_refl _)] at hno
      have HNO := Lib.hid hno
      clear hno
      go_wp2_with fail
      go_ret
      exact ⟨_, rfl, by rw [HNO.out]; rfl, HB1.out.trans (HWR.out.mono HB1.out.size)⟩
set_option maxRecDepth 100000 in
theorem contains_t (g cap : Nat) (A : List KT) (a b c : ByteArray) (w : World) (hA : ArrL w g 0 A) (hn : A.length ≤ 1000) :
    Calls Try.prog 53 #[.slice (some ⟨g, 0, none⟩) A.length cap, .agg #[.string a, .string b, .string c]] w fun e w' => e = .returned (.bool (hasD A (a, b, c))) ∧ Below w.heap.size w w' := by
  obtain ⟨W1, hW1⟩ : ∃ W1, w.alloc (.cells #[.string a, .string b, .string c] 62) = W1 := ⟨_, rfl⟩
  have hb1 : Below w.heap.size w W1 := by rw [← hW1]; exact (Below.refl _ w).alloc (Nat.le_refl _) _
  have hX1 : W1.heap[w.heap.size]? = some (.cells #[.string a, .string b, .string c] 62 (0, 0)) := by rw [← hW1]; exact World.alloc_heap_new w _
  obtain ⟨x0, x1, x2⟩ := cells3T hX1
  have HC := Lib.hid (index_t g cap A a b c W1 (hA.below hb1) hn)
  have HB1 := Lib.hid hb1
  have HW1 := Lib.hid hW1
  clear hA hX1 hb1 hW1
  go_enter Try.func53, Try.ntmps53
  go_upto_region 1 with fail
  rw [HW1.out]
  go_wp2_with (go_at_call 60; (with_reducible refine HC.out.mono ?_); rintro e w2 ⟨z, rfl, hz, hb2⟩; have HZ := Lib.hid hz; have HB2 := Lib.hid hb2; clear hz hb2)
  go_ret
  exact ⟨by rw [← HZ.out]; rfl, HB1.out.trans (HB2.out.mono HB1.out.size)⟩

end Go.Proofs.Ythjfcfhibdpbnaa
