/-
  keyword.place: where a key stands first.
-/
import Derived.Test.YtgdcdijdpflmdaaUPut
namespace Go.Proofs.Ytgdcdijdpflmdaa
open Go Go.RowKit

set_option maxRecDepth 100000 in
theorem placeF_own (k key : ByteArray) (u : Value) (B : Nat) (b : Bool) (hb : (k.toList == key.toList) = b) (w : World) (hB : w.cell? ⟨B, 0, none⟩ = some (.string key)) :
    Calls Try.prog 118 #[.agg #[.string k, u], .pointer (some ⟨B, 0, none⟩)] w fun e w' => e = .returned (.bool b) ∧ Below w.heap.size w w' := by
  obtain ⟨W1, hW1⟩ : ∃ W1, w.alloc (.cells #[.string k, u] 53) = W1 := ⟨_, rfl⟩
  have hb1 : Below w.heap.size w W1 := by rw [← hW1]; exact (Below.refl _ w).alloc (Nat.le_refl _) _
  have h1 : W1.heap[w.heap.size]? = some (.cells #[.string k, u] 53 (0, 0)) := by rw [← hW1]; exact World.alloc_heap_new w _
  obtain ⟨e0, -⟩ := key_cells h1
  have e1 := (hb1.cell (p := ⟨B, 0, none⟩) (lt_of_cellF hB)).trans hB
  clear hB h1
  go_enter Try.func118, Try.ntmps118
  go_upto_region 1 with fail
  clear hW1
  go_wp2_with fail
  go_ret
  exact ⟨by first | rfl | (rw [← hb]; rfl) | (subst hb; rfl), hb1⟩
set_option maxRecDepth 100000 in
set_option maxHeartbeats 2000000 in
theorem indexX_own (v : Value) (l : KX) (key : ByteArray) (B : Nat) (w : World) (hv : ExtU w v l) (hl : l.length ≤ 100000) (hB : w.cell? ⟨B, 0, none⟩ = some (.string key)) :
    Calls Try.prog 117 #[v, .func (.func 118) #[] #[.pointer (some ⟨B, 0, none⟩)]] w fun e w' => e = .returned (.int .i64 (placeI l key)) ∧ Below w.heap.size w w' := by
  obtain ⟨ao, c, rfl, hc⟩ := hv
  have HX := Lib.hid (fun (k : Nat) (x : ByteArray × List ByteArray) (h : l[k]? = some x) => ExtU.at (w := w) (ao := ao) (c := c) (L := l) ⟨ao, c, rfl, hc⟩ h)
  have HBB := Lib.hid hB
  clear hc hB
  go_enter Try.func117, Try.ntmps117
  go_wp2_with fail
  go_loopw [8, 5] (fun i _ wr => ∃ k : Nat, k ≤ l.length ∧ i = .int .i64 (k : Int) ∧ Below w.heap.size w wr ∧ Hid (∀ i x, i < k → l[i]? = some x → x.1 ≠ key)) (fun i _ _ => l.length - (intOf i).toNat)
  case atStart => exact ⟨0, Nat.zero_le _, rfl, Below.refl _ _, Lib.hid (fun i x h => by omega)⟩
  case round =>
    obtain ⟨k, hk, rfl, hB, HP⟩ := hrel
    by_cases hlt : k < l.length
    · have hki : (k : Int) < (l.length : Int) := by omega
      have hk0 : (0 : Int) ≤ (k : Int) := by omega
      obtain ⟨x, hx⟩ : ∃ x, l[k]? = some x := ⟨_, List.getElem?_eq_getElem hlt⟩
      obtain ⟨g, o, ⟨ta, tn, tc⟩, rfl, c1, c2, -, -⟩ := HX.out k x hx
      simp only [slc] at c2
      have c1 := (hB.cell (p := ⟨g, o + k * 2, none⟩) (lt_of_cellF c1)).trans c1
      have c2 := (hB.cell (p := ⟨g, o + k * 2 + 1, none⟩) (lt_of_cellF c2)).trans c2
      have CT := Lib.hid (fun (b : Bool) hb => placeF_own x.1 key (.slice ta tn tc) B b hb wr ((hB.cell (p := ⟨B, 0, none⟩) (lt_of_cellF HBB.out)).trans HBB.out))
      have HBk := Lib.hid hB
      have HXk := Lib.hid hx
      by_cases hb : x.1 = key
      · have HR := Lib.hid (show placeI l key = (k : Int) by
          have e : placeN l key = k := placeN_of (by omega) HP.out (fun y hy => by rw [hx] at hy; cases hy; exact hb)
          unfold placeI
          rw [e, if_pos hlt])
        have CB := Lib.hid (CT.out true (by rw [hb]; simp))
        obtain ⟨xk, xl⟩ := x
        dsimp only at c1 CB
        clear hx hb hB CT
        go_wp2_with (go_at_call 118; (with_reducible refine CB.out.mono ?_); rintro e w5 ⟨rfl, hb5⟩)
        go_ret
        exact ⟨by rw [HR.out]; rfl, HBk.out.trans (hb5.mono HBk.out.size)⟩
      · have HS := Lib.hid (show ∀ i y, i < k + 1 → l[i]? = some y → y.1 ≠ key from fun i y hi hy => by
          rcases Nat.lt_or_ge i k with h | h
          · exact HP.out i y h hy
          · obtain rfl : i = k := by omega
            rw [hx] at hy; cases hy; exact hb)
        have CB := Lib.hid (CT.out false (toList_ne hb))
        obtain ⟨xk, xl⟩ := x
        dsimp only at c1 CB
        clear hx hb hB CT
        go_wp2_with (go_at_call 118; (with_reducible refine CB.out.mono ?_); rintro e w5 ⟨rfl, hb5⟩)
        go_roundw
        case rel => exact ⟨k + 1, by omega, by go_num, HBk.out.trans (hb5.mono HBk.out.size), HS⟩
        case measure => simp [intOf]; omega
    · obtain rfl : k = l.length := by omega
      have hki : ¬ (l.length : Int) < (l.length : Int) := by omega
      have HR := Lib.hid (show placeI l key = -1 by
        have e : placeN l key = l.length := placeN_of (Nat.le_refl _) HP.out (fun y hy => by simp at hy)
        unfold placeI
        rw [e, if_neg (by omega)])
      go_wp2_with fail
      go_ret
      exact ⟨by rw [HR.out]; rfl, hB⟩
set_option maxRecDepth 100000 in
theorem place_own (v : Value) (k : List ByteArray × KX) (key : ByteArray) (w : World) (hv : KeyU w v k) (hl : k.2.length ≤ 100000) :
    Calls Try.prog 90 #[v, .string key] w fun e w' => e = .returned (.int .i64 (placeI k.2 key)) ∧ Below w.heap.size w w' := by
  obtain ⟨va, vk, rfl, rA, rK⟩ := hv
  obtain ⟨W2, hW2⟩ : ∃ W2, (w.alloc (.cells #[va, vk] 41)).alloc (.cells #[.string key] 9) = W2 := ⟨_, rfl⟩
  have hb2 : Below w.heap.size w W2 := by rw [← hW2]; exact ((Below.refl _ w).alloc (Nat.le_refl _) _).alloc (by simp) _
  have h1 : W2.heap[w.heap.size]? = some (.cells #[va, vk] 41 (0, 0)) := by rw [← hW2]; exact (Below.heap_alloc _ _ _ (by simp)).trans (World.alloc_heap_new w _)
  have h2 : W2.heap[w.heap.size + 1]? = some (.cells #[.string key] 9 (0, 0)) := by rw [← hW2]; exact heap_alloc2_new w _ _
  obtain ⟨-, c1⟩ := key_cells h1
  have CI := Lib.hid (indexX_own vk k.2 key (w.heap.size + 1) W2 (rK.below hb2) hl (by simp [World.cell?, h2]))
  obtain ⟨a2, p2, rfl, -⟩ := rK
  obtain ⟨a1, p1, rfl, -⟩ := rA
  clear h1 h2
  go_enter Try.func90, Try.ntmps90
  go_upto_region 1 with fail
  clear hW2
  go_wp2_with (go_at_call 117; (with_reducible refine CI.out.mono ?_); rintro e w5 ⟨rfl, hb5⟩)
  go_ret
  exact ⟨rfl, hb2.trans (hb5.mono hb2.size)⟩
end Go.Proofs.Ytgdcdijdpflmdaa
