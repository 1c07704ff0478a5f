/-
  Layer 6's statements: row.
-/
import Derived.Test.YtajdfckppnedjaaGreatDoorFTag
import Derived.Test.YtajdfckppnedjaaGreatDoorKinds
namespace Go.Proofs.YtajdfckppnedjaaGreatDoor
open Go Go.RowKit

/-- A row cut to 4 texts, of 12 bytes each. -/
def rowT (l : List ByteArray) : List ByteArray := (l.take 4).map cut12
theorem rowT_len (l : List ByteArray) : (rowT l).length ≤ 4 := by unfold rowT; rw [List.length_map, List.length_take]; omega

/-- A row of texts that came in, wherever it lies. -/
def RowA (W : World) (v : Value) (l : List ByteArray) : Prop :=
  ∃ ao cap, v = .slice ao l.length cap ∧ l.length ≤ maxLen ∧ ∀ i x, l[i]? = some x → ∃ b o, ao = some ⟨b, o, none⟩ ∧ W.cell? ⟨b, o + i, none⟩ = some (.string x) ∧ x.size ≤ maxLen
theorem RowA.below {W W' : World} {v : Value} {l : List ByteArray} (h : RowA W v l) (hb : Below W.heap.size W W') : RowA W' v l := by
  obtain ⟨ao, cap, rfl, hl, hc⟩ := h
  refine ⟨ao, cap, rfl, hl, fun i x hx => ?_⟩
  obtain ⟨b, o, h1, h2, h3⟩ := hc i x hx
  exact ⟨b, o, h1, (hb.cell (p := ⟨b, o + i, none⟩) (lt_of_cellF h2)).trans h2, h3⟩
/-- A row that the call itself has made, as a row. -/
theorem Row.of_own {w : World} {base : Nat} {u : Value} {l : List ByteArray} (h : w.ownsRow base 9 1 u l.length (strs l)) : Row w u l := by
  rcases owned_cases h with ⟨rfl, h0⟩ | ⟨g, cap, rfl⟩
  · obtain rfl : l = [] := List.eq_nil_of_length_eq_zero h0
    exact ⟨none, 0, rfl, fun i x hx => by simp at hx⟩
  · exact ⟨some ⟨g, 0, none⟩, cap, rfl, fun i x hx => ⟨g, rfl, own_cell h i x hx⟩⟩

set_option maxRecDepth 100000 in
set_option maxHeartbeats 2000000 in
theorem row_any (v : Value) (l : List ByteArray) (w : World) (hv : RowA w v l) :
    Calls Tryz.prog 43 #[v] w fun e w' => ∃ u, e = .returned u ∧ Acc w (rowT l) u w' := by
  obtain ⟨i0, hi, hz0, hz1, hz2⟩ := info_parts stringInfo
  obtain ⟨ao, cap, rfl, hl, hc⟩ := hv
  unfold maxLen at hl
  have HC := Lib.hid hc
  clear hc
  go_enter Tryz.func43, Tryz.ntmps43
  go_wp2
  go_loopw [3, 4] (fun o i wr => ∃ k : Nat, k ≤ l.length ∧ k ≤ 4 ∧ i = .int .i64 (k : Int) ∧ Acc w ((l.take k).map cut12) o wr) (fun _ i _ => 5 - (intOf i).toNat)
  case atStart => exact ⟨0, Nat.zero_le _, by omega, rfl, Acc.start w⟩
  case round =>
    obtain ⟨k, hk, hk4, rfl, HA⟩ := hrel
    have hsz := HA.2.size
    by_cases hlt : k < l.length
    · have hki : (k : Int) < (l.length : Int) := by omega
      have hd : decide ((k : Int) < (l.length : Int)) = true := decide_eq_true hki
      by_cases hlt4 : k < 4
      · have hki4 : (k : Int) < 4 := by omega
        have hk0 : (0 : Int) ≤ (k : Int) := by omega
        obtain ⟨x, hx⟩ : ∃ x, l[k]? = some x := ⟨_, List.getElem?_eq_getElem hlt⟩
        obtain ⟨b, o, rfl, h1, h2⟩ := HC.out k x hx
        have hcx := (HA.2.cell (p := ⟨b, o + k, none⟩) (lt_of_cellF h1)).trans h1
        have SH := Lib.hid (fun w5 => short12_any x w5 h2)
        have hlen : ((l.take k).map cut12).length ≤ 4 := by rw [List.length_map, List.length_take]; omega
        have HS := Lib.hid (show (l.take (k + 1)).map cut12 = (l.take k).map cut12 ++ [cut12 x] by rw [take_next hx, List.map_append]; rfl)
        clear hx h1
        generalize cut12 x = y at *
        go_wp2_with (first | (go_at_call 42; (with_reducible refine (SH.out _).mono ?_); rintro e w' ⟨rfl, rfl⟩) | (at_builtin; refine wpList_append_own _ rfl _ _ 22 rfl w.heap.size 9 i0 (.string ByteArray.empty) 1 16 Tryz.underlying22 hi hz0 hz1 hz2 rfl (by decide) _ _ _ rfl (HA.1.alloc _) ⟨_, 0, none⟩ 1 1 [.string y] rfl rfl (cell_one_new _ _ _) (by intro u hu; simp at hu; subst hu; rfl) (by unfold maxLen; omega) (by omega) (by simp; omega) ?_; intro v' w2 hown1 hgrow _))
        go_roundw
        case rel => exact ⟨k + 1, by omega, by omega, by go_num, by rw [HS.out]; exact HA.push hown1 hgrow⟩
        case measure => simp [intOf]; omega
      · obtain rfl : k = 4 := by omega
        go_wp2
        go_ret
        exact ⟨_, rfl, HA⟩
    · have hki : ¬ (k : Int) < (l.length : Int) := by omega
      have hd : decide ((k : Int) < (l.length : Int)) = false := decide_eq_false hki
      have HR := Lib.hid (show rowT l = (l.take k).map cut12 by unfold rowT; rw [List.take_of_length_le (by omega), List.take_of_length_le (by omega)])
      go_wp2
      go_ret
      exact ⟨_, rfl, by rw [HR.out]; exact HA⟩
end Go.Proofs.YtajdfckppnedjaaGreatDoor
