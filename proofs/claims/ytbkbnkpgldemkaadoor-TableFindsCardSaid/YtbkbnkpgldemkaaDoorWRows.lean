/-
  Layer 11's statements: rows cut (Few), rows filled up.
-/
import Derived.Test.YtbkbnkpgldemkaaDoorWAwake
import Derived.Deep.AppendLies
namespace Go.Proofs.YtbkbnkpgldemkaaDoor
open Go Go.RowKit

def cutNine (s : ByteArray) : ByteArray := if 9 < s.size then s.extract 0 9 else s
theorem cutNine_size (s : ByteArray) : (cutNine s).size ≤ 9 := by
  unfold cutNine
  split
  · rw [ByteArray.size_extract]; omega
  · omega
def fewW (n : Nat) (l : List ByteArray) : List ByteArray := (l.take n).map cutNine
theorem fewW_len (n : Nat) (l : List ByteArray) : (fewW n l).length ≤ n := by unfold fewW; rw [List.length_map, List.length_take]; omega
theorem fewW_size (n : Nat) (l : List ByteArray) : ∀ x ∈ fewW n l, x.size ≤ 9 := by
  intro x hx
  unfold fewW at hx
  obtain ⟨y, _, rfl⟩ := List.mem_map.1 hx
  exact cutNine_size y
def fillW (W : Nat) (s : ByteArray) : ByteArray := (s ++ (⟨#[48, 48, 48, 48, 48, 48, 48, 48, 48]⟩ : ByteArray)).extract 0 W
theorem fillW_size {W : Nat} (s : ByteArray) (h : W ≤ 9) : (fillW W s).size = W := by
  unfold fillW
  rw [ByteArray.size_extract, ByteArray.size_append]
  have : (⟨#[48, 48, 48, 48, 48, 48, 48, 48, 48]⟩ : ByteArray).size = 9 := rfl
  omega
def rowsT (W : Nat) (l : List ByteArray) : List ByteArray := (fewW 12 l).map (fillW W)
theorem rowsT_len (W : Nat) (l : List ByteArray) : (rowsT W l).length ≤ 12 := by unfold rowsT; rw [List.length_map]; exact fewW_len 12 l
theorem rowsT_size {W : Nat} (l : List ByteArray) (h : W ≤ 9) : ∀ x ∈ rowsT W l, x.size = W := by
  intro x hx
  unfold rowsT at hx
  obtain ⟨y, _, rfl⟩ := List.mem_map.1 hx
  exact fillW_size y h

set_option maxRecDepth 100000 in
set_option maxHeartbeats 2000000 in
theorem few11_any (v : Value) (l : List ByteArray) (w : World) (hv : RowW w v l) (hs : ∀ x ∈ l, x.size ≤ maxLen) :
    Calls Tryd.prog 22 #[v, .int .i64 12] w fun e w' => ∃ u, e = .returned u ∧ (w'.ownsRow w.heap.size 9 1 u (fewW 12 l).length (strsW (fewW 12 l)) ∧ Below w.heap.size w w') := by
  obtain ⟨i0, hi, hz0, hz1, hz2⟩ := info_parts stringInfo
  obtain ⟨ao, cap, rfl, hc⟩ := hv
  have HC := Lib.hid hc
  have HS := Lib.hid hs
  clear hc hs
  go_enter Tryd.func22, Tryd.ntmps22
  go_wp2
  go_loopw [5, 6] (fun o i wr => ∃ k : Nat, k ≤ l.length ∧ k ≤ 12 ∧ i = .int .i64 (k : Int) ∧ AccW w (fewW k l) o wr) (fun _ i _ => 13 - (intOf i).toNat)
  case atStart => exact ⟨0, Nat.zero_le _, by omega, rfl, AccW.start w⟩
  case round =>
    obtain ⟨k, hk, hk4, rfl, HA⟩ := hrel
    have hsz := HA.2.size
    by_cases hlt : k < l.length
    · have hki : (k : Int) < (l.length : Int) := by omega
      have hd : decide ((k : Int) < (l.length : Int)) = true := decide_eq_true hki
      by_cases hlt4 : k < 12
      · have hki4 : (k : Int) < 12 := by omega
        have hk0 : (0 : Int) ≤ (k : Int) := by omega
        obtain ⟨x, hx⟩ : ∃ x, l[k]? = some x := ⟨_, List.getElem?_eq_getElem hlt⟩
        obtain ⟨b, o, rfl, h1⟩ := HC.out k x hx
        have h2 := HS.out x (List.mem_of_getElem? hx)
        unfold maxLen at h2
        have hcx := (HA.2.cell (p := ⟨b, o + k, none⟩) (lt_of_cellW h1)).trans h1
        have hlen : (fewW k l).length ≤ 100 := by have := fewW_len k l; omega
        have HST := Lib.hid (show fewW (k + 1) l = fewW k l ++ [cutNine x] by unfold fewW; rw [take_nextW hx, List.map_append]; rfl)
        by_cases h9 : 9 < x.size
        · have HE := Lib.hid (show cutNine x = x.extract 0 9 by unfold cutNine; rw [if_pos h9])
          have h' : (9 : Int) < (x.size : Int) := by omega
          have h'' : (9 : Int) ≤ (x.size : Int) := by omega
          clear hx h1
          generalize fewW k l = L at *
          go_wp2_with (at_builtin; refine wpList_append_own _ rfl _ _ 22 rfl w.heap.size 9 i0 (.string ByteArray.empty) 1 16 Tryd.underlying22 hi hz0 hz1 hz2 rfl (by decide) _ _ _ rfl (HA.1.alloc _) ⟨_, 0, none⟩ 1 1 [.string (x.extract 0 9)] rfl rfl (cell_oneW _ _ _) (by intro u hu; simp at hu; subst hu; rfl) (by unfold maxLen; omega) (by omega) (by simp; omega) ?_; intro v' w2 hown1 hgrow _)
          go_roundw
          case rel => exact ⟨k + 1, by omega, by omega, by go_num, by rw [HST.out, HE.out]; exact HA.push hown1 hgrow⟩
          case measure => simp [intOf]; omega
        · have HE := Lib.hid (show cutNine x = x by unfold cutNine; rw [if_neg h9])
          have h' : ¬ (9 : Int) < (x.size : Int) := by omega
          clear hx h1
          generalize fewW k l = L at *
          go_wp2_with (at_builtin; refine wpList_append_own _ rfl _ _ 22 rfl w.heap.size 9 i0 (.string ByteArray.empty) 1 16 Tryd.underlying22 hi hz0 hz1 hz2 rfl (by decide) _ _ _ rfl (HA.1.alloc _) ⟨_, 0, none⟩ 1 1 [.string x] rfl rfl (cell_oneW _ _ _) (by intro u hu; simp at hu; subst hu; rfl) (by unfold maxLen; omega) (by omega) (by simp; omega) ?_; intro v' w2 hown1 hgrow _)
          go_roundw
          case rel => exact ⟨k + 1, by omega, by omega, by go_num, by rw [HST.out, HE.out]; exact HA.push hown1 hgrow⟩
          case measure => simp [intOf]; omega
      · obtain rfl : k = 12 := by omega
        have hkn : ¬ ((12 : Nat) : Int) < 12 := by omega
        go_wp2
        go_ret
        exact ⟨_, rfl, HA⟩
    · have hki : ¬ (k : Int) < (l.length : Int) := by omega
      have hd : decide ((k : Int) < (l.length : Int)) = false := decide_eq_false hki
      have HR := Lib.hid (show fewW 12 l = fewW k l by unfold fewW; rw [List.take_of_length_le (by omega), List.take_of_length_le (by omega)])
      go_wp2
      go_ret
      exact ⟨_, rfl, by rw [HR.out]; exact HA⟩

set_option maxRecDepth 100000 in
set_option maxHeartbeats 2000000 in
/-- rows, with no bit set: all are filled up. -/
theorem rows11_zero (v : Value) (l : List ByteArray) (W : Nat) (w : World) (hW : W ≤ 9) (hv : RowW w v l) (hs : ∀ x ∈ l, x.size ≤ maxLen) :
    Calls Tryd.prog 10 #[v, .int .i64 (W : Int), .int .i64 0] w fun e w' => ∃ u, e = .returned u ∧ (w'.ownsRow w.heap.size 9 1 u (rowsT W l).length (strsW (rowsT W l)) ∧ Below w.heap.size w w') := by
  obtain ⟨i0, hi, hz0, hz1, hz2⟩ := info_parts stringInfo
  have HF := Lib.hid (few11_any v l w hv hs)
  obtain ⟨ao, cap, rfl, -⟩ := hv
  have hlen := fewW_len 12 l
  have hsize := Lib.hid (fewW_size 12 l)
  have HRT := Lib.hid (show rowsT W l = (fewW 12 l).map (fillW W) from rfl)
  clear hs
  have hw0 : (0 : Int) ≤ (W : Int) := by omega
  have hw9 : (W : Int) ≤ 9 := by omega
  go_enter Tryd.func10, Tryd.ntmps10
  go_wp2_with (go_at_call 22; (with_reducible refine HF.out.mono ?_); rintro e w1 ⟨u, rfl, hu⟩; have HU := Lib.hid hu; have HR1 := Lib.hid (RowW.of_own hu.1); obtain ⟨ao1, cap1, hsl⟩ := (RowW.of_own hu.1).slice; subst hsl; clear hu)
  generalize fewW 12 l = F at *
  go_loopw [7, 9] (fun o i wr => ∃ k : Nat, k ≤ F.length ∧ i = .int .i64 (k : Int) ∧ Hid (AccW w1 ((F.take k).map (fillW W)) o wr)) (fun _ i _ => 13 - (intOf i).toNat)
  case atStart => exact ⟨0, Nat.zero_le _, rfl, Lib.hid (AccW.start w1)⟩
  case round =>
    obtain ⟨k, hk, rfl, HA⟩ := hrel
    by_cases hlt : k < F.length
    · have hki : (k : Int) < (F.length : Int) := by omega
      have hd : decide (k < F.length) = true := decide_eq_true hlt
      have hk0 : (0 : Int) ≤ (k : Int) := by omega
      have hk1 : (k : Int) ≤ 12 := by omega
      obtain ⟨x, hx⟩ : ∃ x, F[k]? = some x := ⟨_, List.getElem?_eq_getElem hlt⟩
      obtain ⟨ao', cap', e', hc⟩ := HR1.out
      injection e' with a1 a2 a3
      subst a1
      subst a3
      obtain ⟨b, o, rfl, h1⟩ := hc k x hx
      have h2 := hsize.out x (List.mem_of_getElem? hx)
      have hcx := (HA.out.2.cell (p := ⟨b, o + k, none⟩) (lt_of_cellW h1)).trans h1
      have HST := Lib.hid (show (F.take (k + 1)).map (fillW W) = (F.take k).map (fillW W) ++ [fillW W x] by rw [take_nextW hx, List.map_append]; rfl)
      have hlen2 : ((F.take k).map (fillW W)).length ≤ 12 := by rw [List.length_map, List.length_take]; omega
      have hsz := HA.out.2.size
      clear hx h1 hc
      generalize (F.take k).map (fillW W) = LL at *
      have hmn : min (W : Int) 9 = (W : Int) := by omega
      go_wp2_with (at_builtin; refine wpList_append_own _ rfl _ _ 22 rfl w1.heap.size 9 i0 (.string ByteArray.empty) 1 16 Tryd.underlying22 hi hz0 hz1 hz2 rfl (by decide) _ _ _ rfl (HA.out.1.alloc _) ⟨_, 0, none⟩ 1 1 [.string (fillW W x)] rfl rfl (cell_oneW _ _ _) (by intro u hu; simp at hu; subst hu; rfl) (by unfold maxLen; omega) (by omega) (by simp; omega) ?_; intro v' w2 hown1 hgrow _; have HP := Lib.hid (HA.out.push hown1 hgrow); obtain ⟨g', cap2, hsl⟩ := ownsRow_succ hown1; subst hsl; clear hown1 hgrow)
      go_roundw
      case rel => exact ⟨k + 1, by omega, by go_num, Lib.hid (by rw [HST.out]; exact HP.out)⟩
      case measure => simp [intOf]; omega
    · obtain rfl : k = F.length := by omega
      have hd : decide (F.length < F.length) = false := decide_eq_false (by omega)
      have HX := Lib.hid (show AccW w1 (rowsT W l) u7 wr by have := HA.out; rwa [List.take_length, ← HRT.out] at this)
      obtain ⟨ao2, cap2, hsl⟩ := (RowW.of_own HX.out.1).slice
      go_wp2
      go_ret
      exact ⟨_, rfl, own_lowW HX.out.1 HU.out.2.size, HU.out.2.trans (HX.out.2.mono HU.out.2.size)⟩
end Go.Proofs.YtbkbnkpgldemkaaDoor
