/-
  rows of layer 11's statements, whatever the bits.
-/
import Derived.Test.YtbkbnkpgldemkaaGreatDoorWRows
import Derived.Laws.Concat
namespace Go.Proofs.YtbkbnkpgldemkaaGreatDoor
open Go Go.RowKit

set_option maxRecDepth 100000 in
set_option maxHeartbeats 2000000 in
/-- rows, whatever the bits. -/
theorem rows11_bits (v : Value) (l : List ByteArray) (W : Nat) (bits : Int) (w : World) (hW : W ≤ 9) (hv : RowW w v l) (hs : ∀ x ∈ l, x.size ≤ maxLen) :
    Calls Tryz.prog 8 #[v, .int .i64 (W : Int), .int .i64 bits] w fun e w' => ∃ a R c, e = .returned (.slice a R.length c) ∧ (RowW w' (.slice a R.length c) R ∧ R.length ≤ 12 ∧ (∀ x ∈ R, x.size ≤ 9) ∧ Below w.heap.size w w') := by
  obtain ⟨i0, hi, hz0, hz1, hz2⟩ := info_parts stringInfo
  have HF := Lib.hid (few11_any v l w hv hs)
  obtain ⟨ao, cap, rfl, -⟩ := hv
  have hlen := fewW_len 12 l
  have hsize := Lib.hid (fewW_size 12 l)
  clear hs
  have hw0 : (0 : Int) ≤ (W : Int) := by omega
  have hw9 : (W : Int) ≤ 9 := by omega
  go_enter Tryz.func8, Tryz.ntmps8
  go_wp2_with (go_at_call 15; (with_reducible refine HF.out.mono ?_); rintro e w1 ⟨u, rfl, hu⟩; have HU := Lib.hid hu; have HR1 := Lib.hid (RowW.of_own hu.1); obtain ⟨ao1, cap1, hsl⟩ := (RowW.of_own hu.1).slice; subst hsl; clear hu)
  generalize fewW 12 l = F at *
  go_loopw [7, 9] (fun o i wr => ∃ (k : Nat) (LL : List ByteArray), k ≤ F.length ∧ i = .int .i64 (k : Int) ∧ LL.length = k ∧ Hid (∀ x ∈ LL, x.size ≤ 9) ∧ Hid (AccW w1 LL o wr)) (fun _ i _ => 13 - (intOf i).toNat)
  case atStart => exact ⟨0, [], Nat.zero_le _, rfl, rfl, Lib.hid (fun x hx => by simp at hx), Lib.hid (AccW.start w1)⟩
  case round =>
    obtain ⟨k, LL, hk, rfl, hLL, HSZ, HA⟩ := hrel
    by_cases hlt : k < F.length
    · have hki : (k : Int) < (F.length : Int) := by omega
      have hd : decide (k < F.length) = true := decide_eq_true hlt
      have hk0 : (0 : Int) ≤ (k : Int) := by omega
      have hk1 : (k : Int) ≤ 12 := by omega
      obtain ⟨x, hx⟩ : ∃ x, F[k]? = some x := ⟨_, List.getElem?_eq_getElem hlt⟩
      obtain ⟨ao', cap', e', hc⟩ := HR1.out
      injection e' with a1 a2 a3
      subst a1
      subst a3
      obtain ⟨b, o, rfl, h1⟩ := hc k x hx
      have h2 := hsize.out x (List.mem_of_getElem? hx)
      have hcx := (HA.out.2.cell (p := ⟨b, o + k, none⟩) (lt_of_cellW h1)).trans h1
      have hlen2 : LL.length ≤ 12 := by omega
      have hsz := HA.out.2.size
      clear hx h1 hc
      have hmn : min (W : Int) 9 = (W : Int) := by omega
      have hku : IntKind.u64.wrap (k : Int) = (k : Int) := by simp [IntKind.wrap, IntKind.bits, IntKind.signed]; omega
      obtain ⟨z, hz⟩ : ∃ z, Go.bits BinOp.and IntKind.i64 (bits / 2 ^ k) 1 = z := ⟨_, rfl⟩
      have hq : ¬ 9223372036854775807 < x.size + 9 := by omega
      have hqw : (W : Int) ≤ (x.size : Int) + 9 := by omega
      by_cases hz9 : z = 0
      · subst hz9
        go_wp2_with (at_builtin; refine wpList_append_own _ rfl _ _ 22 rfl w1.heap.size 9 i0 (.string ByteArray.empty) 1 16 Tryz.underlying22 hi hz0 hz1 hz2 rfl (by decide) _ _ _ rfl (HA.out.1.alloc _) ⟨_, 0, none⟩ 1 1 [.string (fillW W x)] rfl rfl (cell_oneW _ _ _) (by intro u hu; simp at hu; subst hu; rfl) (by unfold maxLen; omega) (by omega) (by simp; omega) ?_; intro v' w2 hown1 hgrow _; have HP := Lib.hid (HA.out.push hown1 hgrow); obtain ⟨g', cap2, hsl⟩ := ownsRow_succ hown1; subst hsl; clear hown1 hgrow)
        go_roundw
        case rel => exact ⟨k + 1, LL ++ [fillW W x], by omega, by go_num, by rw [List.length_append, hLL]; rfl, Lib.hid (fun y hy => by
          rcases List.mem_append.1 hy with hy | hy
          · exact HSZ.out y hy
          · rw [List.mem_singleton.1 hy]; rw [fillW_size x hW]; exact hW), Lib.hid (by have := HP.out; rwa [hLL] at this)⟩
        case measure => simp [intOf]; omega
      · have hz8 : (z == 0) = false := by rw [beq_eq_false_iff_ne]; exact hz9
        go_wp2_with (at_builtin; refine wpList_append_own _ rfl _ _ 22 rfl w1.heap.size 9 i0 (.string ByteArray.empty) 1 16 Tryz.underlying22 hi hz0 hz1 hz2 rfl (by decide) _ _ _ rfl (HA.out.1.alloc _) ⟨_, 0, none⟩ 1 1 [.string (x)] rfl rfl (cell_oneW _ _ _) (by intro u hu; simp at hu; subst hu; rfl) (by unfold maxLen; omega) (by omega) (by simp; omega) ?_; intro v' w2 hown1 hgrow _; have HP := Lib.hid (HA.out.push hown1 hgrow); obtain ⟨g', cap2, hsl⟩ := ownsRow_succ hown1; subst hsl; clear hown1 hgrow)
        go_roundw
        case rel => exact ⟨k + 1, LL ++ [x], by omega, by go_num, by rw [List.length_append, hLL]; rfl, Lib.hid (fun y hy => by
          rcases List.mem_append.1 hy with hy | hy
          · exact HSZ.out y hy
          · rw [List.mem_singleton.1 hy]; exact h2), Lib.hid (by have := HP.out; rwa [hLL] at this)⟩
        case measure => simp [intOf]; omega
    · obtain rfl : k = F.length := by omega
      have hd : decide (F.length < F.length) = false := decide_eq_false (by omega)
      have hl9 : LL.length ≤ 12 := by omega
      clear hLL
      obtain ⟨ao2, cap2, hsl⟩ := (RowW.of_own HA.out.1).slice
      subst hsl
      go_wp2
      go_ret
      exact ⟨_, _, _, rfl, RowW.of_own HA.out.1, hl9, HSZ.out, HU.out.2.trans (HA.out.2.mono HU.out.2.size)⟩
end Go.Proofs.YtbkbnkpgldemkaaGreatDoor
