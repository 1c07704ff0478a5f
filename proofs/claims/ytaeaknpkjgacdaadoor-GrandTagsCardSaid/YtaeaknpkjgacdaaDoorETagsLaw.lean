/-
  GrandTags: it returns true.
-/
import Derived.Test.YtaeaknpkjgacdaaDoorEKit
import Derived.Test.YtaeaknpkjgacdaaDoorDRefC
namespace Go.Proofs.YtaeaknpkjgacdaaDoor
open Go Go.RowKit

theorem tag_pieces (k : Nat) (hk : k < 26) : 2 ≤ (splS (nameG k)).length ∧ (splS (nameG k)).length ≤ 4 ∧ chkS (nameG k) = none := name_all (fun k => 2 ≤ (splS (nameG k)).length ∧ (splS (nameG k)).length ≤ 4 ∧ chkS (nameG k) = none) (by decide +kernel) k hk
theorem tag_first (k : Nat) (hk : k < 26) : ((splS (nameG k)).getD 0 ByteArray.empty).size = 2 ∨ ((splS (nameG k)).getD 0 ByteArray.empty).size = 3 ∨ (((splS (nameG k)).getD 0 ByteArray.empty).size = 1 ∧ regG k = false) :=
  name_all (fun k => ((splS (nameG k)).getD 0 ByteArray.empty).size = 2 ∨ ((splS (nameG k)).getD 0 ByteArray.empty).size = 3 ∨ (((splS (nameG k)).getD 0 ByteArray.empty).size = 1 ∧ regG k = false)) (by decide +kernel) k hk

set_option maxHeartbeats 1000000 in
theorem tags_law (n : Int) (w : World) (_hn : (Lit.int .i64 n).wf = true) (hg : GL w) :
    Calls Tryd.prog 6 #[.int .i64 n] w fun e w' => e = .returned (.bool true) ∧ Below w.heap.size w w' := by
  have hgs := hg.size
  have AW := Lib.hid (awake5_any w hg)
  obtain ⟨k, hk⟩ : ∃ k, restV n 26 = k := ⟨_, rfl⟩
  have hk26 : k < 26 := hk ▸ restV_lt n 26 (by omega)
  have RS := Lib.hid (fun w5 => show Calls Tryd.prog 11 #[.int .i64 n, .int .i64 26] w5 fun e w' => e = .returned (.int .i64 (k : Int)) ∧ w5 = w' by
    have := rest5_any n 26 w5 (by omega) (by omega)
    rwa [hk] at this)
  obtain ⟨hp1, hp2, hp3⟩ := tag_pieces k hk26
  have hf := tag_first k hk26
  have hpl : placeE (nameG k) = -1 := by unfold placeE; rw [hp3]
  have NA := Lib.hid (fun w5 (hb5 : Below w.heap.size w w5) => (name_any k w5 (hg.below hb5 hgs)).mono (R' := fun e w6 => e = .returned (.tuple #[.string (nameG k), .bool true]) ∧ Below w.heap.size w w6) fun e w6 ⟨p, q⟩ => ⟨by rw [p, nameV_in k hk26], hb5.trans (q.mono hb5.size)⟩)
  have RE := Lib.hid (fun w5 (hb5 : Below w.heap.size w w5) => (regular_in k hk26 w5 (hg.below hb5 hgs)).mono (R' := fun e w6 => e = .returned (.bool (regG k)) ∧ Below w.heap.size w w6) fun e w6 ⟨p, q⟩ => ⟨p, q ▸ hb5⟩)
  have hsz := (name_size k hk26).2
  have LO := Lib.hid (fun w5 => (lower_ref (nameG k) w5 (by omega)).mono (R' := fun e w6 => e = .returned (.string (nameG k)) ∧ Below w5.heap.size w5 w6) fun e w6 ⟨p, q⟩ => ⟨by rw [p, name_low k hk26], q⟩)
  have SP := Lib.hid (fun w5 => split_ref (nameG k) w5 (by omega))
  have CH := Lib.hid (fun w5 => (check_ref (nameG k) w5 (by omega)).mono (R' := fun e w6 => e = .returned (.agg #[.int .i64 (kindE (nameG k)), .int .i64 (-1)]) ∧ Below w5.heap.size w5 w6) fun e w6 ⟨p, q⟩ => ⟨by rw [p, hpl], q⟩)
  obtain ⟨m, hm⟩ : ∃ m, (splS (nameG k)).length = m + 1 := ⟨(splS (nameG k)).length - 1, by omega⟩
  have HM := Lib.hid hm
  have hm1 : ¬ (m : Int) + 1 < 2 := by omega
  have hm2 : (0 : Int) ≤ (m : Int) := by omega
  have hm3 : (m : Int) ≤ 3 := by omega
  have hm4 : (0 : Int) < (m : Int) + 1 := by omega
  rw [hm] at SP
  obtain ⟨p, hp⟩ : ∃ p, (splS (nameG k)).getD 0 ByteArray.empty = p := ⟨_, rfl⟩
  rw [hp] at hf
  have hp0 : (splS (nameG k))[0]? = some p := by
    rw [List.getD_eq_getElem?_getD, List.getElem?_eq_getElem (by omega)] at hp
    rw [List.getElem?_eq_getElem (by omega)]
    exact congrArg some hp
  generalize splS (nameG k) = l at *
  generalize kindE (nameG k) = ke at *
  have HP0 := Lib.hid hp0
  clear hg hk hp1 hp2 hp3 hpl hsz hp hp0 hm
  generalize nameG k = t at *
  generalize regG k = r at *
  have hfi : ∀ w : World, (Instr.field 44 (.agg #[.int .i64 ke, .int .i64 (-1)]) 1).run Tryd.prog w = .ok (.int .i64 (-1)) w := fun _ => by kernel_rfl
  rcases hf with h2 | h3 | ⟨h1, rfl⟩
  · have h2i : (p.size : Int) = 2 := by omega
    clear h2
    go_enter Tryd.func6, Tryd.ntmps6
    go_wp2_with (first
      | (go_at_call 8; (with_reducible refine AW.out.mono ?_); rintro e w1 ⟨rfl, hb1⟩)
      | (go_at_call 18; (with_reducible refine (len_any _).mono ?_); rintro e w2 ⟨rfl, rfl⟩)
      | (go_at_call 11; (with_reducible refine (RS.out _).mono ?_); rintro e w2 ⟨rfl, rfl⟩)
      | (go_at_call 16; (with_reducible refine (NA.out _ hb1).mono ?_); rintro e w3 ⟨rfl, hb3⟩)
      | (go_at_call 19; ((with_reducible refine (SP.out _).mono ?_); rintro e w4 ⟨u, rfl, ho, hb4⟩; obtain ⟨g, cap, rfl⟩ := ownsRow_succ ho; have hc4 := own_cell ho 0 p HP0.out; have hg4 : g < w4.heap.size := (ho.lt g rfl).2; have hB4 := hb3.trans (hb4.mono hb3.size); clear ho))
      | (go_at_call 20; (with_reducible refine (LO.out _).mono ?_); rintro e w5 ⟨rfl, hb5⟩; have hc5 := (hb5.cell (p := ⟨g, 0, none⟩) hg4).trans hc4; have hg5 := Nat.lt_of_lt_of_le hg4 hb5.size; have hB5 := hB4.trans (hb5.mono hB4.size))
      | (go_at_call 21; (with_reducible refine (CH.out _).mono ?_); rintro e w6 ⟨rfl, hb6⟩; have hc6 := (hb6.cell (p := ⟨g, 0, none⟩) hg5).trans hc5; have hB6 := hB5.trans (hb6.mono hB5.size))
      | (go_at_call 22; (with_reducible refine (RE.out _ hB6).mono ?_); rintro e w7 ⟨rfl, hB7⟩))
    go_ret
    exact ⟨rfl, by assumption⟩
  · have h2i : (p.size : Int) = 3 := by omega
    clear h3
    go_enter Tryd.func6, Tryd.ntmps6
    go_wp2_with (first
      | (go_at_call 8; (with_reducible refine AW.out.mono ?_); rintro e w1 ⟨rfl, hb1⟩)
      | (go_at_call 18; (with_reducible refine (len_any _).mono ?_); rintro e w2 ⟨rfl, rfl⟩)
      | (go_at_call 11; (with_reducible refine (RS.out _).mono ?_); rintro e w2 ⟨rfl, rfl⟩)
      | (go_at_call 16; (with_reducible refine (NA.out _ hb1).mono ?_); rintro e w3 ⟨rfl, hb3⟩)
      | (go_at_call 19; ((with_reducible refine (SP.out _).mono ?_); rintro e w4 ⟨u, rfl, ho, hb4⟩; obtain ⟨g, cap, rfl⟩ := ownsRow_succ ho; have hc4 := own_cell ho 0 p HP0.out; have hg4 : g < w4.heap.size := (ho.lt g rfl).2; have hB4 := hb3.trans (hb4.mono hb3.size); clear ho))
      | (go_at_call 20; (with_reducible refine (LO.out _).mono ?_); rintro e w5 ⟨rfl, hb5⟩; have hc5 := (hb5.cell (p := ⟨g, 0, none⟩) hg4).trans hc4; have hg5 := Nat.lt_of_lt_of_le hg4 hb5.size; have hB5 := hB4.trans (hb5.mono hB4.size))
      | (go_at_call 21; (with_reducible refine (CH.out _).mono ?_); rintro e w6 ⟨rfl, hb6⟩; have hc6 := (hb6.cell (p := ⟨g, 0, none⟩) hg5).trans hc5; have hB6 := hB5.trans (hb6.mono hB5.size))
      | (go_at_call 22; (with_reducible refine (RE.out _ hB6).mono ?_); rintro e w7 ⟨rfl, hB7⟩))
    go_ret
    exact ⟨rfl, by assumption⟩
  · have h2i : (p.size : Int) = 1 := by omega
    clear h1
    go_enter Tryd.func6, Tryd.ntmps6
    go_wp2_with (first
      | (go_at_call 8; (with_reducible refine AW.out.mono ?_); rintro e w1 ⟨rfl, hb1⟩)
      | (go_at_call 18; (with_reducible refine (len_any _).mono ?_); rintro e w2 ⟨rfl, rfl⟩)
      | (go_at_call 11; (with_reducible refine (RS.out _).mono ?_); rintro e w2 ⟨rfl, rfl⟩)
      | (go_at_call 16; (with_reducible refine (NA.out _ hb1).mono ?_); rintro e w3 ⟨rfl, hb3⟩)
      | (go_at_call 19; ((with_reducible refine (SP.out _).mono ?_); rintro e w4 ⟨u, rfl, ho, hb4⟩; obtain ⟨g, cap, rfl⟩ := ownsRow_succ ho; have hc4 := own_cell ho 0 p HP0.out; have hg4 : g < w4.heap.size := (ho.lt g rfl).2; have hB4 := hb3.trans (hb4.mono hb3.size); clear ho))
      | (go_at_call 20; (with_reducible refine (LO.out _).mono ?_); rintro e w5 ⟨rfl, hb5⟩; have hc5 := (hb5.cell (p := ⟨g, 0, none⟩) hg4).trans hc4; have hg5 := Nat.lt_of_lt_of_le hg4 hb5.size; have hB5 := hB4.trans (hb5.mono hB4.size))
      | (go_at_call 21; (with_reducible refine (CH.out _).mono ?_); rintro e w6 ⟨rfl, hb6⟩; have hc6 := (hb6.cell (p := ⟨g, 0, none⟩) hg5).trans hc5; have hB6 := hB5.trans (hb6.mono hB5.size))
      | (go_at_call 22; (with_reducible refine (RE.out _ hB6).mono ?_); rintro e w7 ⟨rfl, hB7⟩))
    go_ret
    exact ⟨rfl, by assumption⟩
end Go.Proofs.YtaeaknpkjgacdaaDoor
