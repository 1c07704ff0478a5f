/-
  Package likely: cmp.Or at texts, slices.Clone at texts and at extensions.
-/
import Derived.Test.YthjfcfhibdpbnaaTLadr
import Derived.BigRegion
import Derived.Deep.RegionHeld3
namespace Go.Proofs.Ythjfcfhibdpbnaa
open Go Go.RowKit

theorem und_listT : undT.toList = [117, 110, 100] := by rw [ByteArray.toList_eq]; rfl
theorem same_undT (s : ByteArray) : (s.toList == [117, 110, 100]) = decide (s = undT) := by
  rw [← und_listT]
  exact same_boolT s undT
set_option maxRecDepth 100000 in
theorem orT_any (a b : ByteArray) (g : Nat) (w : World) (h0 : w.cell? ⟨g, 0, none⟩ = some (.string a)) (h1 : w.cell? ⟨g, 1, none⟩ = some (.string b)) :
    Calls Try.prog 42 #[.slice (some ⟨g, 0, none⟩) 2 2] w fun e w' => e = .returned (.string (orT a b)) ∧ w' = w := by
  go_enter Try.func42, Try.ntmps42
  go_wp2_with fail
  go_loopw [8] (fun i wr => ∃ k : Nat, k ≤ 2 ∧ i = .int .i64 (k : Int) ∧ wr = w ∧ (0 < k → a.size = 0) ∧ (1 < k → b.size = 0)) (fun i _ => 2 - (intOf i).toNat)
  case atStart => exact ⟨0, by omega, rfl, rfl, fun h => by omega, fun h => by omega⟩
  case round =>
    obtain ⟨k, hk, rfl, rfl, ha, hb⟩ := hrel
    match k, hk, ha, hb with
    | 0, hk, ha, hb =>
      clear hk ha hb
      rcases Nat.eq_zero_or_pos a.size with h | h
      · obtain rfl := emptyT h
        clear h
        go_wp2_with fail
        go_roundw
        case rel => exact ⟨1, by omega, rfl, trivial, fun _ => rfl, fun h => by omega⟩
        case measure => simp [intOf]
      · have e1 := empty_false h
        have HO := Lib.hid (show orT a b = a by unfold orT; rw [if_neg (by omega)])
        clear h
        go_wp2_with fail
        go_ret
        exact ⟨by rw [HO.out]; rfl, rfl⟩
    | 1, hk, ha, hb =>
      have ha := ha (by omega)
      have HO := Lib.hid (show orT a b = b by unfold orT; rw [if_pos ha])
      clear hk hb ha
      rcases Nat.eq_zero_or_pos b.size with h | h
      · obtain rfl := emptyT h
        have HA := Lib.hid (show orT a ⟨#[]⟩ = ⟨#[]⟩ from HO.out)
        clear h
        go_wp2_with fail
        go_roundw
        case rel => exact ⟨2, by omega, rfl, trivial, fun _ => by have := HA.out; unfold orT at this; split at this; assumption; rw [this]; rfl, fun _ => rfl⟩
        case measure => simp [intOf]
      · have e1 := empty_false h
        clear h
        go_wp2_with fail
        go_ret
        exact ⟨by rw [HO.out]; rfl, rfl⟩
    | 2, hk, ha, hb =>
      have ha := ha (by omega)
      have hb := hb (by omega)
      obtain rfl := emptyT hb
      have HO := Lib.hid (show orT a ⟨#[]⟩ = ⟨#[]⟩ by unfold orT; rw [if_pos ha])
      clear hk ha hb
      go_wp2_with fail
      go_ret
      exact ⟨by rw [HO.out]; rfl, rfl⟩
    | k + 3, hk, _, _ => exact absurd hk (by omega)
end Go.Proofs.Ythjfcfhibdpbnaa
