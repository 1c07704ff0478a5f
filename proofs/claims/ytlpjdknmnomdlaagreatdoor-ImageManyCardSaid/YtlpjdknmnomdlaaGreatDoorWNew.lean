/-
  Package table: what may be a table, Find, Bytes, New.
-/
import Derived.Test.YtlpjdknmnomdlaaGreatDoorWSeq
import Derived.Test.YtlpjdknmnomdlaaGreatDoorWRound
namespace Go.Proofs.YtlpjdknmnomdlaaGreatDoor
open Go Go.RowKit

attribute [local go_sem] Oper.semAt_some

/-- An error of this package, of a kind, at a place. -/
def FaultW (W : World) (v : Value) (k p : Int) : Prop := ∃ b, v = .iface 114 (.pointer (some ⟨b, 0, none⟩)) ∧ W.heap[b]? = some (faultObj p ⟨#[116, 97, 98, 108, 101]⟩ (.iface 50 (.int .i64 k)))
theorem FaultW.below {W W' : World} {v : Value} {k p : Int} (h : FaultW W v k p) (hb : Below W.heap.size W W') : FaultW W' v k p := by
  obtain ⟨b, rfl, h⟩ := h
  exact ⟨b, rfl, (hb.block b (lt_of_block h)).trans h⟩
theorem FaultW.grown {W W' : World} {v : Value} {k p : Int} {row : Option Nat} (h : FaultW W v k p) (hg : W.grownBy W' row) (hr : ∀ r, row = some r → ∃ o : Obj, W.heap[r]? = some o ∧ o.isCells = false) : FaultW W' v k p := by
  obtain ⟨b, rfl, h⟩ := h
  refine ⟨b, rfl, (hg.block b (lt_of_block h) (fun e => ?_)).trans h⟩
  obtain ⟨o, h1, h2⟩ := hr b e.symm
  rw [h] at h1
  cases h1
  cases h2
theorem FaultW.new (k p : Int) (w : World) : FaultW (w.alloc (faultObj p ⟨#[116, 97, 98, 108, 101]⟩ (.iface 50 (.int .i64 k)))) (.iface 114 (.pointer (some ⟨w.heap.size, 0, none⟩))) k p := ⟨_, rfl, World.alloc_heap_new _ _⟩
theorem newW_any (k p : Int) (w : World) (hk : (k == 0) = false) :
    Calls Tryz.prog 62 #[.int .i64 k, .int .i64 p, .string ⟨#[116, 97, 98, 108, 101]⟩] w fun e w' => ∃ v, e = .returned v ∧ (FaultW w' v k p ∧ Below w.heap.size w w') :=
  (new_any k p _ w hk).mono fun e w' ⟨h1, h2⟩ => ⟨_, h1, by rw [← h2]; exact ⟨FaultW.new k p w, (Below.refl _ w).alloc (Nat.le_refl _) _⟩⟩
theorem FaultW.iface {W : World} {v : Value} {k p : Int} (h : FaultW W v k p) : ∃ t u, v = .iface t u := by
  obtain ⟨b, rfl, _⟩ := h; exact ⟨_, _, rfl⟩

set_option maxRecDepth 100000 in
theorem sizesW_ok (W K : Nat) (w : World) (h1 : 0 < K) (h2 : K ≤ W) (h3 : W ≤ 255) : Calls Tryz.prog 150 #[.int .i64 (W : Int), .int .i64 (K : Int)] w fun e w' => e = .returned .nilIface ∧ w = w' := by
  have a1 : decide ((K : Int) < 1) = false := decide_eq_false (by omega)
  have a2 : decide (W < K) = false := decide_eq_false (by omega)
  have a3 : decide ((255 : Int) < (W : Int)) = false := decide_eq_false (by omega)
  clear h1 h2 h3
  go_enter Tryz.func150, Tryz.ntmps150
  go_wp2
  go_ret
  exact ⟨rfl, rfl⟩
set_option maxRecDepth 100000 in
theorem sizesW_bad (W K : Int) (w : World) (h : K < 1 ∨ W < K ∨ 255 < W) : Calls Tryz.prog 150 #[.int .i64 W, .int .i64 K] w fun e w' => ∃ v, e = .returned v ∧ (FaultW w' v 1 0 ∧ Below w.heap.size w w') := by
  have HN := Lib.hid (newW_any 1 0 w (by decide))
  by_cases h1 : K < 1
  · have a1 : decide (K < 1) = true := decide_eq_true h1
    clear h
    go_enter Tryz.func150, Tryz.ntmps150
    go_wp2_with (go_at_call 62; (with_reducible refine HN.out.mono ?_); rintro e w' ⟨v, rfl, hv⟩; obtain ⟨t, u, rfl⟩ := hv.1.iface; have HV := Lib.hid hv; clear hv)
    go_ret
    exact ⟨_, rfl, HV.out⟩
  · have a1 : decide (K < 1) = false := decide_eq_false h1
    by_cases h2 : W < K
    · have a2 : decide (W < K) = true := decide_eq_true h2
      clear h h1
      go_enter Tryz.func150, Tryz.ntmps150
      go_wp2_with (go_at_call 62; (with_reducible refine HN.out.mono ?_); rintro e w' ⟨v, rfl, hv⟩; obtain ⟨t, u, rfl⟩ := hv.1.iface; have HV := Lib.hid hv; clear hv)
      go_ret
      exact ⟨_, rfl, HV.out⟩
    · have a2 : decide (W < K) = false := decide_eq_false h2
      have a3 : decide (255 < W) = true := decide_eq_true (by omega)
      clear h h1 h2
      go_enter Tryz.func150, Tryz.ntmps150
      go_wp2_with (go_at_call 62; (with_reducible refine HN.out.mono ?_); rintro e w' ⟨v, rfl, hv⟩; obtain ⟨t, u, rfl⟩ := hv.1.iface; have HV := Lib.hid hv; clear hv)
      go_ret
      exact ⟨_, rfl, HV.out⟩

set_option maxRecDepth 100000 in
theorem bytesW_none (w : World) : Calls Tryz.prog 109 #[.pointer none] w fun e w' => e = .returned (.string ⟨#[]⟩) ∧ w = w' := by
  go_enter Tryz.func109, Tryz.ntmps109
  go_wp2
  go_ret
  exact ⟨rfl, rfl⟩
set_option maxRecDepth 100000 in
theorem bytesW_any {b W K : Nat} {s : ByteArray} (w : World) (h : w.heap[b]? = some (tabObj W K s)) : Calls Tryz.prog 109 #[.pointer (some ⟨b, 0, none⟩)] w fun e w' => e = .returned (.string s) ∧ w = w' := by
  obtain ⟨c0, c1, c2⟩ := tab_cells h
  clear h
  go_enter Tryz.func109, Tryz.ntmps109
  go_wp2
  go_ret
  exact ⟨rfl, rfl⟩

end Go.Proofs.YtlpjdknmnomdlaaGreatDoor
