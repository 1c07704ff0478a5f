/-
  The document's reader (isoglossref07): its block in memory, and its methods.
-/
import Derived.Test.YtpnhjpplfjamkaaGreatDoorQGram
import Derived.Test.YtpnhjpplfjamkaaGreatDoorPieceR
import Derived.Test.YtpnhjpplfjamkaaGreatDoorPHelp
import Derived.BigQuiet
namespace Go.Proofs.YtpnhjpplfjamkaaGreatDoor
open Go Go.RowKit

/-- The reader lies at B: pieces s in the row at g, the k-th at hand. -/
structure RefRd (W : World) (B g cap : Nat) (s : ByteArray) (k : Nat) : Prop where
  blk : W.heap[B]? = some (.cells #[.slice (some ⟨g, 0, none⟩) (pieces s).length cap, .int .i64 (k : Int), .int .i64 (s.size : Int)] 91 (0, 0))
  row : ∀ i x, (pieces s)[i]? = some x → W.cell? ⟨g, i * 2, none⟩ = some (.int .i64 (x.1 : Int)) ∧ W.cell? ⟨g, i * 2 + 1, none⟩ = some (.string x.2)
  lt : g < W.heap.size
theorem RefRd.below {W W' : World} {B g cap : Nat} {s : ByteArray} {k : Nat} (h : RefRd W B g cap s k) (hb : Below W.heap.size W W') : RefRd W' B g cap s k :=
  ⟨(hb.block _ (lt_of_heap h.blk)).trans h.blk, fun i x hx => ⟨(hb.cell (p := ⟨g, i * 2, none⟩) h.lt).trans (h.row i x hx).1, (hb.cell (p := ⟨g, i * 2 + 1, none⟩) h.lt).trans (h.row i x hx).2⟩, Nat.lt_of_lt_of_le h.lt hb.size⟩
theorem RefRd.cells {W : World} {B g cap : Nat} {s : ByteArray} {k : Nat} (h : RefRd W B g cap s k) : W.cell? ⟨B, 0, none⟩ = some (.slice (some ⟨g, 0, none⟩) (pieces s).length cap) ∧ W.cell? ⟨B, 1, none⟩ = some (.int .i64 (k : Int)) ∧ W.cell? ⟨B, 2, none⟩ = some (.int .i64 (s.size : Int)) :=
  ⟨rd_cell 0 h.blk rfl, rd_cell 1 h.blk rfl, rd_cell 2 h.blk rfl⟩

set_option maxRecDepth 100000 in
set_option maxHeartbeats 2000000 in
theorem here_ref {W : World} {B g cap : Nat} {s : ByteArray} {k : Nat} (h : RefRd W B g cap s k) (hs : s.size ≤ 1048576) (hk : k ≤ 1048577) :
    Calls Tryz.prog 46 #[.pointer (some ⟨B, 0, none⟩)] W fun e w' => e = .returned (.string (hereP (pieces s) k)) ∧ Below W.heap.size W w' := by
  obtain ⟨c0, c1, c2⟩ := h.cells
  have d0 : W.drew.cell? ⟨B, 0, none⟩ = _ := c0
  have d1 : W.drew.cell? ⟨B, 1, none⟩ = _ := c1
  have hB := Below.refl W.heap.size W
  have hn : (pieces s).length ≤ 1048577 := by have := splS_le s; rw [pieces_length]; omega
  rcases Nat.lt_or_ge k (pieces s).length with hlt | hge
  · obtain ⟨x, hx⟩ : ∃ x, (pieces s)[k]? = some x := ⟨_, List.getElem?_eq_getElem hlt⟩
    have e1 := (h.row k x hx).2
    have hxs : x.2.size ≤ s.size := splS_size s _ (by rw [← pieces_map]; exact List.mem_map.2 ⟨x, List.mem_of_getElem? hx, rfl⟩)
    have hi0 : (0 : Int) ≤ (k : Int) := by omega
    have hi1 : (k : Int) < ((pieces s).length : Int) := by omega
    have hi2 : ¬ ((pieces s).length : Int) ≤ (k : Int) := by omega
    have SB := Lib.hid (fun w5 => sub_ref x.2 w5 (by omega))
    have LO := Lib.hid (fun w5 => lower_ref x.2 w5 (by omega))
    have hh := here_some hx
    rw [hh]
    clear hh h c2 hx
    generalize (pieces s).length = n at *
    by_cases ho : okS x.2 = true
    · rw [if_pos ho]
      rw [ho] at SB
      clear ho
      generalize lowS x.2 = lx at *
      generalize x.2 = p at *
      go_enter Tryz.func46, Tryz.ntmps46
      go_wp2
      go_quiet (fail)
      go_wp2
      go_quiet (fail)
      go_wp2_with (first
        | (go_at_call 77; (with_reducible refine (SB.out _).mono ?_); rintro e w' ⟨rfl, rfl⟩)
        | (go_at_call 44; (with_reducible refine (LO.out _).mono ?_); rintro e w5 ⟨rfl, hb5⟩))
      go_ret
      exact ⟨rfl, (below_drewN hB _).trans (hb5.mono (Nat.le_refl _))⟩
    · rw [if_neg ho]
      rw [show okS x.2 = false by simpa using ho] at SB
      clear ho
      generalize x.2 = p at *
      go_enter Tryz.func46, Tryz.ntmps46
      go_wp2
      go_quiet (fail)
      go_wp2
      go_quiet (fail)
      go_wp2_with (first
        | (go_at_call 77; (with_reducible refine (SB.out _).mono ?_); rintro e w' ⟨rfl, rfl⟩))
      go_ret
      exact ⟨rfl, below_drewN hB _⟩
  · rw [here_none hge]
    have hi0 : (0 : Int) ≤ (k : Int) := by omega
    have hi2 : ((pieces s).length : Int) ≤ (k : Int) := by omega
    clear h c2
    generalize (pieces s).length = n at *
    go_enter Tryz.func46, Tryz.ntmps46
    go_wp2
    go_quiet (fail)
    go_wp2
    go_ret
    exact ⟨rfl, below_drewN hB _⟩

end Go.Proofs.YtpnhjpplfjamkaaGreatDoor
