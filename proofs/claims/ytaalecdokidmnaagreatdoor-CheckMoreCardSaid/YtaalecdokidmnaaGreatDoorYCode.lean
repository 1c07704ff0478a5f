/-
  Package alias: unpacked, Encode, Decode, Key.
-/
import Derived.Test.YtaalecdokidmnaaGreatDoorYRights
namespace Go.Proofs.YtaalecdokidmnaaGreatDoor
open Go Go.RowKit

/-! pack.Get beyond the text's end. -/
/-! unpacked. -/
theorem sizeAl : (Tryz.prog.info? 37).map (·.size) = some 6 := by kernel_rfl

theorem frozenY {W : World} {g : Nat} {cs : Array Value} {t : TypeId} (h : W.heap[g]? = some (.cells cs t (0, 0))) (k : Nat) : W.frozen? ⟨g, k, none⟩ = false := by
  simp [World.frozen?, h]
theorem cellAtY {W : World} {g : Nat} {cs : Array Value} {t : TypeId} (h : W.heap[g]? = some (.cells cs t (0, 0))) (k : Nat) (v : Value) (hv : cs[k]? = some v) : W.cell? ⟨g, k, none⟩ = some v := by
  rw [← hv]; simp [World.cell?, h]
theorem al_store {w : World} {B : Nat} {t : TypeId} {a0 a1 a2 a3 a4 a5 : Value} (h : w.heap[B]? = some (.cells #[a0, a1, a2, a3, a4, a5] t (0, 0))) (b0 b1 b2 b3 b4 b5 : Value) :
    ((((((w.setCell ⟨B, 0, none⟩ b0).setCell ⟨B, 1, none⟩ b1).setCell ⟨B, 2, none⟩ b2).setCell ⟨B, 3, none⟩ b3).setCell ⟨B, 4, none⟩ b4).setCell ⟨B, 5, none⟩ b5).heap[B]? = some (.cells #[b0, b1, b2, b3, b4, b5] t (0, 0)) ∧
    ∀ B0, B0 ≤ B → Below B0 w ((((((w.setCell ⟨B, 0, none⟩ b0).setCell ⟨B, 1, none⟩ b1).setCell ⟨B, 2, none⟩ b2).setCell ⟨B, 3, none⟩ b3).setCell ⟨B, 4, none⟩ b4).setCell ⟨B, 5, none⟩ b5) := by
  have e0 : (w.setCell ⟨B, 0, none⟩ b0).heap[B]? = some (.cells #[b0, a1, a2, a3, a4, a5] t (0, 0)) := setY h b0
  have e1 : ((w.setCell ⟨B, 0, none⟩ b0).setCell ⟨B, 1, none⟩ b1).heap[B]? = some (.cells #[b0, b1, a2, a3, a4, a5] t (0, 0)) := setY e0 b1
  have e2 : (((w.setCell ⟨B, 0, none⟩ b0).setCell ⟨B, 1, none⟩ b1).setCell ⟨B, 2, none⟩ b2).heap[B]? = some (.cells #[b0, b1, b2, a3, a4, a5] t (0, 0)) := setY e1 b2
  have e3 : ((((w.setCell ⟨B, 0, none⟩ b0).setCell ⟨B, 1, none⟩ b1).setCell ⟨B, 2, none⟩ b2).setCell ⟨B, 3, none⟩ b3).heap[B]? = some (.cells #[b0, b1, b2, b3, a4, a5] t (0, 0)) := setY e2 b3
  have e4 : (((((w.setCell ⟨B, 0, none⟩ b0).setCell ⟨B, 1, none⟩ b1).setCell ⟨B, 2, none⟩ b2).setCell ⟨B, 3, none⟩ b3).setCell ⟨B, 4, none⟩ b4).heap[B]? = some (.cells #[b0, b1, b2, b3, b4, a5] t (0, 0)) := setY e3 b4
  have e5 : ((((((w.setCell ⟨B, 0, none⟩ b0).setCell ⟨B, 1, none⟩ b1).setCell ⟨B, 2, none⟩ b2).setCell ⟨B, 3, none⟩ b3).setCell ⟨B, 4, none⟩ b4).setCell ⟨B, 5, none⟩ b5).heap[B]? = some (.cells #[b0, b1, b2, b3, b4, b5] t (0, 0)) := setY e4 b5
  exact ⟨e5, fun B0 hB => ((((((Below.refl B0 w).setCell (p := ⟨B, 0, none⟩) hB b0).setCell (p := ⟨B, 1, none⟩) hB b1).setCell (p := ⟨B, 2, none⟩) hB b2).setCell (p := ⟨B, 3, none⟩) hB b3).setCell (p := ⟨B, 4, none⟩) hB b4).setCell (p := ⟨B, 5, none⟩) hB b5⟩
theorem al_cells {W : World} {B : Nat} {a b c d e f : Value} {t : TypeId} (h : W.heap[B]? = some (.cells #[a, b, c, d, e, f] t (0, 0))) :
    (W.cell? ⟨B, 0, none⟩ = some a ∧ W.cell? ⟨B, 1, none⟩ = some b ∧ W.cell? ⟨B, 2, none⟩ = some c ∧ W.cell? ⟨B, 3, none⟩ = some d ∧ W.cell? ⟨B, 4, none⟩ = some e ∧ W.cell? ⟨B, 5, none⟩ = some f) ∧
    (W.frozen? ⟨B, 0, none⟩ = false ∧ W.frozen? ⟨B, 1, none⟩ = false ∧ W.frozen? ⟨B, 2, none⟩ = false ∧ W.frozen? ⟨B, 3, none⟩ = false ∧ W.frozen? ⟨B, 4, none⟩ = false ∧ W.frozen? ⟨B, 5, none⟩ = false) := by
  constructor
  · exact cells6 h
  · simp [World.frozen?, h]
/-! Encode, Decode, Key. -/
def encS (x : Al) : ByteArray := if rightA x then rowB x else ⟨#[]⟩
set_option maxRecDepth 100000 in
set_option maxHeartbeats 4000000 in
theorem encode_al (x : Al) (w : World) (hx : AlS x) (hg : GL w) :
    Calls Tryz.prog 78 #[.agg #[.int .i64 x.k, .string x.a, .string x.b, .string x.l, .string x.s, .string x.r]] w fun e w' => e = .returned (.tuple #[.string (encS x), .bool (rightA x)]) ∧ Below w.heap.size w w' := by
  have hgs := hg.size
  obtain ⟨W1, hW1⟩ : ∃ W1, w.alloc (.cells #[.int .i64 x.k, .string x.a, .string x.b, .string x.l, .string x.s, .string x.r] 37) = W1 := ⟨_, rfl⟩
  have hb1 : Below w.heap.size w W1 := by rw [← hW1]; exact (Below.refl _ w).alloc (Nat.le_refl _) _
  have hA : W1.heap[w.heap.size]? = some (.cells #[.int .i64 x.k, .string x.a, .string x.b, .string x.l, .string x.s, .string x.r] 37 (0, 0)) := by rw [← hW1]; exact World.alloc_heap_new w _
  have hc6 := Lib.hid (fun w' (hb : Below W1.heap.size W1 w') => cells6 ((hb.block _ (lt_of_block hA)).trans hA))
  have hB0 := Lib.hid (fun w' (hb : Below W1.heap.size W1 w') => hb1.trans (hb.mono hb1.size))
  have HR := Lib.hid (right_al x W1 hx (hg.below hb1 hgs))
  have c0 := cells6 hA
  cases hr : rightA x with
  | false =>
    have HE := Lib.hid (show encS x = ⟨#[]⟩ by unfold encS; rw [hr]; rfl)
    rw [hr] at HR
    clear hr hA hb1 hx hg
    obtain ⟨a0, a1, a2, a3, a4, a5⟩ := c0
    go_enter Tryz.func78, Tryz.ntmps78
    go_upto_region 1 with fail
    clear hW1
    go_wp2_with (go_at_call 122; (with_reducible refine HR.out.mono ?_); rintro e w5 ⟨rfl, hb5⟩)
    go_ret2
    rw [HE.out]
    exact ⟨rfl, hB0.out _ hb5⟩
  | true =>
    have hk := right_kind hr
    have hp := okP_right hr
    have HE := Lib.hid (show encS x = rowB x by unfold encS; rw [hr]; rfl)
    have HP := Lib.hid (fun w' (hb : Below W1.heap.size W1 w') => (packed_al x w' (alZ_of hx ⟨by omega, by omega⟩)).mono (R' := fun e w'' => e = .returned (.tuple #[.string (rowB x), .bool true]) ∧ Below W1.heap.size W1 w'') fun e w'' ⟨p, q⟩ => ⟨by rw [p]; unfold packS; rw [hp]; rfl, hb.trans (q.mono hb.size)⟩)
    rw [hr] at HR
    clear hr hA hb1 hx hg hp hk
    obtain ⟨a0, a1, a2, a3, a4, a5⟩ := c0
    go_enter Tryz.func78, Tryz.ntmps78
    go_upto_region 1 with fail
    clear hW1
    go_wp2_with (first
      | (go_at_call 122; (with_reducible refine HR.out.mono ?_); rintro e w5 ⟨rfl, hb5⟩; obtain ⟨e0, e1, e2, e3, e4, e5⟩ := hc6.out _ hb5)
      | (go_at_call 123; (with_reducible refine (HP.out _ hb5).mono ?_); rintro e w6 ⟨rfl, hb6⟩))
    go_ret2
    rw [HE.out]
    exact ⟨rfl, hB0.out _ hb6⟩

/-! Key. -/
end Go.Proofs.YtaalecdokidmnaaGreatDoor
