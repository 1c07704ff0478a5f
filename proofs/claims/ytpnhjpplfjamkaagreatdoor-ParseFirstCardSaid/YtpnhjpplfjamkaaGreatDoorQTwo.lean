/-
  The document's reader (isoglossref07): what is wrong where it stands, what is there twice.
-/
import Derived.Test.YtpnhjpplfjamkaaGreatDoorQReader
import Derived.StillTailTactics
namespace Go.Proofs.YtpnhjpplfjamkaaGreatDoor
open Go Go.RowKit

theorem got_store {w : World} {B : Nat} {t : TypeId} {a0 a1 a2 a3 a4 a5 a6 a7 a8 a9 a10 : Value} (h : w.heap[B]? = some (.cells #[a0, a1, a2, a3, a4, a5, a6, a7, a8, a9, a10] t (0, 0))) (b0 b1 b2 b3 b4 b5 b6 b7 b8 b9 b10 : Value) :
    (((((((((((w.setCell ⟨B, 0, none⟩ b0).setCell ⟨B, 1, none⟩ b1).setCell ⟨B, 2, none⟩ b2).setCell ⟨B, 3, none⟩ b3).setCell ⟨B, 4, none⟩ b4).setCell ⟨B, 5, none⟩ b5).setCell ⟨B, 6, none⟩ b6).setCell ⟨B, 7, none⟩ b7).setCell ⟨B, 8, none⟩ b8).setCell ⟨B, 9, none⟩ b9).setCell ⟨B, 10, none⟩ b10).heap[B]? = some (.cells #[b0, b1, b2, b3, b4, b5, b6, b7, b8, b9, b10] t (0, 0)) := by
  have e0 : (w.setCell ⟨B, 0, none⟩ b0).heap[B]? = some (.cells #[b0, a1, a2, a3, a4, a5, a6, a7, a8, a9, a10] t (0, 0)) := cells_set h b0
  have e1 : ((w.setCell ⟨B, 0, none⟩ b0).setCell ⟨B, 1, none⟩ b1).heap[B]? = some (.cells #[b0, b1, a2, a3, a4, a5, a6, a7, a8, a9, a10] t (0, 0)) := cells_set e0 b1
  have e2 : (((w.setCell ⟨B, 0, none⟩ b0).setCell ⟨B, 1, none⟩ b1).setCell ⟨B, 2, none⟩ b2).heap[B]? = some (.cells #[b0, b1, b2, a3, a4, a5, a6, a7, a8, a9, a10] t (0, 0)) := cells_set e1 b2
  have e3 : ((((w.setCell ⟨B, 0, none⟩ b0).setCell ⟨B, 1, none⟩ b1).setCell ⟨B, 2, none⟩ b2).setCell ⟨B, 3, none⟩ b3).heap[B]? = some (.cells #[b0, b1, b2, b3, a4, a5, a6, a7, a8, a9, a10] t (0, 0)) := cells_set e2 b3
  have e4 : (((((w.setCell ⟨B, 0, none⟩ b0).setCell ⟨B, 1, none⟩ b1).setCell ⟨B, 2, none⟩ b2).setCell ⟨B, 3, none⟩ b3).setCell ⟨B, 4, none⟩ b4).heap[B]? = some (.cells #[b0, b1, b2, b3, b4, a5, a6, a7, a8, a9, a10] t (0, 0)) := cells_set e3 b4
  have e5 : ((((((w.setCell ⟨B, 0, none⟩ b0).setCell ⟨B, 1, none⟩ b1).setCell ⟨B, 2, none⟩ b2).setCell ⟨B, 3, none⟩ b3).setCell ⟨B, 4, none⟩ b4).setCell ⟨B, 5, none⟩ b5).heap[B]? = some (.cells #[b0, b1, b2, b3, b4, b5, a6, a7, a8, a9, a10] t (0, 0)) := cells_set e4 b5
  have e6 : (((((((w.setCell ⟨B, 0, none⟩ b0).setCell ⟨B, 1, none⟩ b1).setCell ⟨B, 2, none⟩ b2).setCell ⟨B, 3, none⟩ b3).setCell ⟨B, 4, none⟩ b4).setCell ⟨B, 5, none⟩ b5).setCell ⟨B, 6, none⟩ b6).heap[B]? = some (.cells #[b0, b1, b2, b3, b4, b5, b6, a7, a8, a9, a10] t (0, 0)) := cells_set e5 b6
  have e7 : ((((((((w.setCell ⟨B, 0, none⟩ b0).setCell ⟨B, 1, none⟩ b1).setCell ⟨B, 2, none⟩ b2).setCell ⟨B, 3, none⟩ b3).setCell ⟨B, 4, none⟩ b4).setCell ⟨B, 5, none⟩ b5).setCell ⟨B, 6, none⟩ b6).setCell ⟨B, 7, none⟩ b7).heap[B]? = some (.cells #[b0, b1, b2, b3, b4, b5, b6, b7, a8, a9, a10] t (0, 0)) := cells_set e6 b7
  have e8 : (((((((((w.setCell ⟨B, 0, none⟩ b0).setCell ⟨B, 1, none⟩ b1).setCell ⟨B, 2, none⟩ b2).setCell ⟨B, 3, none⟩ b3).setCell ⟨B, 4, none⟩ b4).setCell ⟨B, 5, none⟩ b5).setCell ⟨B, 6, none⟩ b6).setCell ⟨B, 7, none⟩ b7).setCell ⟨B, 8, none⟩ b8).heap[B]? = some (.cells #[b0, b1, b2, b3, b4, b5, b6, b7, b8, a9, a10] t (0, 0)) := cells_set e7 b8
  have e9 : ((((((((((w.setCell ⟨B, 0, none⟩ b0).setCell ⟨B, 1, none⟩ b1).setCell ⟨B, 2, none⟩ b2).setCell ⟨B, 3, none⟩ b3).setCell ⟨B, 4, none⟩ b4).setCell ⟨B, 5, none⟩ b5).setCell ⟨B, 6, none⟩ b6).setCell ⟨B, 7, none⟩ b7).setCell ⟨B, 8, none⟩ b8).setCell ⟨B, 9, none⟩ b9).heap[B]? = some (.cells #[b0, b1, b2, b3, b4, b5, b6, b7, b8, b9, a10] t (0, 0)) := cells_set e8 b9
  have e10 : (((((((((((w.setCell ⟨B, 0, none⟩ b0).setCell ⟨B, 1, none⟩ b1).setCell ⟨B, 2, none⟩ b2).setCell ⟨B, 3, none⟩ b3).setCell ⟨B, 4, none⟩ b4).setCell ⟨B, 5, none⟩ b5).setCell ⟨B, 6, none⟩ b6).setCell ⟨B, 7, none⟩ b7).setCell ⟨B, 8, none⟩ b8).setCell ⟨B, 9, none⟩ b9).setCell ⟨B, 10, none⟩ b10).heap[B]? = some (.cells #[b0, b1, b2, b3, b4, b5, b6, b7, b8, b9, b10] t (0, 0)) := cells_set e9 b10
  exact e10
theorem got_cells {w : World} {B : Nat} {t : TypeId} {a0 a1 a2 a3 a4 a5 a6 a7 a8 a9 a10 : Value} (h : w.heap[B]? = some (.cells #[a0, a1, a2, a3, a4, a5, a6, a7, a8, a9, a10] t (0, 0))) :
    w.cell? ⟨B, 0, none⟩ = some a0 ∧ w.cell? ⟨B, 1, none⟩ = some a1 ∧ w.cell? ⟨B, 2, none⟩ = some a2 ∧ w.cell? ⟨B, 3, none⟩ = some a3 ∧ w.cell? ⟨B, 4, none⟩ = some a4 ∧ w.cell? ⟨B, 5, none⟩ = some a5 ∧ w.cell? ⟨B, 6, none⟩ = some a6 ∧ w.cell? ⟨B, 7, none⟩ = some a7 ∧ w.cell? ⟨B, 8, none⟩ = some a8 ∧ w.cell? ⟨B, 9, none⟩ = some a9 ∧ w.cell? ⟨B, 10, none⟩ = some a10 := by
  refine ⟨rd_cell 0 h rfl, rd_cell 1 h rfl, rd_cell 2 h rfl, rd_cell 3 h rfl, rd_cell 4 h rfl, rd_cell 5 h rfl, rd_cell 6 h rfl, rd_cell 7 h rfl, rd_cell 8 h rfl, rd_cell 9 h rfl, rd_cell 10 h rfl⟩
theorem got_frozen {w : World} {B : Nat} {t : TypeId} {cs : Array Value} (h : w.heap[B]? = some (.cells cs t (0, 0))) :
    w.frozen? ⟨B, 0, none⟩ = false ∧ w.frozen? ⟨B, 1, none⟩ = false ∧ w.frozen? ⟨B, 2, none⟩ = false ∧ w.frozen? ⟨B, 3, none⟩ = false ∧ w.frozen? ⟨B, 4, none⟩ = false ∧ w.frozen? ⟨B, 5, none⟩ = false ∧ w.frozen? ⟨B, 6, none⟩ = false ∧ w.frozen? ⟨B, 7, none⟩ = false ∧ w.frozen? ⟨B, 8, none⟩ = false ∧ w.frozen? ⟨B, 9, none⟩ = false ∧ w.frozen? ⟨B, 10, none⟩ = false :=
  ⟨cells_frozen 0 h, cells_frozen 1 h, cells_frozen 2 h, cells_frozen 3 h, cells_frozen 4 h, cells_frozen 5 h, cells_frozen 6 h, cells_frozen 7 h, cells_frozen 8 h, cells_frozen 9 h, cells_frozen 10 h⟩
/-- What the document's parser says of an error: its kind, its place, what. -/
def gotV (x : PErr) : Value := .agg #[.string ⟨#[]⟩, .slice none 0 0, .string ⟨#[]⟩, .string ⟨#[]⟩, .slice none 0 0, .slice none 0 0, .slice none 0 0, .string ⟨#[]⟩, .int .i64 x.1, .int .i64 (x.2.1 : Int), .string x.2.2]
theorem gotSize : (Tryz.prog.info? 54).map (·.size) = some 11 := by kernel_rfl

set_option maxRecDepth 100000 in
set_option maxHeartbeats 2000000 in
theorem twice_ref {W : World} {B g cap : Nat} {s : ByteArray} {k : Nat} (h : RefRd W B g cap s k) (what : ByteArray) (hk : k < (pieces s).length) :
    Calls Tryz.prog 53 #[.pointer (some ⟨B, 0, none⟩), .string what] W fun e w' => e = .returned (gotV (twiceP s k what)) ∧ Below W.heap.size W w' := by
  obtain ⟨c0, c1, c2⟩ := h.cells
  obtain ⟨x, hx⟩ : ∃ x, (pieces s)[k]? = some x := ⟨_, List.getElem?_eq_getElem hk⟩
  have e1 := (h.row k x hx).1
  have hi0 : (0 : Int) ≤ (k : Int) := by omega
  have hi1 : (k : Int) < ((pieces s).length : Int) := by omega
  have ht : twiceP s k what = (11, x.1, what) := by unfold twiceP; rw [hx]
  rw [ht]
  have hlB := lt_of_heap h.blk
  have hlg := h.lt
  clear h c2 hx ht hk
  generalize (pieces s).length = n at *
  generalize x.1 = a at *
  go_enter Tryz.func53, Tryz.ntmps53
  go_wp2
  obtain ⟨WG, hWG⟩ : ∃ W', W.alloc (.cells #[.string ⟨#[]⟩, .slice none 0 0, .string ⟨#[]⟩, .string ⟨#[]⟩, .slice none 0 0, .slice none 0 0, .slice none 0 0, .string ⟨#[]⟩, .int .i64 0, .int .i64 0, .string ⟨#[]⟩] 54) = W' := ⟨_, rfl⟩
  have hb : Below W.heap.size W WG := by rw [← hWG]; exact (Below.refl _ _).alloc (Nat.le_refl _) _
  have hG : WG.heap[W.heap.size]? = some (.cells #[.string ⟨#[]⟩, .slice none 0 0, .string ⟨#[]⟩, .string ⟨#[]⟩, .slice none 0 0, .slice none 0 0, .slice none 0 0, .string ⟨#[]⟩, .int .i64 0, .int .i64 0, .string ⟨#[]⟩] 54 (0, 0)) := by rw [← hWG]; exact World.alloc_heap_new W _
  have d0 := (hb.cell (p := ⟨B, 0, none⟩) hlB).trans c0
  have d1 := (hb.cell (p := ⟨B, 1, none⟩) hlB).trans c1
  have d2 := (hb.cell (p := ⟨g, k * 2, none⟩) hlg).trans e1
  have f0 : WG.drew.cell? ⟨B, 0, none⟩ = _ := d0
  have f1 : WG.drew.cell? ⟨B, 1, none⟩ = _ := d1
  have f2 : WG.drew.cell? ⟨g, k * 2, none⟩ = _ := d2
  rw [hWG]
  clear hWG
  have HGD : WG.drew.heap[W.heap.size]? = _ := hG
  have HBD : Below W.heap.size W WG.drew := Below.drew hb
  go_still_tail 13, (by kernel_rfl)
  change wpList _ _ _ _ _ WG.drew
  generalize WG.drew = W2 at *
  obtain ⟨k0, k1, k2, k3, k4, k5, k6, k7, k8, k9, k10⟩ := got_cells HGD
  obtain ⟨z0, z1, z2, z3, z4, z5, z6, z7, z8, z9, z10⟩ := got_frozen HGD
  go_wp2_with fail
  have e1 := got_store HGD (.string ⟨#[]⟩) (.slice none 0 0) (.string ⟨#[]⟩) (.string ⟨#[]⟩) (.slice none 0 0) (.slice none 0 0) (.slice none 0 0) (.string ⟨#[]⟩) (.int .i64 11) (.int .i64 (a : Int)) (.string what)
  refine bodyPost_ret (results_cell_row rfl _ _ W.heap.size 54 _ (0, 0) _ rfl e1 Tryz.underlying54 rfl gotSize) rfl ?_
  exact ⟨rfl, (((((((((((HBD.setCell (Nat.le_refl _) _).setCell (Nat.le_refl _) _).setCell (Nat.le_refl _) _).setCell (Nat.le_refl _) _).setCell (Nat.le_refl _) _).setCell (Nat.le_refl _) _).setCell (Nat.le_refl _) _).setCell (Nat.le_refl _) _).setCell (Nat.le_refl _) _).setCell (Nat.le_refl _) _).setCell (Nat.le_refl _) _)⟩

set_option maxRecDepth 100000 in
set_option maxHeartbeats 2000000 in
theorem wrong_ref {W : World} {B g cap : Nat} {s : ByteArray} {k : Nat} (h : RefRd W B g cap s k) :
    Calls Tryz.prog 48 #[.pointer (some ⟨B, 0, none⟩)] W fun e w' => e = .returned (gotV (wrongP s k)) ∧ Below W.heap.size W w' := by
  obtain ⟨c0, c1, c2⟩ := h.cells
  have hi0 : (0 : Int) ≤ (k : Int) := by omega
  have hlB := lt_of_heap h.blk
  rcases Nat.lt_or_ge k (pieces s).length with hlt | hge
  · obtain ⟨x, hx⟩ : ∃ x, (pieces s)[k]? = some x := ⟨_, List.getElem?_eq_getElem hlt⟩
    have e1 := (h.row k x hx).1
    have hi1 : (k : Int) < ((pieces s).length : Int) := by omega
    have hi2 : ¬ ((pieces s).length : Int) ≤ (k : Int) := by omega
    have ht : wrongP s k = (10, x.1, sSub) := by unfold wrongP; rw [hx]
    rw [ht]
    have hlg := h.lt
    clear h hx ht hlt
    generalize (pieces s).length = n at *
    generalize x.1 = a at *
    go_enter Tryz.func48, Tryz.ntmps48
    go_wp2
    obtain ⟨WG, hWG⟩ : ∃ W', W.alloc (.cells #[.string ⟨#[]⟩, .slice none 0 0, .string ⟨#[]⟩, .string ⟨#[]⟩, .slice none 0 0, .slice none 0 0, .slice none 0 0, .string ⟨#[]⟩, .int .i64 0, .int .i64 0, .string ⟨#[]⟩] 54) = W' := ⟨_, rfl⟩
    have hb : Below W.heap.size W WG := by rw [← hWG]; exact (Below.refl _ _).alloc (Nat.le_refl _) _
    have hG : WG.heap[W.heap.size]? = some (.cells #[.string ⟨#[]⟩, .slice none 0 0, .string ⟨#[]⟩, .string ⟨#[]⟩, .slice none 0 0, .slice none 0 0, .slice none 0 0, .string ⟨#[]⟩, .int .i64 0, .int .i64 0, .string ⟨#[]⟩] 54 (0, 0)) := by rw [← hWG]; exact World.alloc_heap_new W _
    have d0 := (hb.cell (p := ⟨B, 0, none⟩) hlB).trans c0
    have d1 := (hb.cell (p := ⟨B, 1, none⟩) hlB).trans c1
    have d2 := (hb.cell (p := ⟨g, k * 2, none⟩) hlg).trans e1
    rw [hWG]
    clear hWG c0 c1 c2 e1
    go_quiet (fail)
    go_wp2
    obtain ⟨WD, hwd⟩ : ∃ x, WG.drewN nq = x := ⟨_, rfl⟩
    rw [hwd]
    have hGD : (WG.drewN nq).heap[W.heap.size]? = _ := hG
    have hBD : Below W.heap.size W (WG.drewN nq) := below_drewN hb _
    have g0 : (WG.drewN nq).cell? ⟨B, 0, none⟩ = _ := d0
    have g1 : (WG.drewN nq).cell? ⟨B, 1, none⟩ = _ := d1
    have g2 : (WG.drewN nq).cell? ⟨g, k * 2, none⟩ = _ := d2
    rw [hwd] at hGD hBD g0 g1 g2
    clear hwd d0 d1 d2 hG hb
    have f0 : WD.drew.cell? ⟨B, 0, none⟩ = _ := g0
    have f1 : WD.drew.cell? ⟨B, 1, none⟩ = _ := g1
    have f2 : WD.drew.cell? ⟨g, k * 2, none⟩ = _ := g2
    have HGD : WD.drew.heap[W.heap.size]? = _ := hGD
    have HBD : Below W.heap.size W WD.drew := Below.drew hBD
    go_still_tail 12, (by kernel_rfl)
    change wpList _ _ _ _ _ WD.drew
    generalize WD.drew = W2 at *
    obtain ⟨k0, k1, k2, k3, k4, k5, k6, k7, k8, k9, k10⟩ := got_cells HGD
    obtain ⟨z0, z1, z2, z3, z4, z5, z6, z7, z8, z9, z10⟩ := got_frozen HGD
    go_wp2_with fail
    have e1 := got_store HGD (.string ⟨#[]⟩) (.slice none 0 0) (.string ⟨#[]⟩) (.string ⟨#[]⟩) (.slice none 0 0) (.slice none 0 0) (.slice none 0 0) (.string ⟨#[]⟩) (.int .i64 10) (.int .i64 (a : Int)) (.string sSub)
    refine bodyPost_ret (results_cell_row rfl _ _ W.heap.size 54 _ (0, 0) _ rfl e1 Tryz.underlying54 rfl gotSize) rfl ?_
    exact ⟨rfl, (((((((((((HBD.setCell (Nat.le_refl _) _).setCell (Nat.le_refl _) _).setCell (Nat.le_refl _) _).setCell (Nat.le_refl _) _).setCell (Nat.le_refl _) _).setCell (Nat.le_refl _) _).setCell (Nat.le_refl _) _).setCell (Nat.le_refl _) _).setCell (Nat.le_refl _) _).setCell (Nat.le_refl _) _).setCell (Nat.le_refl _) _)⟩
  · have hi2 : ((pieces s).length : Int) ≤ (k : Int) := by omega
    have ht : wrongP s k = (10, s.size, sEnd) := by unfold wrongP; rw [List.getElem?_eq_none hge]
    rw [ht]
    clear h ht hge
    generalize (pieces s).length = n at *
    go_enter Tryz.func48, Tryz.ntmps48
    go_wp2
    obtain ⟨WG, hWG⟩ : ∃ W', W.alloc (.cells #[.string ⟨#[]⟩, .slice none 0 0, .string ⟨#[]⟩, .string ⟨#[]⟩, .slice none 0 0, .slice none 0 0, .slice none 0 0, .string ⟨#[]⟩, .int .i64 0, .int .i64 0, .string ⟨#[]⟩] 54) = W' := ⟨_, rfl⟩
    have hb : Below W.heap.size W WG := by rw [← hWG]; exact (Below.refl _ _).alloc (Nat.le_refl _) _
    have hG : WG.heap[W.heap.size]? = some (.cells #[.string ⟨#[]⟩, .slice none 0 0, .string ⟨#[]⟩, .string ⟨#[]⟩, .slice none 0 0, .slice none 0 0, .slice none 0 0, .string ⟨#[]⟩, .int .i64 0, .int .i64 0, .string ⟨#[]⟩] 54 (0, 0)) := by rw [← hWG]; exact World.alloc_heap_new W _
    have d0 := (hb.cell (p := ⟨B, 0, none⟩) hlB).trans c0
    have d1 := (hb.cell (p := ⟨B, 1, none⟩) hlB).trans c1
    have d2 := (hb.cell (p := ⟨B, 2, none⟩) hlB).trans c2
    rw [hWG]
    clear hWG c0 c1 c2
    obtain ⟨k0, k1, k2, k3, k4, k5, k6, k7, k8, k9, k10⟩ := got_cells hG
    obtain ⟨z0, z1, z2, z3, z4, z5, z6, z7, z8, z9, z10⟩ := got_frozen hG
    go_quiet (fail)
    go_wp2_with fail
    have HGD := fun m => (show (WG.drewN m).heap[W.heap.size]? = _ from hG)
    have e1 := got_store (HGD nq) (.string ⟨#[]⟩) (.slice none 0 0) (.string ⟨#[]⟩) (.string ⟨#[]⟩) (.slice none 0 0) (.slice none 0 0) (.slice none 0 0) (.string ⟨#[]⟩) (.int .i64 10) (.int .i64 (s.size : Int)) (.string sEnd)
    refine bodyPost_ret (results_cell_row rfl _ _ W.heap.size 54 _ (0, 0) _ rfl e1 Tryz.underlying54 rfl gotSize) rfl ?_
    exact ⟨rfl, ((((((((((((below_drewN hb nq).setCell (Nat.le_refl _) _).setCell (Nat.le_refl _) _).setCell (Nat.le_refl _) _).setCell (Nat.le_refl _) _).setCell (Nat.le_refl _) _).setCell (Nat.le_refl _) _).setCell (Nat.le_refl _) _).setCell (Nat.le_refl _) _).setCell (Nat.le_refl _) _).setCell (Nat.le_refl _) _).setCell (Nat.le_refl _) _)⟩
end Go.Proofs.YtpnhjpplfjamkaaGreatDoor
