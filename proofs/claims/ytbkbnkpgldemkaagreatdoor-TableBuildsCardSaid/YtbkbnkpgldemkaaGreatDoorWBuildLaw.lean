/-
  TableBuilds: its walk.
-/
import Derived.Test.YtbkbnkpgldemkaaGreatDoorWBuilds
import Derived.Test.YtbkbnkpgldemkaaGreatDoorWRowsB
import Derived.Test.YtbkbnkpgldemkaaGreatDoorWArgs
namespace Go.Proofs.YtbkbnkpgldemkaaGreatDoor
open Go Go.RowKit

set_option maxRecDepth 100000 in
set_option maxHeartbeats 8000000 in
theorem tableBuilds_law (v : Value) (l : List ByteArray) (s : ByteArray) (a0 a1 a2 a3 : Int) (w : World) (hv : TextsIn w v l) (hss : s.size ≤ maxLen) (hg : TypeLaid w) :
    Calls Tryz.prog 3 #[v, .string s, .agg #[.int .i64 a0, .int .i64 a1, .int .i64 a2, .int .i64 a3]] w fun e w' => e = .returned (.bool true) ∧ Below w.heap.size w w' := by
  obtain ⟨hrow, hls⟩ := rowW_texts hv
  have hW := restW_lt a0 10 (by omega)
  obtain ⟨W, hWe⟩ : ∃ c, restW a0 10 = c := ⟨_, rfl⟩
  rw [hWe] at hW
  obtain ⟨K, hKe⟩ : ∃ c, restW a1 10 = c := ⟨_, rfl⟩
  have hW9 : W ≤ 9 := by omega
  have RS0 := Lib.hid (fun w5 => show Calls Tryz.prog 5 #[.int .i64 a0, .int .i64 10] w5 fun e w' => e = .returned (.int .i64 (W : Int)) ∧ w5 = w' by
    have := rest11_any a0 10 w5 (by omega) (by omega)
    rwa [hWe] at this)
  have RS1 := Lib.hid (fun w5 => show Calls Tryz.prog 5 #[.int .i64 a1, .int .i64 10] w5 fun e w' => e = .returned (.int .i64 (K : Int)) ∧ w5 = w' by
    have := rest11_any a1 10 w5 (by omega) (by omega)
    rwa [hKe] at this)
  have AW := Lib.hid (fun w5 => awake11_any w5)
  have SH := Lib.hid (fun w5 => short11_any s w5 hss)
  obtain ⟨x, hx⟩ : ∃ x, cutW s = x := ⟨_, rfl⟩
  have hx60 : x.size ≤ 60 := by rw [← hx]; exact cutW_size s
  rw [hx] at SH
  obtain ⟨ao, cap, hsl, -⟩ := id hrow
  subst hsl
  obtain ⟨W0, hW0⟩ : ∃ W0, w.alloc (.cells #[.int .i64 a0, .int .i64 a1, .int .i64 a2, .int .i64 a3] 23) = W0 := ⟨_, rfl⟩
  have hb0 : Below w.heap.size w W0 := by rw [← hW0]; exact (Below.refl _ w).alloc (Nat.le_refl _) _
  have hh0 : W0.heap[w.heap.size]? = some (.cells #[.int .i64 a0, .int .i64 a1, .int .i64 a2, .int .i64 a3] 23 (0, 0)) := by rw [← hW0]; exact World.alloc_heap_new w _
  have HQ := Lib.hid (fun w5 (hb : Below W0.heap.size W0 w5) => show w5.cell? ⟨w.heap.size, 0, none⟩ = some (.int .i64 a0) ∧ w5.cell? ⟨w.heap.size, 1, none⟩ = some (.int .i64 a1) ∧ w5.cell? ⟨w.heap.size, 2, none⟩ = some (.int .i64 a2) from by
    have h := (hb.block _ (lt_of_block hh0)).trans hh0
    simp [World.cell?, h])
  have HTR := Lib.hid (fun (wa wb : World) (h1 : Below W0.heap.size W0 wa) (h2 : Below wa.heap.size wa wb) => h1.trans (h2.mono h1.size))
  have RW := Lib.hid (fun (bits : Int) w5 (hb : Below W0.heap.size W0 w5) => rows11_bits (.slice ao l.length cap) l W bits w5 hW9 (hrow.below (hb0.trans (hb.mono hb0.size))) hls)
  have TL := Lib.hid (fun w5 (hb : Below W0.heap.size W0 w5) => (hg.below hb0 hg.size).below hb (Nat.lt_of_lt_of_le hg.size hb0.size))
  have BU := Lib.hid (fun (wi ki : Int) (R : List ByteArray) (a : Option Addr) (c : Nat) w5 (hr : RowW w5 (.slice a R.length c) R) (hl : R.length ≤ 12) (h9 : ∀ x ∈ R, x.size ≤ 9) (hb : Below W0.heap.size W0 w5) => builds_any wi ki (.slice a R.length c) R w5 hr (by omega) (fun x hx => Nat.le_trans (h9 x hx) (by decide)) (TL.out w5 hb))
  have NE := Lib.hid (fun (wi ki : Int) w5 (hb : Below W0.heap.size W0 w5) => news_any wi ki x w5 (by omega) (TL.out w5 hb))
  have HB0 := Lib.hid hb0
  clear hv hls hg hWe hKe hW hh0 hb0 hx hrow
  go_enter Tryz.func3, Tryz.ntmps3
  go_wp2_with (go_at_call 4; (with_reducible refine (AW.out _).mono ?_); rintro e w1 ⟨rfl, hb1⟩; obtain ⟨q0, q1, q2⟩ := HQ.out _ hb1; have HB1 := Lib.hid hb1; clear hb1 hW0)
  go_wp2_with (go_at_call 5; (with_reducible refine (RS0.out _).mono ?_); rintro e w' ⟨rfl, rfl⟩)
  go_wp2_with (go_at_call 5; (with_reducible refine (RS1.out _).mono ?_); rintro e w' ⟨rfl, rfl⟩)
  go_upto_region 5 with (go_at_call 6; (with_reducible refine (SH.out _).mono ?_); rintro e w' ⟨rfl, rfl⟩)
  have hbd : Below W0.heap.size W0 w1.drew := Below.drew HB1.out
  obtain ⟨e0, e1, e2⟩ := HQ.out _ hbd
  clear q0 q1 q2
  go_region_held3 (fun w' => Below W0.heap.size W0 w' ∧ w'.cell? ⟨w.heap.size, 0, none⟩ = some (.int .i64 a0) ∧ w'.cell? ⟨w.heap.size, 1, none⟩ = some (.int .i64 a1) ∧ w'.cell? ⟨w.heap.size, 2, none⟩ = some (.int .i64 a2))
    (exact ⟨by assumption, by assumption, by assumption, by assumption⟩)
    (first
      | (go_at_call 8; (with_reducible refine (RW.out _ _ (by assumption)).mono ?_); rintro e w8 ⟨a8, R8, c8, rfl, hr8, hl8, h98, hb⟩; have gB := HTR.out _ _ (by assumption) hb; obtain ⟨g0, g1, g2⟩ := HQ.out _ gB; clear hb)
      | (go_at_call 7; (with_reducible refine (BU.out _ _ _ _ _ _ (by assumption) (by assumption) (by assumption) (by assumption)).mono ?_); rintro e w9 ⟨rfl, hb⟩; have gB := HTR.out _ _ (by assumption) hb; obtain ⟨g0, g1, g2⟩ := HQ.out _ gB; clear hb)
      | (go_at_call 9; (with_reducible refine (NE.out _ _ _ (by assumption)).mono ?_); rintro e w9 ⟨rfl, hb⟩; have gB := HTR.out _ _ (by assumption) hb; obtain ⟨g0, g1, g2⟩ := HQ.out _ gB; clear hb))
  all_goals
    go_wp2_with fail
    go_ret
    exact ⟨rfl, HB0.out.trans (gB.mono HB0.out.size)⟩
end Go.Proofs.YtbkbnkpgldemkaaGreatDoor
