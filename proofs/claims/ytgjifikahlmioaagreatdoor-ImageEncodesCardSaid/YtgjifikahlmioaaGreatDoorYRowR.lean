/-
  The document's answer for layer 12: texts, Row.
-/
import Derived.Test.YtgjifikahlmioaaGreatDoorYRefA
import Derived.Test.YtgjifikahlmioaaGreatDoorYCode
namespace Go.Proofs.YtgjifikahlmioaaGreatDoor
open Go Go.RowKit

theorem size5S : (Tryz.prog.info? 141).map (·.size) = some 5 := by kernel_rfl
set_option maxRecDepth 100000 in
set_option maxHeartbeats 1000000 in
theorem texts_ref (x : Al) (w : World) :
    Calls Tryz.prog 90 #[.agg #[.int .i64 x.k, .string x.a, .string x.b, .string x.l, .string x.s, .string x.r]] w fun e w' => e = .returned (.agg #[.string x.a, .string x.b, .string x.l, .string x.s, .string x.r]) ∧ Below w.heap.size w w' := by
  go_enter Tryz.func90, Tryz.ntmps90
  go_wp2
  refine bodyPost_ret (results_cell_row rfl _ _ (w.heap.size + 1) 141 #[.string x.a, .string x.b, .string x.l, .string x.s, .string x.r] (0, 0) _ rfl (by exact heap_alloc2_new w _ _) Tryz.underlying141 rfl size5S) rfl ?_
  exact ⟨rfl, ((Below.refl _ w).alloc (Nat.le_refl _) _).alloc (by simp) _⟩
theorem txt_in {W : World} {g : Nat} {x : Al} {t : TypeId} (h : W.heap[g]? = some (.cells #[.string x.a, .string x.b, .string x.l, .string x.s, .string x.r] t (0, 0))) (k : Nat) (hk : k < 5) : W.cell? ⟨g, k, none⟩ = some (.string (txt x k)) := by
  obtain ⟨⟨c1, c2, c3, c4, c5⟩, -⟩ := cells5 h
  have h5 : k = 0 ∨ k = 1 ∨ k = 2 ∨ k = 3 ∨ k = 4 := by omega
  rcases h5 with rfl | rfl | rfl | rfl | rfl
  · exact c1
  · exact c2
  · exact c3
  · exact c4
  · exact c5
theorem put_one (n : Nat) : putL n 1 = [UInt8.ofNat n] := by
  unfold putL putL byteAt
  simp
set_option maxRecDepth 100000 in
set_option maxHeartbeats 4000000 in
theorem row_ref (x : Al) (w : World) (hz : AlZ x) :
    Calls Tryz.prog 40 #[.agg #[.int .i64 x.k, .string x.a, .string x.b, .string x.l, .string x.s, .string x.r]] w fun e w' => e = .returned (.string (rowB x)) ∧ Below w.heap.size w w' := by
  obtain ⟨W1, hW1⟩ : ∃ W1, w.alloc (.cells #[.int .i64 x.k, .string x.a, .string x.b, .string x.l, .string x.s, .string x.r] 47) = W1 := ⟨_, rfl⟩
  have hb1 : Below w.heap.size w W1 := by rw [← hW1]; exact (Below.refl _ w).alloc (Nat.le_refl _) _
  have hA : W1.heap[w.heap.size]? = some (.cells #[.int .i64 x.k, .string x.a, .string x.b, .string x.l, .string x.s, .string x.r] 47 (0, 0)) := by rw [← hW1]; exact World.alloc_heap_new w _
  obtain ⟨c, hc⟩ : ∃ c, UInt8.ofNat x.k.toNat = c := ⟨_, rfl⟩
  have hkw : IntKind.u8.wrap x.k = (c.toNat : Int) := by
    rw [wraps_u8 _ hz.k0 (by have := hz.k9; omega), ← hc, UInt8.toNat_ofNat']
    have h0 := hz.k0
    have h9 := hz.k9
    omega
  have H0 := Lib.hid (show ofL [c] = ofL (rowUp x 0) by rw [rowUp_zero, put_one, hc])
  have hcv := conv_oneY c W1
  have hB0 := Lib.hid (fun w' (hb : Below W1.heap.size W1 w') => hb1.trans (hb.mono hb1.size))
  have hC := Lib.hid (fun w' (hb : Below W1.heap.size W1 w') => cells6 ((hb.block _ (lt_of_block hA)).trans hA))
  have HT := Lib.hid (fun w' => texts_ref x w')
  have HP := Lib.hid (fun k (hk : k < 5) w' => packR_any (txt x k) w' (by have := hz.z k hk; omega))
  have H8 := Lib.hid (fun k w' => putR_any (packN (txt x k)) w' (packN_lt _))
  have H5 := Lib.hid (rowUp_five x)
  have HW1 := Lib.hid hW1
  obtain ⟨a0, a1, a2, a3, a4, a5⟩ := cells6 hA
  clear hz hc
  go_enter Tryz.func40, Tryz.ntmps40
  clear hW1
  go_upto_region 1 with fail
  rw [HW1.out]
  go_upto_region 2 with fail
  clear a0 a1 a2 a3 a4 a5 hcv
  have hbs := (Below.refl W1.heap.size W1).alloc (Nat.le_refl _) (.cells #[.int .u8 (c.toNat : Int)] 5)
  generalize hW2 : W1.alloc (.cells #[.int .u8 (c.toNat : Int)] 5) = W2 at *
  obtain ⟨a0, a1, a2, a3, a4, a5⟩ := hC.out _ hbs
  go_upto_region 3 with (go_at_call 90; (with_reducible refine (HT.out _).mono ?_); rintro e w3 ⟨rfl, hb3⟩)
  clear a0 a1 a2 a3 a4 a5 hW2
  have hb3' := hbs.trans (hb3.mono hbs.size)
  have hb3a := hb3'.alloc hb3'.size (.cells #[.string x.a, .string x.b, .string x.l, .string x.s, .string x.r] 141)
  have hT3 := World.alloc_heap_new w3 (.cells #[.string x.a, .string x.b, .string x.l, .string x.s, .string x.r] 141)
  generalize hW3 : w3.alloc (.cells #[.string x.a, .string x.b, .string x.l, .string x.s, .string x.r] 141) = Z at *
  have hcz := Lib.hid (fun k (hk : k < 5) w' (hb : Below Z.heap.size Z w') => txt_in ((hb.block _ (lt_of_block hT3)).trans hT3) k hk)
  have hBZ := Lib.hid (fun w' (hb : Below Z.heap.size Z w') => hB0.out _ (hb3a.trans (hb.mono hb3a.size)))
  clear hW3 hb3 hb3' hb3a hT3 hbs hA hb1
  go_wp2
  go_loopw [3, 5] (fun s i wr => ∃ k : Nat, k ≤ 5 ∧ i = .int .i64 (k : Int) ∧ s = .string (ofL (rowUp x k)) ∧ Below Z.heap.size Z wr) (fun _ i _ => 5 - (intOf i).toNat)
  case atStart => exact ⟨0, Nat.zero_le _, rfl, by rw [H0.out], Below.refl _ _⟩
  case round =>
    obtain ⟨k, hk, rfl, rfl, hR⟩ := hrel
    by_cases hlt : k < 5
    · have hlt' : (k : Int) < 5 := by omega
      have hk0 : (0 : Int) ≤ (k : Int) := by omega
      have hck := hcz.out k hlt _ hR
      have HPk := Lib.hid (HP.out k hlt)
      have H8k := Lib.hid (H8.out k)
      have HST := Lib.hid (row_step x k hlt)
      have hsz : (ofL (rowUp x k)).size ≤ 41 := size_rowUp x k hk
      have hs8 : (ofL (putL (packN (txt x k)) 8)).size = 8 := by rw [size_ofL, length_putL]
      have hnf : ¬ (9223372036854775807 < (ofL (rowUp x k)).size + (ofL (putL (packN (txt x k)) 8)).size) := by omega
      clear hsz hs8
      generalize txt x k = t at *
      have hfi : ∀ w : World, (Instr.field 144 (.agg #[.int .u64 (packN t : Int), .bool (packT (lowS t))]) 0).run Tryz.prog w = .ok (.int .u64 (packN t : Int)) w := fun _ => by kernel_rfl
      go_wp2_with (first
        | (go_at_call 91; (with_reducible refine (HPk.out _).mono ?_); rintro e w5 ⟨rfl, hb5⟩)
        | (go_at_call 45; (with_reducible refine (H8k.out _).mono ?_); rintro e w6 ⟨rfl, hb6⟩))
      go_roundw
      case rel => exact ⟨k + 1, by omega, by go_num, by rw [← HST.out], (hR.trans (hb5.mono hR.size)).trans (hb6.mono (Nat.le_trans hR.size hb5.size))⟩
      case measure => simp [intOf]; omega
    · obtain rfl : k = 5 := by omega
      go_wp2
      go_ret
      exact ⟨by rw [H5.out]; rfl, hBZ.out _ hR⟩
end Go.Proofs.YtgjifikahlmioaaGreatDoor
