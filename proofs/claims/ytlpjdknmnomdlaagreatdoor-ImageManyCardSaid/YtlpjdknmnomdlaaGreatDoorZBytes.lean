/-
  Package image: the rows of a part, one behind the other.
-/
import Derived.Test.YtlpjdknmnomdlaaGreatDoorZRowA
import Derived.Test.YtlpjdknmnomdlaaGreatDoorWBuild
namespace Go.Proofs.YtlpjdknmnomdlaaGreatDoor
open Go Go.RowKit

theorem kindN (k : Nat) (hk : k < 4) (h2 : k ≠ 2) : 0 < kyN k ∧ kyN k ≤ wdN k ∧ wdN k ≤ 255 ∧ wdR k = wdN k := by
  rcases four k hk with rfl | rfl | rfl | rfl <;> first | decide | exact absurd rfl h2
theorem dupN_ne {im : Im} {k : Nat} (h : k ≠ 2) : dupN im k = (badW (kyN k) (sortW (rowsN im k))).isSome := by
  unfold dupN; split
  · exact absurd rfl h
  · rfl
theorem partB_ne {im : Im} {k : Nat} (h : k ≠ 2) : partB im k = catW (sortW (rowsN im k)) := by
  unfold partB; split
  · exact absurd rfl h
  · rfl
set_option maxRecDepth 100000 in
set_option maxHeartbeats 4000000 in
theorem bytes_any (k : Nat) (hk : k < 4) (im : Im) (u : Value) (w : World) (hu : w.ownsRow 0 9 1 u (rowsN im k).length (strsW (rowsN im k))) (hn : cntN im k ≤ 4000) :
    Calls Tryz.prog 60 #[.agg #[.string (whN k), .int .i64 (wdN k : Int), .int .i64 (kyN k : Int), u, .nilIface]] w fun e w' => ∃ s v, e = .returned (.tuple #[.string s, v]) ∧ ((dupN im k = false ∧ s = partB im k ∧ v = .nilIface) ∨ (dupN im k = true ∧ FaultZ w' v 13 0 (whN k))) ∧ Below w.heap.size w w' := by
  have hlen : (rowsN im k).length ≤ 4000 := by rw [rowsN_len]; exact hn
  have hsz := rowsN_size im k
  obtain ⟨W1, hW1⟩ : ∃ W1, w.alloc (.cells #[.string (whN k), .int .i64 (wdN k : Int), .int .i64 (kyN k : Int), u, .nilIface] 99) = W1 := ⟨_, rfl⟩
  have hb1 : Below w.heap.size w W1 := by rw [← hW1]; exact (Below.refl _ w).alloc (Nat.le_refl _) _
  have hh1 : W1.heap[w.heap.size]? = some (.cells #[.string (whN k), .int .i64 (wdN k : Int), .int .i64 (kyN k : Int), u, .nilIface] 99 (0, 0)) := by rw [← hW1]; exact World.alloc_heap_new w _
  have H5 := Lib.hid (fun w' (h : Below W1.heap.size W1 w') => (cells5 ((h.block _ (lt_of_block hh1)).trans hh1)).1)
  have HB := Lib.hid (fun w' (h : Below W1.heap.size W1 w') => hb1.trans (h.mono hb1.size))
  have hu1 := own_belowW hu hb1
  have HW1 := Lib.hid hW1
  obtain ⟨a1, a2, a3, rfl⟩ := own_sliceZ hu
  have c := H5.out _ (Below.refl _ _)
  obtain ⟨c0, c1, c2, c3, c4⟩ := c
  clear hW1 hb1 hh1 hu
  by_cases h2 : k = 2
  · subst h2
    have HJ := Lib.hid (join_own W1 hlen hu1 (by rw [cat_size hsz]; have : (rowsN im 2).length * wdR 2 ≤ 4000 * 51 := Nat.mul_le_mul hlen (by decide); omega))
    have HD := Lib.hid (show dupN im 2 = false from rfl)
    have HP := Lib.hid (show partB im 2 = catW (rowsN im 2) from rfl)
    have hk0 : ((kyN 2 : Nat) : Int) = 0 := rfl
    rw [hk0] at c2 HW1 ⊢
    generalize whN 2 = wh at *
    generalize wdN 2 = wd at *
    clear hlen hsz hu1 hn hk0
    go_enter Tryz.func60, Tryz.ntmps60
    go_upto_region 1 with fail
    rw [HW1.out]
    go_wp2_with (go_at_call 107; (with_reducible refine HJ.out.mono ?_); rintro e w5 ⟨rfl, hb5⟩)
    go_ret2
    exact ⟨_, _, rfl, .inl ⟨HD.out, HP.out.symm, rfl⟩, HB.out _ hb5⟩
  · obtain ⟨k1, k2, k3, k4⟩ := kindN k hk h2
    rw [k4] at hsz
    have hE := buildE_dup k1 k2 k3 hsz
    have HD := Lib.hid (dupN_ne (im := im) h2)
    have HP := Lib.hid (partB_ne (im := im) h2)
    have HT := Lib.hid (build_table (wdN k : Int) (kyN k : Int) _ (rowsN im k) W1 (RowW.of_own hu1) hlen (fun x hx => by rw [hsz x hx]; omega))
    rw [hE] at HT
    have hkk : ((kyN k : Nat) : Int) ≠ 0 := by omega
    have hkf : (((kyN k : Nat) : Int) == 0) = false := by rw [beq_eq_false_iff_ne]; exact hkk
    generalize sortW (rowsN im k) = S at *
    cases hbad : badW (kyN k) S with
    | none =>
      have HD2 := Lib.hid (show dupN im k = false by rw [HD.out, hbad]; rfl)
      rw [hbad] at HT
      have HT2 := Lib.hid (HT.out.mono (R' := fun e w' => ∃ b, e = .returned (.tuple #[.pointer (some ⟨b, 0, none⟩), .nilIface]) ∧ w'.heap[b]? = some (tabObj (wdN k : Int).toNat (kyN k : Int).toNat (catW S)) ∧ Below W1.heap.size W1 w') fun e w' ⟨t, v, he, hm, hb⟩ => by
        obtain ⟨rfl, b, rfl, hb2⟩ := hm
        exact ⟨b, he, hb2, hb⟩)
      generalize whN k = wh at *
      generalize wdN k = wd at *
      generalize kyN k = ky at *
      generalize catW S = cat at *
      clear hlen hsz hu1 hn hbad HT HD hE k1 k2 k3 k4 hkk
      go_enter Tryz.func60, Tryz.ntmps60
      go_upto_region 1 with fail
      rw [HW1.out]
      go_wp2_with (first
        | (go_at_call 108; (with_reducible refine HT2.out.mono ?_); rintro e w5 ⟨b, rfl, hbt, hb5⟩; have HBY := Lib.hid (bytesW_any w5 hbt); clear hbt)
        | (go_at_call 109; (with_reducible refine HBY.out.mono ?_); rintro e w6 ⟨rfl, rfl⟩))
      go_ret2
      exact ⟨_, _, rfl, .inl ⟨HD2.out, HP.out.symm, rfl⟩, HB.out _ hb5⟩
    | some i =>
      have HD2 := Lib.hid (show dupN im k = true by rw [HD.out, hbad]; rfl)
      rw [hbad] at HT
      have HT2 := Lib.hid (HT.out.mono (R' := fun e w' => ∃ b, e = .returned (.tuple #[.pointer none, .iface 114 (.pointer (some ⟨b, 0, none⟩))]) ∧ Below W1.heap.size W1 w') fun e w' ⟨t, v, he, hm, hb⟩ => by
        obtain ⟨rfl, b, rfl, hb2⟩ := hm
        exact ⟨b, he, hb⟩)
      have HN := Lib.hid (fun w' => newZ_any 13 0 (whN k) w' (by decide))
      generalize whN k = wh at *
      generalize wdN k = wd at *
      generalize kyN k = ky at *
      clear hlen hsz hu1 hn hbad HT HD hE k1 k2 k3 k4 hkk HP
      go_enter Tryz.func60, Tryz.ntmps60
      go_upto_region 1 with fail
      rw [HW1.out]
      go_wp2_with (first
        | (go_at_call 108; (with_reducible refine HT2.out.mono ?_); rintro e w5 ⟨b, rfl, hb5⟩; have d := H5.out _ hb5; obtain ⟨d0, d1, d2, d3, d4⟩ := d)
        | (go_at_call 62; (with_reducible refine (HN.out _).mono ?_); rintro e w6 ⟨v, rfl, hv, hb6⟩))
      go_ret2
      exact ⟨_, _, rfl, .inr ⟨HD2.out, hv⟩, HB.out _ (hb5.trans (hb6.mono hb5.size))⟩
end Go.Proofs.YtlpjdknmnomdlaaGreatDoor
