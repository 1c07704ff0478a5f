/-
  Package image: Encode. (Printed by wip/gen_zenc.py.)
-/
import Derived.Test.YtbafmnafhaoggaaGreatDoorZParts
import Derived.Test.YtbafmnafhaoggaaGreatDoorZHeads
namespace Go.Proofs.YtbafmnafhaoggaaGreatDoor
open Go Go.RowKit

theorem idx20_0 (g0 z0 g1 z1 g2 z2 g3 z3 : Value) (w : World) : (Instr.index 55 (.agg #[.string { data := #[97, 108, 105, 97, 115] }, .int .i64 41, .int .i64 17, g0, z0, .string { data := #[108, 105, 107, 101, 108, 121] }, .int .i64 48, .int .i64 24, g1, z1, .string { data := #[114, 117, 108, 101] }, .int .i64 0, .int .i64 0, g2, z2, .string { data := #[109, 101, 109, 98, 101, 114] }, .int .i64 16, .int .i64 16, g3, z3]) (.int .i64 0)).run Tryz.prog w = .ok (.agg #[.string { data := #[97, 108, 105, 97, 115] }, .int .i64 41, .int .i64 17, g0, z0]) w := by kernel_rfl
theorem idx20_1 (g0 z0 g1 z1 g2 z2 g3 z3 : Value) (w : World) : (Instr.index 55 (.agg #[.string { data := #[97, 108, 105, 97, 115] }, .int .i64 41, .int .i64 17, g0, z0, .string { data := #[108, 105, 107, 101, 108, 121] }, .int .i64 48, .int .i64 24, g1, z1, .string { data := #[114, 117, 108, 101] }, .int .i64 0, .int .i64 0, g2, z2, .string { data := #[109, 101, 109, 98, 101, 114] }, .int .i64 16, .int .i64 16, g3, z3]) (.int .i64 1)).run Tryz.prog w = .ok (.agg #[.string { data := #[108, 105, 107, 101, 108, 121] }, .int .i64 48, .int .i64 24, g1, z1]) w := by kernel_rfl
theorem idx20_2 (g0 z0 g1 z1 g2 z2 g3 z3 : Value) (w : World) : (Instr.index 55 (.agg #[.string { data := #[97, 108, 105, 97, 115] }, .int .i64 41, .int .i64 17, g0, z0, .string { data := #[108, 105, 107, 101, 108, 121] }, .int .i64 48, .int .i64 24, g1, z1, .string { data := #[114, 117, 108, 101] }, .int .i64 0, .int .i64 0, g2, z2, .string { data := #[109, 101, 109, 98, 101, 114] }, .int .i64 16, .int .i64 16, g3, z3]) (.int .i64 2)).run Tryz.prog w = .ok (.agg #[.string { data := #[114, 117, 108, 101] }, .int .i64 0, .int .i64 0, g2, z2]) w := by kernel_rfl
theorem idx20_3 (g0 z0 g1 z1 g2 z2 g3 z3 : Value) (w : World) : (Instr.index 55 (.agg #[.string { data := #[97, 108, 105, 97, 115] }, .int .i64 41, .int .i64 17, g0, z0, .string { data := #[108, 105, 107, 101, 108, 121] }, .int .i64 48, .int .i64 24, g1, z1, .string { data := #[114, 117, 108, 101] }, .int .i64 0, .int .i64 0, g2, z2, .string { data := #[109, 101, 109, 98, 101, 114] }, .int .i64 16, .int .i64 16, g3, z3]) (.int .i64 3)).run Tryz.prog w = .ok (.agg #[.string { data := #[109, 101, 109, 98, 101, 114] }, .int .i64 16, .int .i64 16, g3, z3]) w := by kernel_rfl
theorem bytes_0 (im : Im) (u : Value) (w : World) (hu : w.ownsRow 0 9 1 u (rowsN im 0).length (strsW (rowsN im 0))) (hn : cntN im 0 ≤ 4000) : Calls Tryz.prog 22 #[.agg #[.string { data := #[97, 108, 105, 97, 115] }, .int .i64 41, .int .i64 17, u, .nilIface]] w fun e w' => ∃ s v, e = .returned (.tuple #[.string s, v]) ∧ ((dupN im 0 = false ∧ s = partB im 0 ∧ v = .nilIface) ∨ (dupN im 0 = true ∧ FaultZ w' v 13 0 (whN 0))) ∧ Below w.heap.size w w' := bytes_any 0 (by decide) im u w hu hn
theorem bytes_1 (im : Im) (u : Value) (w : World) (hu : w.ownsRow 0 9 1 u (rowsN im 1).length (strsW (rowsN im 1))) (hn : cntN im 1 ≤ 4000) : Calls Tryz.prog 22 #[.agg #[.string { data := #[108, 105, 107, 101, 108, 121] }, .int .i64 48, .int .i64 24, u, .nilIface]] w fun e w' => ∃ s v, e = .returned (.tuple #[.string s, v]) ∧ ((dupN im 1 = false ∧ s = partB im 1 ∧ v = .nilIface) ∨ (dupN im 1 = true ∧ FaultZ w' v 13 0 (whN 1))) ∧ Below w.heap.size w w' := bytes_any 1 (by decide) im u w hu hn
theorem bytes_2 (im : Im) (u : Value) (w : World) (hu : w.ownsRow 0 9 1 u (rowsN im 2).length (strsW (rowsN im 2))) (hn : cntN im 2 ≤ 4000) : Calls Tryz.prog 22 #[.agg #[.string { data := #[114, 117, 108, 101] }, .int .i64 0, .int .i64 0, u, .nilIface]] w fun e w' => ∃ s v, e = .returned (.tuple #[.string s, v]) ∧ ((dupN im 2 = false ∧ s = partB im 2 ∧ v = .nilIface) ∨ (dupN im 2 = true ∧ FaultZ w' v 13 0 (whN 2))) ∧ Below w.heap.size w w' := bytes_any 2 (by decide) im u w hu hn
theorem bytes_3 (im : Im) (u : Value) (w : World) (hu : w.ownsRow 0 9 1 u (rowsN im 3).length (strsW (rowsN im 3))) (hn : cntN im 3 ≤ 4000) : Calls Tryz.prog 22 #[.agg #[.string { data := #[109, 101, 109, 98, 101, 114] }, .int .i64 16, .int .i64 16, u, .nilIface]] w fun e w' => ∃ s v, e = .returned (.tuple #[.string s, v]) ∧ ((dupN im 3 = false ∧ s = partB im 3 ∧ v = .nilIface) ∨ (dupN im 3 = true ∧ FaultZ w' v 13 0 (whN 3))) ∧ Below w.heap.size w w' := bytes_any 3 (by decide) im u w hu hn
theorem encE_head {im : Im} {e : ErrT} (h : headE im = some e) : encE im = some e := by
  unfold headE at h
  unfold encE
  split at h
  · rw [if_pos (by assumption)]; exact h
  · rw [if_neg (by assumption)]
    split at h
    · rw [if_pos (by assumption)]; exact h
    · cases h
theorem head_none {im : Im} (h : headE im = none) : manyB im = false ∧ argB im = false := by
  unfold headE at h
  split at h
  · cases h
  · split at h
    · cases h
    · rename_i h1 h2
      exact ⟨by simpa using h1, by simpa using h2⟩
set_option maxRecDepth 1000000 in
set_option maxHeartbeats 16000000 in
theorem encode_im (a1 a2 a3 a4 : Option Addr) (c1 c2 c3 c4 : Nat) (im : Im) (w : World) (hi : ImR w (.slice a1 (cntN im 0) c1) (.slice a2 (cntN im 1) c2) (.slice a3 (cntN im 2) c3) (.slice a4 (cntN im 3) c4) im) (hs : ImS im) (hg : GL w) :
    Calls Tryz.prog 10 #[.agg #[.slice a1 (cntN im 0) c1, .slice a2 (cntN im 1) c2, .slice a3 (cntN im 2) c3, .slice a4 (cntN im 3) c4, .int .i64 im.th, .int .i64 im.de]] w fun e w' => ∃ v, e = .returned (.tuple #[.string (encB im), v]) ∧ EncZ w' v (encE im) ∧ Below w.heap.size w w' := by
  obtain ⟨W1, hW1⟩ : ∃ W1, w.alloc (.cells #[.slice a1 (cntN im 0) c1, .slice a2 (cntN im 1) c2, .slice a3 (cntN im 2) c3, .slice a4 (cntN im 3) c4, .int .i64 im.th, .int .i64 im.de] 29) = W1 := ⟨_, rfl⟩
  have hb1 : Below w.heap.size w W1 := by rw [← hW1]; exact (Below.refl _ w).alloc (Nat.le_refl _) _
  have hA : W1.heap[w.heap.size]? = some (.cells #[.slice a1 (cntN im 0) c1, .slice a2 (cntN im 1) c2, .slice a3 (cntN im 2) c3, .slice a4 (cntN im 3) c4, .int .i64 im.th, .int .i64 im.de] 29 (0, 0)) := by rw [← hW1]; exact World.alloc_heap_new w _
  have H6 := Lib.hid (fun w' (h : Below W1.heap.size W1 w') => cells6 ((h.block _ (lt_of_block hA)).trans hA))
  have HB := Lib.hid (fun w' (h : Below W1.heap.size W1 w') => hb1.trans (h.mono hb1.size))
  have HCH := Lib.hid (checkHead_any a1 a2 a3 a4 c1 c2 c3 c4 im W1)
  have HW1 := Lib.hid hW1
  have c := H6.out _ (Below.refl _ _)
  obtain ⟨d0, d1, d2, d3, d4, d5⟩ := c
  cases hh : headE im with
  | some e0 =>
    obtain ⟨k0, p0, s0⟩ := e0
    have HE := Lib.hid (encE_head hh)
    rw [hh] at HCH
    clear hi hs hg hW1 hb1 hA hh
    go_enter Tryz.func10, Tryz.ntmps10
    go_upto_region 1 with fail
    rw [HW1.out]
    go_wp2_with (go_at_call 19; (with_reducible refine HCH.out.mono ?_); rintro e w2 ⟨v, rfl, hv, hb2⟩; obtain ⟨bf, rfl, hbf⟩ := hv; have HBF := Lib.hid hbf; clear hbf)
    go_ret2
    rw [HE.out, encB_some HE.out]
    exact ⟨_, rfl, ⟨bf, rfl, HBF.out⟩, HB.out _ hb2⟩
  | none =>
    rw [hh] at HCH
    have HM := Lib.hid (head_none hh)
    have HN := Lib.hid (manyB_false HM.out.1)
    have HPA := Lib.hid (fun w' (h : Below W1.heap.size W1 w') => parts_any a1 a2 a3 a4 c1 c2 c3 c4 im w' (hi.below (hb1.trans (h.mono hb1.size))) HN.out hs (hg.below (hb1.trans (h.mono hb1.size)) hg.size))
    have HHD := Lib.hid (fun w' => head_any a1 a2 a3 a4 c1 c2 c3 c4 im w' HN.out)
    clear hi hs hg hW1 hb1 hA hh
    go_enter Tryz.func10, Tryz.ntmps10
    go_upto_region 1 with fail
    rw [HW1.out]
    go_upto_region 4 with (go_at_call 19; (with_reducible refine HCH.out.mono ?_); rintro e w2 ⟨v, rfl, hv, hb2⟩; obtain rfl : v = .nilIface := hv)
    clear d0 d1 d2 d3 d4 d5 HW1 HCH
    have c := H6.out _ hb2
    obtain ⟨d0, d1, d2, d3, d4, d5⟩ := c
    go_upto_region 5 with (first
      | (go_at_call 20; (with_reducible refine (HPA.out _ hb2).mono ?_); rintro e w3 ⟨g0, z0, g1, z1, g2, z2, g3, z3, rfl, ⟨hp0, hp1, hp2, hp3⟩, hb3⟩; have o0 := hp0.one; have o1 := hp1.one; have o2 := hp2.one; have o3 := hp3.one; have HONE := Lib.hid (show (#[.string { data := #[97, 108, 105, 97, 115] }, .int .i64 41, .int .i64 17, g0, z0, .string { data := #[108, 105, 107, 101, 108, 121] }, .int .i64 48, .int .i64 24, g1, z1, .string { data := #[114, 117, 108, 101] }, .int .i64 0, .int .i64 0, g2, z2, .string { data := #[109, 101, 109, 98, 101, 114] }, .int .i64 16, .int .i64 16, g3, z3] : Array Value).all (·.oneCell') = true by simp [Value.oneCell']; exact ⟨o0.1, o0.2, o1.1, o1.2, o2.1, o2.2, o3.1, o3.2⟩); have HP := Lib.hid (⟨hp0, hp1, hp2, hp3⟩ : PartZ w3 g0 z0 (whN 0) (rowsN im 0) (badN im 0) ∧ PartZ w3 g1 z1 (whN 1) (rowsN im 1) (badN im 1) ∧ PartZ w3 g2 z2 (whN 2) (rowsN im 2) (badN im 2) ∧ PartZ w3 g3 z3 (whN 3) (rowsN im 3) (badN im 3)); clear hp0 hp1 hp2 hp3 o0 o1 o2 o3)
      | (refine wpList_store_row rfl _ _ _ rfl _ _ rfl rfl _ _ (World.alloc_heap_new _ _) sizeParts rfl HONE.out ?_))
    have hb3' := hb2.trans (hb3.mono hb2.size)
    obtain ⟨W5, hW5⟩ : ∃ W5, (w3.alloc (.cells #[.string ⟨#[]⟩, .int .i64 0, .int .i64 0, .slice none 0 0, .nilIface, .string ⟨#[]⟩, .int .i64 0, .int .i64 0, .slice none 0 0, .nilIface, .string ⟨#[]⟩, .int .i64 0, .int .i64 0, .slice none 0 0, .nilIface, .string ⟨#[]⟩, .int .i64 0, .int .i64 0, .slice none 0 0, .nilIface] 55)).setRow w3.heap.size #[.string { data := #[97, 108, 105, 97, 115] }, .int .i64 41, .int .i64 17, g0, z0, .string { data := #[108, 105, 107, 101, 108, 121] }, .int .i64 48, .int .i64 24, g1, z1, .string { data := #[114, 117, 108, 101] }, .int .i64 0, .int .i64 0, g2, z2, .string { data := #[109, 101, 109, 98, 101, 114] }, .int .i64 16, .int .i64 16, g3, z3] = W5 := ⟨_, rfl⟩
    have hblk : W5.heap[w3.heap.size]? = some (.cells #[.string { data := #[97, 108, 105, 97, 115] }, .int .i64 41, .int .i64 17, g0, z0, .string { data := #[108, 105, 107, 101, 108, 121] }, .int .i64 48, .int .i64 24, g1, z1, .string { data := #[114, 117, 108, 101] }, .int .i64 0, .int .i64 0, g2, z2, .string { data := #[109, 101, 109, 98, 101, 114] }, .int .i64 16, .int .i64 16, g3, z3] 55 (0, 0)) := by rw [← hW5]; exact setRow_heap _ _ _ _ _ _ (World.alloc_heap_new _ _)
    have hb35 : Below w3.heap.size w3 W5 := by rw [← hW5]; exact belowZ_setRow ((Below.refl _ w3).alloc (Nat.le_refl _) _) (Nat.le_refl _) _
    rw [hW5]
    have hb5 := hb3'.trans (hb35.mono hb3'.size)
    have HP0 := Lib.hid (HP.out.1.below hb35)
    have HP1 := Lib.hid (HP.out.2.1.below hb35)
    have HP2 := Lib.hid (HP.out.2.2.1.below hb35)
    have HP3 := Lib.hid (HP.out.2.2.2.below hb35)
    have HBB := Lib.hid (fun w' (h : Below W5.heap.size W5 w') => HB.out _ (hb5.trans (h.mono hb5.size)))
    have H65 := Lib.hid (fun w' (h : Below W5.heap.size W5 w') => H6.out _ (hb5.trans (h.mono hb5.size)))
    have HBK := Lib.hid (fun w' (h : Below W5.heap.size W5 w') => (h.block _ (lt_of_block hblk)).trans hblk)
    generalize w3.heap.size = N3 at *
    clear hW5 hb3 hb3' hb35 hb5 hb2 HP HONE HPA d0 d1 d2 d3 d4 d5 H6 HB
    go_wp2_with (refine wpList_load_row rfl _ _ rfl _ rfl _ _ _ _ hblk Tryz.underlying55 rfl sizeParts ?_)
    clear hblk
    go_loopw [7, 21] (fun _ i wr => ∃ k : Nat, k ≤ 4 ∧ i = .int .i64 (k : Int) ∧ (∀ j, j < k → badN im j = none) ∧ Below W5.heap.size W5 wr) (fun _ i _ => 4 - (intOf i).toNat)
    case atStart => exact ⟨0, Nat.zero_le _, rfl, fun j hj => absurd hj (Nat.not_lt_zero _), Below.refl _ _⟩
    case round =>
      obtain ⟨k, hk, rfl, hu, hR⟩ := hrel
      have HU := Lib.hid hu
      clear hu
      rcases k with _ | _ | _ | _ | k
      · have hix := idx20_0 g0 z0 g1 z1 g2 z2 g3 z3 wr
        have hPk := HP0.out
        obtain ⟨p1, p2, p3, hup⟩ := hPk.slice
        have HPk := Lib.hid hPk
        clear hPk
        cases hbd : badN im 0 with
        | none =>
          have hen : z0 = .nilIface := by have := HPk.out; rw [hbd] at this; exact this.1
          have HX := Lib.hid (show ∀ j, j < 0 + 1 → badN im j = none from fun j hj => by
            rcases Nat.lt_or_eq_of_le (Nat.le_of_lt_succ hj) with h | h
            · exact HU.out j h
            · rw [h]; exact hbd)
          subst hup hen
          clear hbd HPk
          go_upto_region 8 with fail
          obtain ⟨we, hwe⟩ : ∃ we, wr.alloc (.cells #[.string { data := #[97, 108, 105, 97, 115] }, .int .i64 41, .int .i64 17, .slice p1 p2 p3, .nilIface] 54) = we := ⟨_, rfl⟩
          have hE : we.heap[wr.heap.size]? = some (.cells #[.string { data := #[97, 108, 105, 97, 115] }, .int .i64 41, .int .i64 17, .slice p1 p2 p3, .nilIface] 54 (0, 0)) := by rw [← hwe]; exact World.alloc_heap_new wr _
          have hRe : Below W5.heap.size W5 we := by rw [← hwe]; exact hR.alloc hR.size _
          rw [hwe]
          obtain ⟨⟨q0, q1, q2, q3, q4⟩, -⟩ := cells5 hE
          clear hwe hE
          go_wp2
          go_roundw
          case rel => exact ⟨0 + 1, by omega, rfl, HX.out, hRe⟩
          case measure => simp [intOf]
        | some i =>
          have hpf := HPk.out
          rw [hbd] at hpf
          obtain ⟨⟨bf, hen, hbf⟩, -⟩ := hpf
          have HW := Lib.hid (show encE im = some (12, (i : Int), whN 0) by rw [encE_rest HM.out.1 HM.out.2, wrongZ_at (by decide) HU.out hbd]; rfl)
          have HBF := Lib.hid hbf
          subst hup hen
          clear hbd HPk hbf
          go_upto_region 8 with fail
          obtain ⟨we, hwe⟩ : ∃ we, wr.alloc (.cells #[.string { data := #[97, 108, 105, 97, 115] }, .int .i64 41, .int .i64 17, .slice p1 p2 p3, .iface 126 (.pointer (some ⟨bf, 0, none⟩))] 54) = we := ⟨_, rfl⟩
          have hE : we.heap[wr.heap.size]? = some (.cells #[.string { data := #[97, 108, 105, 97, 115] }, .int .i64 41, .int .i64 17, .slice p1 p2 p3, .iface 126 (.pointer (some ⟨bf, 0, none⟩))] 54 (0, 0)) := by rw [← hwe]; exact World.alloc_heap_new wr _
          have hRe : Below W5.heap.size W5 we := by rw [← hwe]; exact hR.alloc hR.size _
          rw [hwe]
          obtain ⟨⟨q0, q1, q2, q3, q4⟩, -⟩ := cells5 hE
          have hEd : we.drew.heap[wr.heap.size]? = some (.cells #[.string { data := #[97, 108, 105, 97, 115] }, .int .i64 41, .int .i64 17, .slice p1 p2 p3, .iface 126 (.pointer (some ⟨bf, 0, none⟩))] 54 (0, 0)) := hE
          obtain ⟨⟨r0, r1, r2, r3, r4⟩, -⟩ := cells5 hEd
          clear hwe hE hEd
          go_upto_region 9 with fail
          go_region
          all_goals go_wp2
          all_goals go_ret2
          all_goals
            rw [HW.out, encB_some HW.out]
            refine ⟨_, rfl, ?_, HBB.out _ (by first | exact hRe | exact Below.drew hRe)⟩
            exact FaultZ.below ⟨bf, rfl, HBF.out⟩ (by first | exact hRe | exact Below.drew hRe)
      · have hix := idx20_1 g0 z0 g1 z1 g2 z2 g3 z3 wr
        have hPk := HP1.out
        obtain ⟨p1, p2, p3, hup⟩ := hPk.slice
        have HPk := Lib.hid hPk
        clear hPk
        cases hbd : badN im 1 with
        | none =>
          have hen : z1 = .nilIface := by have := HPk.out; rw [hbd] at this; exact this.1
          have HX := Lib.hid (show ∀ j, j < 1 + 1 → badN im j = none from fun j hj => by
            rcases Nat.lt_or_eq_of_le (Nat.le_of_lt_succ hj) with h | h
            · exact HU.out j h
            · rw [h]; exact hbd)
          subst hup hen
          clear hbd HPk
          go_upto_region 8 with fail
          obtain ⟨we, hwe⟩ : ∃ we, wr.alloc (.cells #[.string { data := #[108, 105, 107, 101, 108, 121] }, .int .i64 48, .int .i64 24, .slice p1 p2 p3, .nilIface] 54) = we := ⟨_, rfl⟩
          have hE : we.heap[wr.heap.size]? = some (.cells #[.string { data := #[108, 105, 107, 101, 108, 121] }, .int .i64 48, .int .i64 24, .slice p1 p2 p3, .nilIface] 54 (0, 0)) := by rw [← hwe]; exact World.alloc_heap_new wr _
          have hRe : Below W5.heap.size W5 we := by rw [← hwe]; exact hR.alloc hR.size _
          rw [hwe]
          obtain ⟨⟨q0, q1, q2, q3, q4⟩, -⟩ := cells5 hE
          clear hwe hE
          go_wp2
          go_roundw
          case rel => exact ⟨1 + 1, by omega, rfl, HX.out, hRe⟩
          case measure => simp [intOf]
        | some i =>
          have hpf := HPk.out
          rw [hbd] at hpf
          obtain ⟨⟨bf, hen, hbf⟩, -⟩ := hpf
          have HW := Lib.hid (show encE im = some (12, (i : Int), whN 1) by rw [encE_rest HM.out.1 HM.out.2, wrongZ_at (by decide) HU.out hbd]; rfl)
          have HBF := Lib.hid hbf
          subst hup hen
          clear hbd HPk hbf
          go_upto_region 8 with fail
          obtain ⟨we, hwe⟩ : ∃ we, wr.alloc (.cells #[.string { data := #[108, 105, 107, 101, 108, 121] }, .int .i64 48, .int .i64 24, .slice p1 p2 p3, .iface 126 (.pointer (some ⟨bf, 0, none⟩))] 54) = we := ⟨_, rfl⟩
          have hE : we.heap[wr.heap.size]? = some (.cells #[.string { data := #[108, 105, 107, 101, 108, 121] }, .int .i64 48, .int .i64 24, .slice p1 p2 p3, .iface 126 (.pointer (some ⟨bf, 0, none⟩))] 54 (0, 0)) := by rw [← hwe]; exact World.alloc_heap_new wr _
          have hRe : Below W5.heap.size W5 we := by rw [← hwe]; exact hR.alloc hR.size _
          rw [hwe]
          obtain ⟨⟨q0, q1, q2, q3, q4⟩, -⟩ := cells5 hE
          have hEd : we.drew.heap[wr.heap.size]? = some (.cells #[.string { data := #[108, 105, 107, 101, 108, 121] }, .int .i64 48, .int .i64 24, .slice p1 p2 p3, .iface 126 (.pointer (some ⟨bf, 0, none⟩))] 54 (0, 0)) := hE
          obtain ⟨⟨r0, r1, r2, r3, r4⟩, -⟩ := cells5 hEd
          clear hwe hE hEd
          go_upto_region 9 with fail
          go_region
          all_goals go_wp2
          all_goals go_ret2
          all_goals
            rw [HW.out, encB_some HW.out]
            refine ⟨_, rfl, ?_, HBB.out _ (by first | exact hRe | exact Below.drew hRe)⟩
            exact FaultZ.below ⟨bf, rfl, HBF.out⟩ (by first | exact hRe | exact Below.drew hRe)
      · have hix := idx20_2 g0 z0 g1 z1 g2 z2 g3 z3 wr
        have hPk := HP2.out
        obtain ⟨p1, p2, p3, hup⟩ := hPk.slice
        have HPk := Lib.hid hPk
        clear hPk
        cases hbd : badN im 2 with
        | none =>
          have hen : z2 = .nilIface := by have := HPk.out; rw [hbd] at this; exact this.1
          have HX := Lib.hid (show ∀ j, j < 2 + 1 → badN im j = none from fun j hj => by
            rcases Nat.lt_or_eq_of_le (Nat.le_of_lt_succ hj) with h | h
            · exact HU.out j h
            · rw [h]; exact hbd)
          subst hup hen
          clear hbd HPk
          go_upto_region 8 with fail
          obtain ⟨we, hwe⟩ : ∃ we, wr.alloc (.cells #[.string { data := #[114, 117, 108, 101] }, .int .i64 0, .int .i64 0, .slice p1 p2 p3, .nilIface] 54) = we := ⟨_, rfl⟩
          have hE : we.heap[wr.heap.size]? = some (.cells #[.string { data := #[114, 117, 108, 101] }, .int .i64 0, .int .i64 0, .slice p1 p2 p3, .nilIface] 54 (0, 0)) := by rw [← hwe]; exact World.alloc_heap_new wr _
          have hRe : Below W5.heap.size W5 we := by rw [← hwe]; exact hR.alloc hR.size _
          rw [hwe]
          obtain ⟨⟨q0, q1, q2, q3, q4⟩, -⟩ := cells5 hE
          clear hwe hE
          go_wp2
          go_roundw
          case rel => exact ⟨2 + 1, by omega, rfl, HX.out, hRe⟩
          case measure => simp [intOf]
        | some i =>
          have hpf := HPk.out
          rw [hbd] at hpf
          obtain ⟨⟨bf, hen, hbf⟩, -⟩ := hpf
          have HW := Lib.hid (show encE im = some (12, (i : Int), whN 2) by rw [encE_rest HM.out.1 HM.out.2, wrongZ_at (by decide) HU.out hbd]; rfl)
          have HBF := Lib.hid hbf
          subst hup hen
          clear hbd HPk hbf
          go_upto_region 8 with fail
          obtain ⟨we, hwe⟩ : ∃ we, wr.alloc (.cells #[.string { data := #[114, 117, 108, 101] }, .int .i64 0, .int .i64 0, .slice p1 p2 p3, .iface 126 (.pointer (some ⟨bf, 0, none⟩))] 54) = we := ⟨_, rfl⟩
          have hE : we.heap[wr.heap.size]? = some (.cells #[.string { data := #[114, 117, 108, 101] }, .int .i64 0, .int .i64 0, .slice p1 p2 p3, .iface 126 (.pointer (some ⟨bf, 0, none⟩))] 54 (0, 0)) := by rw [← hwe]; exact World.alloc_heap_new wr _
          have hRe : Below W5.heap.size W5 we := by rw [← hwe]; exact hR.alloc hR.size _
          rw [hwe]
          obtain ⟨⟨q0, q1, q2, q3, q4⟩, -⟩ := cells5 hE
          have hEd : we.drew.heap[wr.heap.size]? = some (.cells #[.string { data := #[114, 117, 108, 101] }, .int .i64 0, .int .i64 0, .slice p1 p2 p3, .iface 126 (.pointer (some ⟨bf, 0, none⟩))] 54 (0, 0)) := hE
          obtain ⟨⟨r0, r1, r2, r3, r4⟩, -⟩ := cells5 hEd
          clear hwe hE hEd
          go_upto_region 9 with fail
          go_region
          all_goals go_wp2
          all_goals go_ret2
          all_goals
            rw [HW.out, encB_some HW.out]
            refine ⟨_, rfl, ?_, HBB.out _ (by first | exact hRe | exact Below.drew hRe)⟩
            exact FaultZ.below ⟨bf, rfl, HBF.out⟩ (by first | exact hRe | exact Below.drew hRe)
      · have hix := idx20_3 g0 z0 g1 z1 g2 z2 g3 z3 wr
        have hPk := HP3.out
        obtain ⟨p1, p2, p3, hup⟩ := hPk.slice
        have HPk := Lib.hid hPk
        clear hPk
        cases hbd : badN im 3 with
        | none =>
          have hen : z3 = .nilIface := by have := HPk.out; rw [hbd] at this; exact this.1
          have HX := Lib.hid (show ∀ j, j < 3 + 1 → badN im j = none from fun j hj => by
            rcases Nat.lt_or_eq_of_le (Nat.le_of_lt_succ hj) with h | h
            · exact HU.out j h
            · rw [h]; exact hbd)
          subst hup hen
          clear hbd HPk
          go_upto_region 8 with fail
          obtain ⟨we, hwe⟩ : ∃ we, wr.alloc (.cells #[.string { data := #[109, 101, 109, 98, 101, 114] }, .int .i64 16, .int .i64 16, .slice p1 p2 p3, .nilIface] 54) = we := ⟨_, rfl⟩
          have hE : we.heap[wr.heap.size]? = some (.cells #[.string { data := #[109, 101, 109, 98, 101, 114] }, .int .i64 16, .int .i64 16, .slice p1 p2 p3, .nilIface] 54 (0, 0)) := by rw [← hwe]; exact World.alloc_heap_new wr _
          have hRe : Below W5.heap.size W5 we := by rw [← hwe]; exact hR.alloc hR.size _
          rw [hwe]
          obtain ⟨⟨q0, q1, q2, q3, q4⟩, -⟩ := cells5 hE
          clear hwe hE
          go_wp2
          go_roundw
          case rel => exact ⟨3 + 1, by omega, rfl, HX.out, hRe⟩
          case measure => simp [intOf]
        | some i =>
          have hpf := HPk.out
          rw [hbd] at hpf
          obtain ⟨⟨bf, hen, hbf⟩, -⟩ := hpf
          have HW := Lib.hid (show encE im = some (12, (i : Int), whN 3) by rw [encE_rest HM.out.1 HM.out.2, wrongZ_at (by decide) HU.out hbd]; rfl)
          have HBF := Lib.hid hbf
          subst hup hen
          clear hbd HPk hbf
          go_upto_region 8 with fail
          obtain ⟨we, hwe⟩ : ∃ we, wr.alloc (.cells #[.string { data := #[109, 101, 109, 98, 101, 114] }, .int .i64 16, .int .i64 16, .slice p1 p2 p3, .iface 126 (.pointer (some ⟨bf, 0, none⟩))] 54) = we := ⟨_, rfl⟩
          have hE : we.heap[wr.heap.size]? = some (.cells #[.string { data := #[109, 101, 109, 98, 101, 114] }, .int .i64 16, .int .i64 16, .slice p1 p2 p3, .iface 126 (.pointer (some ⟨bf, 0, none⟩))] 54 (0, 0)) := by rw [← hwe]; exact World.alloc_heap_new wr _
          have hRe : Below W5.heap.size W5 we := by rw [← hwe]; exact hR.alloc hR.size _
          rw [hwe]
          obtain ⟨⟨q0, q1, q2, q3, q4⟩, -⟩ := cells5 hE
          have hEd : we.drew.heap[wr.heap.size]? = some (.cells #[.string { data := #[109, 101, 109, 98, 101, 114] }, .int .i64 16, .int .i64 16, .slice p1 p2 p3, .iface 126 (.pointer (some ⟨bf, 0, none⟩))] 54 (0, 0)) := hE
          obtain ⟨⟨r0, r1, r2, r3, r4⟩, -⟩ := cells5 hEd
          clear hwe hE hEd
          go_upto_region 9 with fail
          go_region
          all_goals go_wp2
          all_goals go_ret2
          all_goals
            rw [HW.out, encB_some HW.out]
            refine ⟨_, rfl, ?_, HBB.out _ (by first | exact hRe | exact Below.drew hRe)⟩
            exact FaultZ.below ⟨bf, rfl, HBF.out⟩ (by first | exact hRe | exact Below.drew hRe)
      · obtain rfl : k = 0 := by omega
        have HNW := Lib.hid (show ∀ j, j < 4 → badN im j = none from HU.out)
        have x0 := HP0.out
        have x1 := HP1.out
        have x2 := HP2.out
        have x3 := HP3.out
        rw [HNW.out 0 (by decide)] at x0
        rw [HNW.out 1 (by decide)] at x1
        rw [HNW.out 2 (by decide)] at x2
        rw [HNW.out 3 (by decide)] at x3
        obtain ⟨rfl, y0⟩ := x0
        obtain ⟨rfl, y1⟩ := x1
        obtain ⟨rfl, y2⟩ := x2
        obtain ⟨rfl, y3⟩ := x3
        obtain ⟨s0, t0, r0, rfl⟩ := own_sliceZ y0
        obtain ⟨s1, t1, r1, rfl⟩ := own_sliceZ y1
        obtain ⟨s2, t2, r2, rfl⟩ := own_sliceZ y2
        obtain ⟨s3, t3, r3, rfl⟩ := own_sliceZ y3
        have HY0 := Lib.hid (fun w' (h : Below W5.heap.size W5 w') => bytes_0 im _ w' (own_belowW y0 h) (HN.out 0))
        have HY1 := Lib.hid (fun w' (h : Below W5.heap.size W5 w') => bytes_1 im _ w' (own_belowW y1 h) (HN.out 1))
        have HY2 := Lib.hid (fun w' (h : Below W5.heap.size W5 w') => bytes_2 im _ w' (own_belowW y2 h) (HN.out 2))
        have HY3 := Lib.hid (fun w' (h : Below W5.heap.size W5 w') => bytes_3 im _ w' (own_belowW y3 h) (HN.out 3))
        have HIX0 := Lib.hid (fun w' => idx20_0 (.slice s0 t0 r0) .nilIface (.slice s1 t1 r1) .nilIface (.slice s2 t2 r2) .nilIface (.slice s3 t3 r3) .nilIface w')
        have HIX1 := Lib.hid (fun w' => idx20_1 (.slice s0 t0 r0) .nilIface (.slice s1 t1 r1) .nilIface (.slice s2 t2 r2) .nilIface (.slice s3 t3 r3) .nilIface w')
        have HIX2 := Lib.hid (fun w' => idx20_2 (.slice s0 t0 r0) .nilIface (.slice s1 t1 r1) .nilIface (.slice s2 t2 r2) .nilIface (.slice s3 t3 r3) .nilIface w')
        have HIX3 := Lib.hid (fun w' => idx20_3 (.slice s0 t0 r0) .nilIface (.slice s1 t1 r1) .nilIface (.slice s2 t2 r2) .nilIface (.slice s3 t3 r3) .nilIface w')
        have c := H65.out _ hR
        obtain ⟨d0, d1, d2, d3, d4, d5⟩ := c
        clear y0 y1 y2 y3 HP0 HP1 HP2 HP3
        go_upto_region 12 with (go_at_call 21; (with_reducible refine (HHD.out _).mono ?_); rintro e w6 ⟨rfl, hb6⟩)
        have hR6 := hR.trans (hb6.mono hR.size)
        have hblk := HBK.out _ hR6
        clear d0 d1 d2 d3 d4 d5 hb6 hR
        go_wp2_with (refine wpList_load_row rfl _ _ rfl _ rfl _ _ _ _ hblk Tryz.underlying55 rfl sizeParts ?_)
        clear hblk HBK HHD H65 HU
        go_loopw [8, 10, 11, 12, 33] (fun out _ _ _ i wr => ∃ k : Nat, k ≤ 4 ∧ i = .int .i64 (k : Int) ∧ out = .string (outN im k) ∧ (∀ j, j < k → dupN im j = false) ∧ Below W5.heap.size W5 wr) (fun _ _ _ _ i _ => 4 - (intOf i).toNat)
        case atStart => exact ⟨0, Nat.zero_le _, rfl, rfl, fun j hj => absurd hj (Nat.not_lt_zero _), hR6⟩
        case round =>
          obtain ⟨k, hk, rfl, rfl, hu, hR⟩ := hrel
          have HU := Lib.hid hu
          clear hu hR6
          rcases k with _ | _ | _ | _ | k
          · have hix := HIX0.out wr
            have HBY := Lib.hid (HY0.out wr hR)
            have HST := Lib.hid (show outN im 0 ++ partB im 0 = outN im (0 + 1) from rfl)
            have hs1 := outN_le im 0 (by decide) HN.out
            have hs2 := outN_le im (0 + 1) (by decide) HN.out
            rw [← HST.out, ByteArray.size_append] at hs2
            have hnf : ¬ 9223372036854775807 < (outN im 0).size + (partB im 0).size := by omega
            clear hs1 hs2
            generalize outN im 0 = out at *
            generalize partB im 0 = pb at *
            go_upto_region 15 with fail
            obtain ⟨we, hwe⟩ : ∃ we, wr.alloc (.cells #[.string { data := #[97, 108, 105, 97, 115] }, .int .i64 41, .int .i64 17, .slice s0 t0 r0, .nilIface] 54) = we := ⟨_, rfl⟩
            have hE : we.heap[wr.heap.size]? = some (.cells #[.string { data := #[97, 108, 105, 97, 115] }, .int .i64 41, .int .i64 17, .slice s0 t0 r0, .nilIface] 54 (0, 0)) := by rw [← hwe]; exact World.alloc_heap_new wr _
            have hRe : Below W5.heap.size W5 we := by rw [← hwe]; exact hR.alloc hR.size _
            have HBY := Lib.hid (HY0.out we hRe)
            rw [hwe]
            obtain ⟨⟨q0, q1, q2, q3, q4⟩, -⟩ := cells5 hE
            clear hwe hE
            cases hdp : dupN im 0 with
            | false =>
              have HX := Lib.hid (show ∀ j, j < 0 + 1 → dupN im j = false from fun j hj => by
                rcases Nat.lt_or_eq_of_le (Nat.le_of_lt_succ hj) with h | h
                · exact HU.out j h
                · rw [h]; exact hdp)
              have HBZ := Lib.hid (HBY.out.mono (R' := fun e w' => e = .returned (.tuple #[.string pb, .nilIface]) ∧ Below we.heap.size we w') fun e w' ⟨s, v, h1, h2, h3⟩ => by
                rcases h2 with ⟨_, rfl, rfl⟩ | ⟨h, _⟩
                · exact ⟨h1, h3⟩
                · rw [hdp] at h; cases h)
              clear hdp HBY
              go_wp2_with (go_at_call 22; (with_reducible refine HBZ.out.mono ?_); rintro e w7 ⟨rfl, hb7⟩)
              go_roundw
              case rel => exact ⟨0 + 1, by omega, rfl, by rw [HST.out], HX.out, hRe.trans (hb7.mono hRe.size)⟩
              case measure => simp [intOf]
            | true =>
              have HW := Lib.hid (show encE im = some (13, 0, whN 0) by rw [encE_rest HM.out.1 HM.out.2, wrongZ_none HNW.out, dupZ_at (by decide) HU.out hdp]; rfl)
              have HBZ := Lib.hid (HBY.out.mono (R' := fun e w' => ∃ s bf, e = .returned (.tuple #[.string s, .iface 126 (.pointer (some ⟨bf, 0, none⟩))]) ∧ w'.heap[bf]? = some (faultObj 0 (whN 0) (.iface 63 (.int .i64 13))) ∧ Below we.heap.size we w') fun e w' ⟨s, v, h1, h2, h3⟩ => by
                rcases h2 with ⟨h, _⟩ | ⟨_, bf, rfl, hbf⟩
                · rw [hdp] at h; cases h
                · exact ⟨s, bf, h1, hbf, h3⟩)
              clear hdp HBY
              go_wp2_with (go_at_call 22; (with_reducible refine HBZ.out.mono ?_); rintro e w7 ⟨s7, bf, rfl, hbf, hb7⟩; have HBF := Lib.hid hbf; clear hbf)
              go_ret2
              rw [HW.out, encB_some HW.out]
              exact ⟨_, rfl, ⟨bf, rfl, HBF.out⟩, HBB.out _ (hRe.trans (hb7.mono hRe.size))⟩
          · have hix := HIX1.out wr
            have HBY := Lib.hid (HY1.out wr hR)
            have HST := Lib.hid (show outN im 1 ++ partB im 1 = outN im (1 + 1) from rfl)
            have hs1 := outN_le im 1 (by decide) HN.out
            have hs2 := outN_le im (1 + 1) (by decide) HN.out
            rw [← HST.out, ByteArray.size_append] at hs2
            have hnf : ¬ 9223372036854775807 < (outN im 1).size + (partB im 1).size := by omega
            clear hs1 hs2
            generalize outN im 1 = out at *
            generalize partB im 1 = pb at *
            go_upto_region 15 with fail
            obtain ⟨we, hwe⟩ : ∃ we, wr.alloc (.cells #[.string { data := #[108, 105, 107, 101, 108, 121] }, .int .i64 48, .int .i64 24, .slice s1 t1 r1, .nilIface] 54) = we := ⟨_, rfl⟩
            have hE : we.heap[wr.heap.size]? = some (.cells #[.string { data := #[108, 105, 107, 101, 108, 121] }, .int .i64 48, .int .i64 24, .slice s1 t1 r1, .nilIface] 54 (0, 0)) := by rw [← hwe]; exact World.alloc_heap_new wr _
            have hRe : Below W5.heap.size W5 we := by rw [← hwe]; exact hR.alloc hR.size _
            have HBY := Lib.hid (HY1.out we hRe)
            rw [hwe]
            obtain ⟨⟨q0, q1, q2, q3, q4⟩, -⟩ := cells5 hE
            clear hwe hE
            cases hdp : dupN im 1 with
            | false =>
              have HX := Lib.hid (show ∀ j, j < 1 + 1 → dupN im j = false from fun j hj => by
                rcases Nat.lt_or_eq_of_le (Nat.le_of_lt_succ hj) with h | h
                · exact HU.out j h
                · rw [h]; exact hdp)
              have HBZ := Lib.hid (HBY.out.mono (R' := fun e w' => e = .returned (.tuple #[.string pb, .nilIface]) ∧ Below we.heap.size we w') fun e w' ⟨s, v, h1, h2, h3⟩ => by
                rcases h2 with ⟨_, rfl, rfl⟩ | ⟨h, _⟩
                · exact ⟨h1, h3⟩
                · rw [hdp] at h; cases h)
              clear hdp HBY
              go_wp2_with (go_at_call 22; (with_reducible refine HBZ.out.mono ?_); rintro e w7 ⟨rfl, hb7⟩)
              go_roundw
              case rel => exact ⟨1 + 1, by omega, rfl, by rw [HST.out], HX.out, hRe.trans (hb7.mono hRe.size)⟩
              case measure => simp [intOf]
            | true =>
              have HW := Lib.hid (show encE im = some (13, 0, whN 1) by rw [encE_rest HM.out.1 HM.out.2, wrongZ_none HNW.out, dupZ_at (by decide) HU.out hdp]; rfl)
              have HBZ := Lib.hid (HBY.out.mono (R' := fun e w' => ∃ s bf, e = .returned (.tuple #[.string s, .iface 126 (.pointer (some ⟨bf, 0, none⟩))]) ∧ w'.heap[bf]? = some (faultObj 0 (whN 1) (.iface 63 (.int .i64 13))) ∧ Below we.heap.size we w') fun e w' ⟨s, v, h1, h2, h3⟩ => by
                rcases h2 with ⟨h, _⟩ | ⟨_, bf, rfl, hbf⟩
                · rw [hdp] at h; cases h
                · exact ⟨s, bf, h1, hbf, h3⟩)
              clear hdp HBY
              go_wp2_with (go_at_call 22; (with_reducible refine HBZ.out.mono ?_); rintro e w7 ⟨s7, bf, rfl, hbf, hb7⟩; have HBF := Lib.hid hbf; clear hbf)
              go_ret2
              rw [HW.out, encB_some HW.out]
              exact ⟨_, rfl, ⟨bf, rfl, HBF.out⟩, HBB.out _ (hRe.trans (hb7.mono hRe.size))⟩
          · have hix := HIX2.out wr
            have HBY := Lib.hid (HY2.out wr hR)
            have HST := Lib.hid (show outN im 2 ++ partB im 2 = outN im (2 + 1) from rfl)
            have hs1 := outN_le im 2 (by decide) HN.out
            have hs2 := outN_le im (2 + 1) (by decide) HN.out
            rw [← HST.out, ByteArray.size_append] at hs2
            have hnf : ¬ 9223372036854775807 < (outN im 2).size + (partB im 2).size := by omega
            clear hs1 hs2
            generalize outN im 2 = out at *
            generalize partB im 2 = pb at *
            go_upto_region 15 with fail
            obtain ⟨we, hwe⟩ : ∃ we, wr.alloc (.cells #[.string { data := #[114, 117, 108, 101] }, .int .i64 0, .int .i64 0, .slice s2 t2 r2, .nilIface] 54) = we := ⟨_, rfl⟩
            have hE : we.heap[wr.heap.size]? = some (.cells #[.string { data := #[114, 117, 108, 101] }, .int .i64 0, .int .i64 0, .slice s2 t2 r2, .nilIface] 54 (0, 0)) := by rw [← hwe]; exact World.alloc_heap_new wr _
            have hRe : Below W5.heap.size W5 we := by rw [← hwe]; exact hR.alloc hR.size _
            have HBY := Lib.hid (HY2.out we hRe)
            rw [hwe]
            obtain ⟨⟨q0, q1, q2, q3, q4⟩, -⟩ := cells5 hE
            clear hwe hE
            cases hdp : dupN im 2 with
            | false =>
              have HX := Lib.hid (show ∀ j, j < 2 + 1 → dupN im j = false from fun j hj => by
                rcases Nat.lt_or_eq_of_le (Nat.le_of_lt_succ hj) with h | h
                · exact HU.out j h
                · rw [h]; exact hdp)
              have HBZ := Lib.hid (HBY.out.mono (R' := fun e w' => e = .returned (.tuple #[.string pb, .nilIface]) ∧ Below we.heap.size we w') fun e w' ⟨s, v, h1, h2, h3⟩ => by
                rcases h2 with ⟨_, rfl, rfl⟩ | ⟨h, _⟩
                · exact ⟨h1, h3⟩
                · rw [hdp] at h; cases h)
              clear hdp HBY
              go_wp2_with (go_at_call 22; (with_reducible refine HBZ.out.mono ?_); rintro e w7 ⟨rfl, hb7⟩)
              go_roundw
              case rel => exact ⟨2 + 1, by omega, rfl, by rw [HST.out], HX.out, hRe.trans (hb7.mono hRe.size)⟩
              case measure => simp [intOf]
            | true =>
              have HW := Lib.hid (show encE im = some (13, 0, whN 2) by rw [encE_rest HM.out.1 HM.out.2, wrongZ_none HNW.out, dupZ_at (by decide) HU.out hdp]; rfl)
              have HBZ := Lib.hid (HBY.out.mono (R' := fun e w' => ∃ s bf, e = .returned (.tuple #[.string s, .iface 126 (.pointer (some ⟨bf, 0, none⟩))]) ∧ w'.heap[bf]? = some (faultObj 0 (whN 2) (.iface 63 (.int .i64 13))) ∧ Below we.heap.size we w') fun e w' ⟨s, v, h1, h2, h3⟩ => by
                rcases h2 with ⟨h, _⟩ | ⟨_, bf, rfl, hbf⟩
                · rw [hdp] at h; cases h
                · exact ⟨s, bf, h1, hbf, h3⟩)
              clear hdp HBY
              go_wp2_with (go_at_call 22; (with_reducible refine HBZ.out.mono ?_); rintro e w7 ⟨s7, bf, rfl, hbf, hb7⟩; have HBF := Lib.hid hbf; clear hbf)
              go_ret2
              rw [HW.out, encB_some HW.out]
              exact ⟨_, rfl, ⟨bf, rfl, HBF.out⟩, HBB.out _ (hRe.trans (hb7.mono hRe.size))⟩
          · have hix := HIX3.out wr
            have HBY := Lib.hid (HY3.out wr hR)
            have HST := Lib.hid (show outN im 3 ++ partB im 3 = outN im (3 + 1) from rfl)
            have hs1 := outN_le im 3 (by decide) HN.out
            have hs2 := outN_le im (3 + 1) (by decide) HN.out
            rw [← HST.out, ByteArray.size_append] at hs2
            have hnf : ¬ 9223372036854775807 < (outN im 3).size + (partB im 3).size := by omega
            clear hs1 hs2
            generalize outN im 3 = out at *
            generalize partB im 3 = pb at *
            go_upto_region 15 with fail
            obtain ⟨we, hwe⟩ : ∃ we, wr.alloc (.cells #[.string { data := #[109, 101, 109, 98, 101, 114] }, .int .i64 16, .int .i64 16, .slice s3 t3 r3, .nilIface] 54) = we := ⟨_, rfl⟩
            have hE : we.heap[wr.heap.size]? = some (.cells #[.string { data := #[109, 101, 109, 98, 101, 114] }, .int .i64 16, .int .i64 16, .slice s3 t3 r3, .nilIface] 54 (0, 0)) := by rw [← hwe]; exact World.alloc_heap_new wr _
            have hRe : Below W5.heap.size W5 we := by rw [← hwe]; exact hR.alloc hR.size _
            have HBY := Lib.hid (HY3.out we hRe)
            rw [hwe]
            obtain ⟨⟨q0, q1, q2, q3, q4⟩, -⟩ := cells5 hE
            clear hwe hE
            cases hdp : dupN im 3 with
            | false =>
              have HX := Lib.hid (show ∀ j, j < 3 + 1 → dupN im j = false from fun j hj => by
                rcases Nat.lt_or_eq_of_le (Nat.le_of_lt_succ hj) with h | h
                · exact HU.out j h
                · rw [h]; exact hdp)
              have HBZ := Lib.hid (HBY.out.mono (R' := fun e w' => e = .returned (.tuple #[.string pb, .nilIface]) ∧ Below we.heap.size we w') fun e w' ⟨s, v, h1, h2, h3⟩ => by
                rcases h2 with ⟨_, rfl, rfl⟩ | ⟨h, _⟩
                · exact ⟨h1, h3⟩
                · rw [hdp] at h; cases h)
              clear hdp HBY
              go_wp2_with (go_at_call 22; (with_reducible refine HBZ.out.mono ?_); rintro e w7 ⟨rfl, hb7⟩)
              go_roundw
              case rel => exact ⟨3 + 1, by omega, rfl, by rw [HST.out], HX.out, hRe.trans (hb7.mono hRe.size)⟩
              case measure => simp [intOf]
            | true =>
              have HW := Lib.hid (show encE im = some (13, 0, whN 3) by rw [encE_rest HM.out.1 HM.out.2, wrongZ_none HNW.out, dupZ_at (by decide) HU.out hdp]; rfl)
              have HBZ := Lib.hid (HBY.out.mono (R' := fun e w' => ∃ s bf, e = .returned (.tuple #[.string s, .iface 126 (.pointer (some ⟨bf, 0, none⟩))]) ∧ w'.heap[bf]? = some (faultObj 0 (whN 3) (.iface 63 (.int .i64 13))) ∧ Below we.heap.size we w') fun e w' ⟨s, v, h1, h2, h3⟩ => by
                rcases h2 with ⟨h, _⟩ | ⟨_, bf, rfl, hbf⟩
                · rw [hdp] at h; cases h
                · exact ⟨s, bf, h1, hbf, h3⟩)
              clear hdp HBY
              go_wp2_with (go_at_call 22; (with_reducible refine HBZ.out.mono ?_); rintro e w7 ⟨s7, bf, rfl, hbf, hb7⟩; have HBF := Lib.hid hbf; clear hbf)
              go_ret2
              rw [HW.out, encB_some HW.out]
              exact ⟨_, rfl, ⟨bf, rfl, HBF.out⟩, HBB.out _ (hRe.trans (hb7.mono hRe.size))⟩
          · obtain rfl : k = 0 := by omega
            have HW := Lib.hid (show encE im = none by rw [encE_rest HM.out.1 HM.out.2, wrongZ_none HNW.out, dupZ_none HU.out]; rfl)
            have HZ := Lib.hid (encB_none HW.out)
            go_wp2
            go_ret2
            rw [HW.out, HZ.out]
            exact ⟨_, rfl, rfl, HBB.out _ hR⟩
end Go.Proofs.YtbafmnafhaoggaaGreatDoor
