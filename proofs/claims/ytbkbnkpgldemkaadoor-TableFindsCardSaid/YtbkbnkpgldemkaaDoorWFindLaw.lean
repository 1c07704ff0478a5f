/-
  TableFinds: its walk.
-/
import Derived.Test.YtbkbnkpgldemkaaDoorWFinds
import Derived.Test.YtbkbnkpgldemkaaDoorWRefB
import Derived.Test.YtbkbnkpgldemkaaDoorWArgs
import Derived.Deep.RegionHeld3
import Derived.Laws.IdiomStrings
namespace Go.Proofs.YtbkbnkpgldemkaaDoor
open Go Go.RowKit

theorem refE_same {W K : Nat} {R : List ByteArray} (h1 : 0 < K) (h2 : K ≤ W) (h3 : W ≤ 255) (hR : ∀ x ∈ R, x.size = W) : buildE (W : Int) (K : Int) R (catW (buildRW K R)) = match badW K (sortW R) with
    | some i => some (13, ((i * W : Nat) : Int))
    | none => none := by
  have hB : ∀ x ∈ buildRW K R, x.size = W := fun x hx => hR x ((buildRW_both K R).1.mem_iff.1 hx)
  have ho : oddW (W : Int) R = none := List.findIdx?_eq_none_iff.2 fun x hx => by simp [hR x hx]
  rw [buildE_ok (by omega), ho]
  show newE (W : Int) (K : Int) (catW (buildRW K R)) = _
  rw [newE_order h1 h2 h3 (by rw [cat_size hB]; exact Nat.mul_mod_left _ _), rows_cat (by omega) hB, ← bad_same]
  cases badW K (sortW R) <;> rfl
theorem refB_ok {W K : Nat} {R : List ByteArray} {v : Value} (w : World) (hv : RowW w v R) (h1 : 0 < K) (h2 : K ≤ W) (h3 : W ≤ 255) (hl : R.length ≤ 100) (hR : ∀ x ∈ R, x.size = W) (hb : badW K (sortW R) = none) :
    Calls Tryd.prog 9 #[.int .i64 (W : Int), .int .i64 (K : Int), v] w fun e w' => ∃ a c, e = .returned (.agg #[.slice a (sortW R).length c, .int .i64 0, .int .i64 0]) ∧ (RowW w' (.slice a (sortW R).length c) (sortW R) ∧ Below w.heap.size w w') := by
  refine (refBuild_any (W : Int) (K : Int) v R w hv hl (fun x hx => by rw [hR x hx]; omega)).mono fun e w' ⟨u, ee, p, h, hg, hbel⟩ => ?_
  have hB : ∀ x ∈ buildRW K R, x.size = W := fun x hx => hR x ((buildRW_both K R).1.mem_iff.1 hx)
  rw [Int.toNat_natCast, Int.toNat_natCast, refE_same h1 h2 h3 hR, hb, rows_cat (by omega) hB, ← build_same h1 (fun x hx => by rw [hR x hx]; exact h2) hb] at hg
  obtain ⟨rfl, rfl, ho⟩ := hg
  obtain ⟨a, c, rfl⟩ := (RowW.of_own ho).slice
  exact ⟨a, c, h, RowW.of_own ho, hbel⟩
theorem refB_err {W K i : Nat} {R : List ByteArray} {v : Value} (w : World) (hv : RowW w v R) (h1 : 0 < K) (h2 : K ≤ W) (h3 : W ≤ 255) (hl : R.length ≤ 100) (hR : ∀ x ∈ R, x.size = W) (hb : badW K (sortW R) = some i) :
    Calls Tryd.prog 9 #[.int .i64 (W : Int), .int .i64 (K : Int), v] w fun e w' => ∃ p, e = .returned (.agg #[.slice none 0 0, .int .i64 13, .int .i64 p]) ∧ Below w.heap.size w w' := by
  refine (refBuild_any (W : Int) (K : Int) v R w hv hl (fun x hx => by rw [hR x hx]; omega)).mono fun e w' ⟨u, ee, p, h, hg, hbel⟩ => ?_
  rw [Int.toNat_natCast, Int.toNat_natCast, refE_same h1 h2 h3 hR, hb] at hg
  obtain ⟨rfl, rfl, rfl⟩ := hg
  exact ⟨_, h, hbel⟩

theorem conv_oneG (z : Int) (w w2 : World) (h : w2.cell? ⟨w.heap.size, 0, none⟩ = some (.int .u8 (z % 256))) : ∃ cc : ByteArray, cc.size = 1 ∧ (convert 38 9 (.slice (some ⟨w.heap.size, 0, none⟩) 1 1)).run Tryd.prog w2 = .ok (.string cc) w2 := by
  have hz : ((UInt8.ofNat (z % 256).toNat).toNat : Int) = z % 256 := by
    rw [UInt8.toNat_ofNat', Nat.mod_eq_of_lt (by omega)]; omega
  exact ⟨⟨[UInt8.ofNat (z % 256).toNat].toArray⟩, rfl, run_convert_bytes_back (P := Tryd.prog) w2 38 9 5 ⟨w.heap.size, 0, none⟩ 1 [UInt8.ofNat (z % 256).toNat] Tryd.underlying38 Tryd.underlying5 Tryd.underlying9 (fun j hj => by
    obtain rfl : j = 0 := by simpa using hj
    rw [Addr.add_lit]
    show w2.cell? ⟨w.heap.size, 0, none⟩ = some (.int .u8 ((UInt8.ofNat (z % 256).toNat).toNat : Int))
    rw [h, hz])⟩

set_option pp.maxSteps 1000000 in
set_option pp.deepTerms true in
set_option maxRecDepth 100000 in
set_option maxHeartbeats 8000000 in
theorem tableFinds_law (v : Value) (l : List ByteArray) (s : ByteArray) (a0 a1 a2 a3 : Int) (w : World) (hv : TextsIn w v l) (hss : s.size ≤ maxLen) (hg : TypeLaid w) :
    Calls Tryd.prog 3 #[v, .string s, .agg #[.int .i64 a0, .int .i64 a1, .int .i64 a2, .int .i64 a3]] w fun e w' => e = .returned (.bool true) ∧ Below w.heap.size w w' := by
  obtain ⟨hrow, hls⟩ := rowW_texts hv
  have hc0 := restW_lt a0 9 (by omega)
  obtain ⟨c0, hc0e⟩ : ∃ c, restW a0 9 = c := ⟨_, rfl⟩
  rw [hc0e] at hc0
  obtain ⟨W, hW⟩ : ∃ W, c0 + 1 = W := ⟨_, rfl⟩
  have hW1 : 1 ≤ W := by omega
  have hW9 : W ≤ 9 := by omega
  have hc1 := restW_lt a1 W hW1
  obtain ⟨c1, hc1e⟩ : ∃ c, restW a1 W = c := ⟨_, rfl⟩
  rw [hc1e] at hc1
  obtain ⟨K, hK⟩ : ∃ K, c1 + 1 = K := ⟨_, rfl⟩
  have hK1 : 0 < K := by omega
  have hKW : K ≤ W := by omega
  have RS0 := Lib.hid (fun w5 => show Calls Tryd.prog 8 #[.int .i64 a0, .int .i64 9] w5 fun e w' => e = .returned (.int .i64 (c0 : Int)) ∧ w5 = w' by
    have := rest11_any a0 9 w5 (by omega) (by omega)
    rwa [hc0e] at this)
  have RS1 := Lib.hid (fun w5 => show Calls Tryd.prog 8 #[.int .i64 a1, .int .i64 (W : Int)] w5 fun e w' => e = .returned (.int .i64 (c1 : Int)) ∧ w5 = w' by
    have := rest11_any a1 W w5 (by omega) (by omega)
    rwa [hc1e] at this)
  have hWe : 1 + (c0 : Int) = (W : Int) := by omega
  have hKe : 1 + (c1 : Int) = (K : Int) := by omega
  have AW := Lib.hid (fun w5 => awake11_any w5)
  have HROW := Lib.hid hrow
  have HLS := Lib.hid hls
  have HG := Lib.hid hg
  obtain ⟨ao, cap, rfl, -⟩ := hrow
  obtain ⟨W0, hW0⟩ : ∃ W0, w.alloc (.cells #[.int .i64 a0, .int .i64 a1, .int .i64 a2, .int .i64 a3] 23) = W0 := ⟨_, rfl⟩
  have hb0 : Below w.heap.size w W0 := by rw [← hW0]; exact (Below.refl _ w).alloc (Nat.le_refl _) _
  have hh0 : W0.heap[w.heap.size]? = some (.cells #[.int .i64 a0, .int .i64 a1, .int .i64 a2, .int .i64 a3] 23 (0, 0)) := by rw [← hW0]; exact World.alloc_heap_new w _
  have HQ := Lib.hid (fun w5 (hb : Below W0.heap.size W0 w5) => show w5.cell? ⟨w.heap.size, 0, none⟩ = some (.int .i64 a0) ∧ w5.cell? ⟨w.heap.size, 1, none⟩ = some (.int .i64 a1) ∧ w5.cell? ⟨w.heap.size, 2, none⟩ = some (.int .i64 a2) ∧ w5.cell? ⟨w.heap.size, 3, none⟩ = some (.int .i64 a3) from by
    have h := (hb.block _ (lt_of_block hh0)).trans hh0
    simp [World.cell?, h])
  have HB0 := Lib.hid hb0
  have HRS := Lib.hid (And.intro (rowsT_len W l) (rowsT_size l hW9))
  have RW := Lib.hid (fun w5 (hb : Below W0.heap.size W0 w5) => rows11_zero (.slice ao l.length cap) l W w5 hW9 (HROW.out.below (hb0.trans (hb.mono hb0.size))) HLS.out)
  clear hv hls hg hc0e hc1e hc0 hc1 hW hK hh0 hb0
  generalize rowsT W l = R at *
  cases hbad : badW K (sortW R) with
  | some i =>
    have HBD := Lib.hid hbad
    clear hbad
    go_enter Tryd.func3, Tryd.ntmps3
    go_wp2_with (go_at_call 7; (with_reducible refine (AW.out _).mono ?_); rintro e w1 ⟨rfl, hb1⟩; obtain ⟨q0, q1, q2, q3⟩ := HQ.out _ hb1; have HB1 := Lib.hid hb1; clear hb1 hW0)
    go_wp2_with (go_at_call 8; (with_reducible refine (RS0.out _).mono ?_); rintro e w' ⟨rfl, rfl⟩)
    go_wp2_with (go_at_call 8; (with_reducible refine (RS1.out _).mono ?_); rintro e w' ⟨rfl, rfl⟩)
    go_wp2_with (go_at_call 10; (with_reducible refine (RW.out _ HB1.out).mono ?_); rintro e w2 ⟨u, rfl, hu⟩; have HU := Lib.hid hu; obtain ⟨ao2, cap2, hsl⟩ := (RowW.of_own hu.1).slice; subst hsl; have HB2 := Lib.hid (HB1.out.trans (hu.2.mono HB1.out.size)); clear hu q0 q1 q2 q3)
    obtain ⟨hRl, hRs⟩ := HRS.out
    go_upto_region 5 with (go_at_call 9; (with_reducible refine (refB_err w2 (RowW.of_own HU.out.1) hK1 hKW (by omega) (by omega) hRs HBD.out).mono ?_); rintro e w3 ⟨p3, rfl, hb⟩; have HB3 := Lib.hid (HB2.out.trans (hb.mono HB2.out.size)); clear hb)
    obtain ⟨W4, hW4⟩ : ∃ W4, w3.alloc (.cells #[.slice none 0 0, .int .i64 13, .int .i64 p3] 28) = W4 := ⟨_, rfl⟩
    have HG4 := Lib.hid (show W4.heap[w3.heap.size]? = some (gotObj (.slice none 0 0) 13 p3) by rw [← hW4]; exact World.alloc_heap_new w3 _)
    have HB4 := Lib.hid (show Below W0.heap.size W0 W4 by rw [← hW4]; exact HB3.out.alloc HB3.out.size _)
    rw [hW4]
    obtain ⟨G, hG⟩ : ∃ G, w3.heap.size = G := ⟨_, rfl⟩
    rw [hG] at HG4 ⊢
    clear hW4 hG
    go_wp2_with (go_at_call 10; (with_reducible refine (RW.out _ HB4.out).mono ?_); rintro e w5 ⟨u, rfl, hu⟩; have HU5 := Lib.hid hu; obtain ⟨ao5, cap5, hsl⟩ := (RowW.of_own hu.1).slice; subst hsl; have HB5 := Lib.hid (HB4.out.trans (hu.2.mono HB4.out.size)); clear hu)
    go_upto_region 6 with (go_at_call 11; (with_reducible refine (build_err w5 (RowW.of_own HU5.out.1) hK1 hKW (by omega) (by omega) hRs HBD.out).mono ?_); rintro e w6 ⟨ty, uu, rfl, hf, hb⟩; have HF := Lib.hid hf; have HB6 := Lib.hid (HB5.out.trans (hb.mono HB5.out.size)); have HG6 := Lib.hid ((hb.block _ (lt_of_block ((HU5.out.2.block _ (lt_of_block HG4.out)).trans HG4.out))).trans ((HU5.out.2.block _ (lt_of_block HG4.out)).trans HG4.out)); clear hf hb)
    obtain ⟨c0, c1, c2⟩ := got_cells HG6.out
    have hn13 : ((13 : Int) == 0) = false := rfl
    have HKD := Lib.hid (fun w5 (hb : Below w6.heap.size w6 w5) => kindW_any w5 (HF.out.below hb) (((HG.out.below HB0.out HG.out.size).below HB6.out (Nat.lt_of_lt_of_le HG.out.size HB0.out.size)).below hb (Nat.lt_of_lt_of_le HG.out.size (Nat.le_trans HB0.out.size HB6.out.size))))
    go_upto_region 7 with fail
    have hbd : Below w6.heap.size w6 w6.drew := Below.drew (Below.refl _ _)
    have e1 : w6.drew.cell? ⟨G, 1, none⟩ = some (.int .i64 13) := c1
    have HCC := Lib.hid (fun (wb : World) (hb : Below w6.heap.size w6 wb) => (hb.cell (p := ⟨G, 1, none⟩) (lt_of_cellW c1)).trans c1)
    go_region_held3 (fun w' => Below w6.heap.size w6 w' ∧ w'.cell? ⟨G, 1, none⟩ = some (.int .i64 13))
      (exact ⟨by assumption, by assumption⟩)
      ((go_at_call 12; (with_reducible refine (HKD.out _ (by assumption)).mono ?_); rintro e w8 ⟨rfl, hb⟩; have gB : Below w6.heap.size w6 w8 := hbd.trans (hb.mono hbd.size); have gC : w8.cell? ⟨G, 1, none⟩ = some (.int .i64 13) := HCC.out _ gB; clear hb))
    all_goals
      go_wp2_with fail
      go_ret
      have z1 := HB0.out.trans (HB6.out.mono HB0.out.size)
      exact ⟨rfl, z1.trans (gB.mono z1.size)⟩
  | none =>
    have HBD := Lib.hid hbad
    clear hbad
    go_enter Tryd.func3, Tryd.ntmps3
    go_wp2_with (go_at_call 7; (with_reducible refine (AW.out _).mono ?_); rintro e w1 ⟨rfl, hb1⟩; obtain ⟨q0, q1, q2, q3⟩ := HQ.out _ hb1; have HB1 := Lib.hid hb1; clear hb1 hW0)
    go_wp2_with (go_at_call 8; (with_reducible refine (RS0.out _).mono ?_); rintro e w' ⟨rfl, rfl⟩)
    go_wp2_with (go_at_call 8; (with_reducible refine (RS1.out _).mono ?_); rintro e w' ⟨rfl, rfl⟩)
    go_wp2_with (go_at_call 10; (with_reducible refine (RW.out _ HB1.out).mono ?_); rintro e w2 ⟨u, rfl, hu⟩; have HU := Lib.hid hu; obtain ⟨ao2, cap2, hsl⟩ := (RowW.of_own hu.1).slice; subst hsl; have HB2 := Lib.hid (HB1.out.trans (hu.2.mono HB1.out.size)); clear hu q0 q1 q2 q3)
    obtain ⟨hRl, hRs⟩ := HRS.out
    go_upto_region 5 with (go_at_call 9; (with_reducible refine (refB_ok w2 (RowW.of_own HU.out.1) hK1 hKW (by omega) (by omega) hRs HBD.out).mono ?_); rintro e w3 ⟨ga, gc, rfl, hgr, hb⟩; have HGR3 := Lib.hid hgr; have HB3 := Lib.hid (HB2.out.trans (hb.mono HB2.out.size)); clear hgr hb)
    obtain ⟨W4, hW4⟩ : ∃ W4, w3.alloc (.cells #[.slice ga (sortW R).length gc, .int .i64 0, .int .i64 0] 28) = W4 := ⟨_, rfl⟩
    have hb4 : Below w3.heap.size w3 W4 := by rw [← hW4]; exact (Below.refl _ w3).alloc (Nat.le_refl _) _
    have HG4 := Lib.hid (show W4.heap[w3.heap.size]? = some (gotObj (.slice ga (sortW R).length gc) 0 0) by rw [← hW4]; exact World.alloc_heap_new w3 _)
    have HB4 := Lib.hid (HB3.out.trans (hb4.mono HB3.out.size))
    have HGR4 := Lib.hid (HGR3.out.below hb4)
    rw [hW4]
    obtain ⟨G, hG⟩ : ∃ G, w3.heap.size = G := ⟨_, rfl⟩
    rw [hG] at HG4 ⊢
    clear hW4 hG hb4 HGR3
    have hLl : (sortW R).length ≤ 12 := by rw [sortW_len]; exact hRl
    go_wp2_with (go_at_call 10; (with_reducible refine (RW.out _ HB4.out).mono ?_); rintro e w5 ⟨u, rfl, hu⟩; have HU5 := Lib.hid hu; obtain ⟨ao5, cap5, hsl⟩ := (RowW.of_own hu.1).slice; subst hsl; have HB5 := Lib.hid (HB4.out.trans (hu.2.mono HB4.out.size)); have HGR5 := Lib.hid (HGR4.out.below hu.2); clear hu)
    go_upto_region 6 with (go_at_call 11; (with_reducible refine (build_ok w5 (RowW.of_own HU5.out.1) hK1 hKW (by omega) (by omega) hRs HBD.out).mono ?_); rintro e w6 ⟨b, rfl, ht, hb⟩; have HT6 := Lib.hid ht; have HGR6 := Lib.hid (HGR5.out.below hb); have HB6 := Lib.hid (HB5.out.trans (hb.mono HB5.out.size)); have HG6 := Lib.hid ((hb.block _ (lt_of_block ((HU5.out.2.block _ (lt_of_block HG4.out)).trans HG4.out))).trans ((HU5.out.2.block _ (lt_of_block HG4.out)).trans HG4.out)); clear ht hb)
    have HSL := Lib.hid (sortW_size hRs)
    generalize sortW R = L at *
    clear hRl hRs HRS HGR4 HGR5 HU HU5
    have SH := Lib.hid (fun w5 => short11_any s w5 hss)
    obtain ⟨x, hx⟩ : ∃ x, cutW s = x := ⟨_, rfl⟩
    have hx60 : x.size ≤ 60 := by rw [← hx]; exact cutW_size s
    rw [hx] at SH
    clear hx
    obtain ⟨c0, c1, c2⟩ := got_cells HG6.out
    obtain ⟨q0, q1, q2, q3⟩ := HQ.out _ HB6.out
    have HC6 := Lib.hid (fun (wb : World) (hb : Below w6.heap.size w6 wb) => (hb.cell (p := ⟨G, 0, none⟩) (lt_of_cellW c0)).trans c0)
    have HFD := Lib.hid (fun (k' : ByteArray) w5 (hb : Below w6.heap.size w6 w5) => finds_any (.slice ga L.length gc) k' w5 (HT6.out.below hb) (HGR6.out.below hb) (by omega))
    have HTR := Lib.hid (fun (wa wb : World) (h1 : Below w6.heap.size w6 wa) (h2 : Below wa.heap.size wa wb) => h1.trans (h2.mono h1.size))
    have k0 : (0 : Int) ≤ (K : Int) := by omega
    rcases Nat.eq_zero_or_pos L.length with hz | hz
    · have hz1 : decide (0 < L.length) = false := decide_eq_false (by omega)
      have hz2 : ¬ (0 : Int) < (L.length : Int) := by omega
      clear hz
      go_upto_region 11 with (go_at_call 13; (with_reducible refine (SH.out _).mono ?_); rintro e w' ⟨rfl, rfl⟩)
      by_cases hxe : x.size = 0
      · obtain rfl : x = ⟨#[]⟩ := by apply bL_ext; exact List.eq_nil_of_length_eq_zero (by rw [bL_len]; exact hxe)
        go_upto_region 15 with fail
        obtain ⟨w7, hw7⟩ : ∃ w7, w6 = w7 := ⟨_, rfl⟩
        have HB7 := Lib.hid (show Below w6.heap.size w6 w7 by rw [← hw7]; exact Below.refl _ _)
        subst hw7
        have hbd : Below w6.heap.size w6 w6.drew := Below.drew HB7.out
        have e1 : w6.drew.cell? ⟨G, 0, none⟩ = some (.slice ga L.length gc) := HC6.out _ hbd
        have hq1 : ¬ 9223372036854775807 < (⟨#[]⟩ : ByteArray).size + 1 := by decide
        have hq2 : ¬ 9223372036854775807 < (⟨#[]⟩ : ByteArray).size + (⟨#[48]⟩ : ByteArray).size := by show ¬ 9223372036854775807 < (⟨#[]⟩ : ByteArray).size + 1; omega
        go_region_held3 (fun w' => Below w6.heap.size w6 w' ∧ w'.cell? ⟨G, 0, none⟩ = some (.slice ga L.length gc))
          (exact ⟨by assumption, by assumption⟩)
          (first
            | (go_at_call 13; (with_reducible refine (SH.out _).mono ?_); rintro e w' ⟨rfl, rfl⟩)
            | (go_at_call 14; (with_reducible refine (HFD.out _ _ (by assumption)).mono ?_); rintro e w8 ⟨rfl, hb⟩; have gB := HTR.out _ _ (by assumption) hb; have gC := HC6.out _ gB; clear hb))
        all_goals
          go_wp2_with fail
          go_ret
          have z1 := HB0.out.trans (HB6.out.mono HB0.out.size)
          exact ⟨rfl, z1.trans (gB.mono z1.size)⟩
      · have hx0 : 0 < x.size := by omega
        obtain ⟨m, hm⟩ : ∃ m, restW a3 x.size = m := ⟨_, rfl⟩
        have hmx : m < x.size := by rw [← hm]; exact restW_lt a3 _ hx0
        have RS3 := Lib.hid (fun w5 => show Calls Tryd.prog 8 #[.int .i64 a3, .int .i64 (x.size : Int)] w5 fun e w' => e = .returned (.int .i64 (m : Int)) ∧ w5 = w' by
          have := rest11_any a3 x.size w5 (by omega) (by omega)
          rwa [hm] at this)
        have hxn1 : (x.toList == (⟨#[]⟩ : ByteArray).toList) = false := by
          rw [eql_W]
          exact decide_eq_false (fun e => by rw [e] at hx0; exact absurd hx0 (by decide))
        have hxn2 : (x.toList != (⟨#[]⟩ : ByteArray).toList) = true := by rw [bne, hxn1]; rfl
        have hxn3 : x.toList.isEmpty = false := by
          cases hl : x.toList with
          | nil => rw [hl] at hxn1; simp at hxn1
          | cons _ _ => rfl
        have m0 : (0 : Int) ≤ (m : Int) := by omega
        have m1 : (m : Int) ≤ (x.size : Int) := by omega
        have m2 : (m : Int) + 1 ≤ (x.size : Int) := by omega
        have m3 : (0 : Int) ≤ (m : Int) + 1 := by omega
        clear hm
        go_upto_region 14 with (go_at_call 8; (with_reducible refine (RS3.out _).mono ?_); rintro e w' ⟨rfl, rfl⟩)
        obtain ⟨cc, hcc, hcv⟩ := conv_oneG a3 w6 (w6.alloc (.cells #[.int .u8 (a3 % 256)] 5)).drew (cell_of_one (World.alloc_heap_new w6 _))
        have hq5 : ¬ 9223372036854775807 < m + cc.size := by omega
        go_region
        clear hcv hcc hq5 RS3 hmx m1 m2
        go_upto_region 15 with fail
        generalize x.extract 0 m ++ cc ++ x.extract (m + 1) x.size = yy
        obtain ⟨w7, hw7⟩ : ∃ w7, (w6.alloc (.cells #[.int .u8 (a3 % 256)] 5)).drew = w7 := ⟨_, rfl⟩
        have HB7 := Lib.hid (show Below w6.heap.size w6 w7 by rw [← hw7]; exact Below.drew ((Below.refl _ _).alloc (by simp) _))
        rw [hw7]
        clear hw7
        have hbd : Below w6.heap.size w6 w7.drew := Below.drew HB7.out
        have e1 : w7.drew.cell? ⟨G, 0, none⟩ = some (.slice ga L.length gc) := HC6.out _ hbd
        have hq1 : ¬ 9223372036854775807 < x.size + 1 := by omega
        have hq2 : ¬ 9223372036854775807 < x.size + (⟨#[48]⟩ : ByteArray).size := by show ¬ 9223372036854775807 < x.size + 1; omega
        go_region_held3 (fun w' => Below w6.heap.size w6 w' ∧ w'.cell? ⟨G, 0, none⟩ = some (.slice ga L.length gc))
          (exact ⟨by assumption, by assumption⟩)
          (first
            | (go_at_call 13; (with_reducible refine (SH.out _).mono ?_); rintro e w' ⟨rfl, rfl⟩)
            | (go_at_call 14; (with_reducible refine (HFD.out _ _ (by assumption)).mono ?_); rintro e w8 ⟨rfl, hb⟩; have gB := HTR.out _ _ (by assumption) hb; have gC := HC6.out _ gB; clear hb))
        all_goals
          go_wp2_with fail
          go_ret
          have z1 := HB0.out.trans (HB6.out.mono HB0.out.size)
          exact ⟨rfl, z1.trans (gB.mono z1.size)⟩
    · have hz1 : decide (0 < L.length) = true := decide_eq_true hz
      have hz2 : (0 : Int) < (L.length : Int) := by omega
      obtain ⟨n, hne⟩ : ∃ n, restW a2 L.length = n := ⟨_, rfl⟩
      have hn : n < L.length := by rw [← hne]; exact restW_lt a2 _ hz
      have RS2 := Lib.hid (fun w5 => show Calls Tryd.prog 8 #[.int .i64 a2, .int .i64 (L.length : Int)] w5 fun e w' => e = .returned (.int .i64 (n : Int)) ∧ w' = w5 by
        have := rest11_any a2 L.length w5 (by omega) (by omega)
        rw [hne] at this
        exact this.mono fun e w' ⟨h1, h2⟩ => ⟨h1, h2.symm⟩)
      obtain ⟨r, hr⟩ : ∃ r, L[n]? = some r := ⟨_, List.getElem?_eq_getElem hn⟩
      have hrs := HSL.out r (mem_of_at hr)
      have hr1 : (K : Int) ≤ (r.size : Int) := by omega
      have n0 : (0 : Int) ≤ (n : Int) := by omega
      have n1 : (n : Int) < (L.length : Int) := by omega
      obtain ⟨ga', gc', ge', hgc⟩ := HGR6.out
      injection ge' with w1' w2' w3'
      subst w1'
      subst w3'
      obtain ⟨g0, o0, rfl, cy⟩ := hgc n r hr
      clear hgc hne hr
      go_upto_region 10 with (go_at_call 13; (with_reducible refine (SH.out _).mono ?_); rintro e w' ⟨rfl, rfl⟩)
      go_quiet (first | (go_at_call 8; exact Calls.quiet_of_same (RS2.out _)))
      have hxk : (r.extract 0 K).size = K := by rw [ByteArray.size_extract]; omega
      have hx0 : 0 < (r.extract 0 K).size := by rw [hxk]; omega
      have hxK : (r.extract 0 K).size ≤ 60 := by omega
      generalize r.extract 0 K = y at *
      clear hxk
      obtain ⟨m, hm⟩ : ∃ m, restW a3 y.size = m := ⟨_, rfl⟩
      have hmx : m < y.size := by rw [← hm]; exact restW_lt a3 _ hx0
      have RS3 := Lib.hid (fun w5 => show Calls Tryd.prog 8 #[.int .i64 a3, .int .i64 (y.size : Int)] w5 fun e w' => e = .returned (.int .i64 (m : Int)) ∧ w5 = w' by
        have := rest11_any a3 y.size w5 (by omega) (by omega)
        rwa [hm] at this)
      have hxn1 : (y.toList == (⟨#[]⟩ : ByteArray).toList) = false := by
        rw [eql_W]
        exact decide_eq_false (fun e => by rw [e] at hx0; exact absurd hx0 (by decide))
      have hxn2 : (y.toList != (⟨#[]⟩ : ByteArray).toList) = true := by rw [bne, hxn1]; rfl
      have hxn3 : y.toList.isEmpty = false := by
        cases hl : y.toList with
        | nil => rw [hl] at hxn1; simp at hxn1
        | cons _ _ => rfl
      have m0 : (0 : Int) ≤ (m : Int) := by omega
      have m1 : (m : Int) ≤ (y.size : Int) := by omega
      have m2 : (m : Int) + 1 ≤ (y.size : Int) := by omega
      have m3 : (0 : Int) ≤ (m : Int) + 1 := by omega
      clear hm
      go_upto_region 14 with (go_at_call 8; (with_reducible refine (RS3.out _).mono ?_); rintro e w' ⟨rfl, rfl⟩)
      obtain ⟨cc, hcc, hcv⟩ := conv_oneG a3 w6 ((w6.drewN (nq + 1)).alloc (.cells #[.int .u8 (a3 % 256)] 5)) (cell_of_one (World.alloc_heap_new (w6.drewN (nq + 1)) _))
      have hq5 : ¬ 9223372036854775807 < m + cc.size := by omega
      go_region
      clear hcv hcc hq5 RS3 hmx m1 m2
      go_upto_region 15 with fail
      generalize y.extract 0 m ++ cc ++ y.extract (m + 1) y.size = yy
      obtain ⟨w7, hw7⟩ : ∃ w7, ((w6.drewN (nq + 1)).alloc (.cells #[.int .u8 (a3 % 256)] 5)) = w7 := ⟨_, rfl⟩
      have HB7 := Lib.hid (show Below w6.heap.size w6 w7 by rw [← hw7]; exact (below_drewN (Below.refl _ _) (nq + 1)).alloc (by simp) _)
      rw [hw7]
      clear hw7
      have hbd : Below w6.heap.size w6 w7.drew := Below.drew HB7.out
      have e1 : w7.drew.cell? ⟨G, 0, none⟩ = some (.slice (some ⟨g0, o0, none⟩) L.length gc) := HC6.out _ hbd
      have hq1 : ¬ 9223372036854775807 < y.size + 1 := by omega
      have hq2 : ¬ 9223372036854775807 < y.size + (⟨#[48]⟩ : ByteArray).size := by show ¬ 9223372036854775807 < y.size + 1; omega
      go_region_held3 (fun w' => Below w6.heap.size w6 w' ∧ w'.cell? ⟨G, 0, none⟩ = some (.slice (some ⟨g0, o0, none⟩) L.length gc))
        (exact ⟨by assumption, by assumption⟩)
        (first
          | (go_at_call 13; (with_reducible refine (SH.out _).mono ?_); rintro e w' ⟨rfl, rfl⟩)
          | (go_at_call 14; (with_reducible refine (HFD.out _ _ (by assumption)).mono ?_); rintro e w8 ⟨rfl, hb⟩; have gB := HTR.out _ _ (by assumption) hb; have gC := HC6.out _ gB; clear hb))
      all_goals
        go_wp2_with fail
        go_ret
        have z1 := HB0.out.trans (HB6.out.mono HB0.out.size)
        exact ⟨rfl, z1.trans (gB.mono z1.size)⟩
end Go.Proofs.YtbkbnkpgldemkaaDoor
