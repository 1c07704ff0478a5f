/-
  TagClones: the walk of the law.
-/
import Derived.Test.YtajdfckppnedjaaMWrites
import Derived.Test.YtajdfckppnedjaaFSame
import Derived.Test.YtajdfckppnedjaaGAwake
namespace Go.Proofs.Ytajdfckppnedjaa
open Go Go.RowKit

theorem ci_facts {K n C : Nat} {W2 Wc wr : World} {ve vv vx vp : Value} (h : CI K W2 Wc wr) {a b c d : Value} (hC : Wc.heap[C]? = some (.cells #[a, ve, b, c, vv, vx, vp, d] 28 (0, 0)))
    (h1 : ∀ s, ve ≠ .string s) (h2 : ∀ s, vv ≠ .string s) (h3 : ∀ s, vx ≠ .string s) (h4 : ∀ s, vp ≠ .string s) (_ : n = 0) :
    wr.cell? ⟨C, 1, none⟩ = some ve ∧ wr.cell? ⟨C, 4, none⟩ = some vv ∧ wr.cell? ⟨C, 5, none⟩ = some vx ∧ wr.cell? ⟨C, 6, none⟩ = some vp :=
  ⟨h.2.oth C 1 ve (cell_row2 1 hC rfl) h1, h.2.oth C 4 vv (cell_row2 4 hC rfl) h2, h.2.oth C 5 vx (cell_row2 5 hC rfl) h3, h.2.oth C 6 vp (cell_row2 6 hC rfl) h4⟩

set_option maxRecDepth 100000 in
set_option maxHeartbeats 8000000 in
theorem clones_any (v : Value) (T : TagM) (w : World) (hT : TagIs w v T) (hF : TagTiny T) :
    Calls Try.prog 5 #[v] w fun e w' => e = .returned (.bool true) ∧ Below w.heap.size w w' := by
  have hT' := hT
  obtain ⟨ve, vv, vx, vp, rfl, R1, R2, R3, R4⟩ := hT
  obtain ⟨a1, p1, rfl, -⟩ := R1
  obtain ⟨a2, p2, rfl, -⟩ := R2
  obtain ⟨a3, p3, rfl, -⟩ := R3
  obtain ⟨a4, p4, rfl, -⟩ := R4
  obtain ⟨W0, hW0⟩ : ∃ W0, w.alloc (.cells #[.string T.lang, .slice a1 T.extl.length p1, .string T.script, .string T.region, .slice a2 T.vars.length p2, .slice a3 T.exts.length p3, .slice a4 T.priv.length p4, .string T.grand] 28) = W0 := ⟨_, rfl⟩
  have hb0 : Below w.heap.size w W0 := by rw [← hW0]; exact (Below.refl _ w).alloc (Nat.le_refl _) _
  have hz0 : W0.heap.size = w.heap.size + 1 := by rw [← hW0]; simp
  have hT0 := hT'.below hb0
  have hA0 : W0.heap[w.heap.size]? = some (.cells #[.string T.lang, .slice a1 T.extl.length p1, .string T.script, .string T.region, .slice a2 T.vars.length p2, .slice a3 T.exts.length p3, .slice a4 T.priv.length p4, .string T.grand] 28 (0, 0)) := by rw [← hW0]; exact World.alloc_heap_new w _
  have hJl := tiny_len hF
  have hJs := tiny_sizes hF
  have SR := Lib.hid (fun w5 (hb : Below W0.heap.size W0 w5) => (subtags_ref _ T w5 (hT0.below hb) hF.fits).mono (R' := fun e w7 => ∃ u, e = .returned u ∧ Row w7 u (subtagsT T) ∧ Below W0.heap.size W0 w7) fun e w7 ⟨u, p, q, r⟩ => ⟨u, p, Row.of_own q, hb.trans (r.mono hb.size)⟩)
  have JR := Lib.hid (fun w5 u (hr : Row w5 u (subtagsT T)) => join_row u (subtagsT T) w5 hr (by omega) (fun p hp => by have := hJs p hp; omega))
  have CL := Lib.hid (fun w5 (hb : Below W0.heap.size W0 w5) => clone_own _ T w5 (hT0.below hb) hF.fits)
  have SM := Lib.hid (fun w5 (v1 v2 : Value) (h1 : TagIs w5 v1 T) (h2 : TagIs w5 v2 T) => (same_ref v1 v2 T T w5 h1 h2 hF.fits).mono (R' := fun e w7 => e = .returned (.bool true) ∧ Below w5.heap.size w5 w7) fun e w7 ⟨p, q⟩ => ⟨by rw [p, sameT_self], q⟩)
  have HT0 := Lib.hid hT0
  have HA0 := Lib.hid hA0
  have HB0 := Lib.hid hb0
  have HZ0 := Lib.hid hz0
  have HFX := Lib.hid (show (∀ x ∈ T.exts, x.2.length ≤ 1000) ∧ T.extl.length ≤ 1000 ∧ T.vars.length ≤ 1000 ∧ T.exts.length ≤ 1000 ∧ T.priv.length ≤ 1000 from ⟨fun x hx => by have := (hF.sx x hx).2.1; omega, by have := hF.e; omega, by have := hF.v; omega, by have := hF.x; omega, by have := hF.p; omega⟩)
  have HC0 := Lib.hid (fun (w' : World) (hb : Below W0.heap.size W0 w') => tag_cells ((hb.block _ (by omega)).trans hA0))
  clear hT' hT0 hA0 hb0 hz0 hJl hJs hF
  go_enter Try.func5, Try.ntmps5
  go_upto_region 1 with fail
  clear hW0
  obtain ⟨q0, q1, q2, q3, q4, q5, q6, q7⟩ := HC0.out _ (Below.refl _ _)
  go_wp2_with fail
  refine (SR.out _ (Below.refl _ _)).mono ?_
  rintro e W1 ⟨u1, rfl, hr1, hb1⟩
  have hu1 := hr1
  obtain ⟨j1, j2, rfl, -⟩ := hu1
  have HR1 := Lib.hid hr1
  clear hr1 q0 q1 q2 q3 q4 q5 q6 q7
  go_wp2_with fail
  refine (JR.out _ _ HR1.out).mono ?_
  rintro e w1' ⟨rfl, rfl⟩
  clear HR1
  obtain ⟨q0, q1, q2, q3, q4, q5, q6, q7⟩ := HC0.out _ hb1
  generalize joinS (subtagsT T) = J at *
  go_wp2_with fail
  refine (CL.out _ hb1).mono ?_
  rintro e w2 ⟨ce, cv, cx, cp, rfl, hcl, hb2⟩
  have hT1 := HT0.out.below hb1
  have HK := Lib.hid hb1.size
  obtain ⟨K, hK⟩ : ∃ K, W1.heap.size = K := ⟨_, rfl⟩
  have hce : RowC w2 K ce T.extl.length := RowC.of_own (by rw [← hK]; exact hcl.e)
  have hcv : RowC w2 K cv T.vars.length := RowC.of_own (by rw [← hK]; exact hcl.v)
  have hcp : RowC w2 K cp T.priv.length := RowC.of_own (by rw [← hK]; exact hcl.p)
  have hcx : ExtC w2 K cx T.exts.length := ExtC.of_own (by rw [← hK]; exact hcl.x) HFX.out.1
  have hcT : TagIs w2 (.agg #[.string T.lang, ce, .string T.script, .string T.region, cv, cx, cp, .string T.grand]) T := ⟨_, _, _, _, rfl, Row.of_own hcl.e, Row.of_own hcl.v, hcl.x.row, Row.of_own hcl.p⟩
  obtain ⟨W3, hW3⟩ : ∃ W3, w2.alloc (.cells #[.string T.lang, ce, .string T.script, .string T.region, cv, cx, cp, .string T.grand] 28) = W3 := ⟨_, rfl⟩
  have hb3 : Below w2.heap.size w2 W3 := by rw [← hW3]; exact (Below.refl _ w2).alloc (Nat.le_refl _) _
  have hC3 : W3.heap[w2.heap.size]? = some (.cells #[.string T.lang, ce, .string T.script, .string T.region, cv, cx, cp, .string T.grand] 28 (0, 0)) := by rw [← hW3]; exact World.alloc_heap_new w2 _
  have hB13 : Below W1.heap.size W1 W3 := hb2.trans (hb3.mono hb2.size)
  have SM3 := Lib.hid (SM.out W3 _ _ (hcT.below hb3) (hT1.below hB13))
  obtain ⟨ao1, c1, rfl, hce'⟩ := hce.below hb3
  obtain ⟨ao2, c2, rfl, hcv'⟩ := hcv.below hb3
  obtain ⟨ao3, c3, rfl, hcp'⟩ := hcp.below hb3
  obtain ⟨ao4, c4, rfl, hcx'⟩ := hcx.below hb3
  have HE3 : Hid (RowC W3 K (.slice ao1 T.extl.length c1) T.extl.length) := Lib.hid (p := RowC W3 K (.slice ao1 T.extl.length c1) T.extl.length) ⟨ao1, c1, rfl, hce'⟩
  have HV3 : Hid (RowC W3 K (.slice ao2 T.vars.length c2) T.vars.length) := Lib.hid (p := RowC W3 K (.slice ao2 T.vars.length c2) T.vars.length) ⟨ao2, c2, rfl, hcv'⟩
  have HP3 : Hid (RowC W3 K (.slice ao3 T.priv.length c3) T.priv.length) := Lib.hid (p := RowC W3 K (.slice ao3 T.priv.length c3) T.priv.length) ⟨ao3, c3, rfl, hcp'⟩
  have HX3 : Hid (ExtC W3 K (.slice ao4 T.exts.length c4) T.exts.length) := Lib.hid (p := ExtC W3 K (.slice ao4 T.exts.length c4) T.exts.length) ⟨ao4, c4, rfl, hcx'⟩
  obtain ⟨x0, x1, x2, x3, x4, x5, x6, x7⟩ := tag_cells hC3
  obtain ⟨y0, y1, y2, y3, y4, y5, y6, y7⟩ := HC0.out W3 (hb1.trans (hB13.mono hb1.size))
  have HC3 := Lib.hid hC3
  have HB13 := Lib.hid hB13
  have HB01 := Lib.hid hb1
  have HT1 := Lib.hid hT1
  have HKK := Lib.hid hK
  have hW4 : w2.heap.size < W3.heap.size := lt_of_heap hC3
  have HW4 := Lib.hid hW4
  clear q0 q1 q2 q3 q4 q5 q6 q7 hce hcv hcp hcx hcT hcl hce' hcv' hcp' hcx' hb3 hC3 hB13 hT1 hb1 hb2 hK hW4
  go_wp2_with fail
  clear hW3
  refine SM3.out.mono ?_
  rintro e Wc ⟨rfl, hbc⟩
  have hCc := (hbc.block w2.heap.size HW4.out).trans HC3.out
  have HEc := Lib.hid (HE3.out.below hbc)
  have HVc := Lib.hid (HV3.out.below hbc)
  have HPc := Lib.hid (HP3.out.below hbc)
  have HXc := Lib.hid (HX3.out.below hbc)
  have HCF := Lib.hid (fun wr (h : CI K W1 Wc wr) => ci_facts h hCc (by simp) (by simp) (by simp) (by simp) rfl)
  have HI0 := Lib.hid (show CI K W1 Wc Wc from ⟨by rw [← HKK.out]; exact HB13.out.trans (hbc.mono HB13.out.size), StrKeep.refl _⟩)
  have HF1 := Lib.hid HFX.out.2
  have HE := Lib.hid (show ∀ i, i < T.extl.length → ∃ g s, ao1 = some ⟨g, 0, none⟩ ∧ K ≤ g ∧ Wc.cell? ⟨g, i, none⟩ = some (.string s) ∧ Wc.frozen? ⟨g, i, none⟩ = false by
    obtain ⟨a, b, h, r⟩ := HEc.out; cases h; exact r)
  have HV := Lib.hid (show ∀ i, i < T.vars.length → ∃ g s, ao2 = some ⟨g, 0, none⟩ ∧ K ≤ g ∧ Wc.cell? ⟨g, i, none⟩ = some (.string s) ∧ Wc.frozen? ⟨g, i, none⟩ = false by
    obtain ⟨a, b, h, r⟩ := HVc.out; cases h; exact r)
  have HP := Lib.hid (show ∀ i, i < T.priv.length → ∃ g s, ao3 = some ⟨g, 0, none⟩ ∧ K ≤ g ∧ Wc.cell? ⟨g, i, none⟩ = some (.string s) ∧ Wc.frozen? ⟨g, i, none⟩ = false by
    obtain ⟨a, b, h, r⟩ := HPc.out; cases h; exact r)
  have HX := Lib.hid (show ∀ i, i < T.exts.length → ∃ g s u m, ao4 = some ⟨g, 0, none⟩ ∧ K ≤ g ∧ Wc.cell? ⟨g, i * 2, none⟩ = some (.string s) ∧ Wc.frozen? ⟨g, i * 2, none⟩ = false ∧ Wc.cell? ⟨g, i * 2 + 1, none⟩ = some u ∧ m ≤ 1000 ∧ RowC Wc K u m by
    obtain ⟨a, b, h, r⟩ := HXc.out; cases h; exact r)
  obtain ⟨n1, n2, n3, n4⟩ := HF1.out
  clear HEc HVc HPc HXc hCc hbc x0 x1 x2 x3 x4 x5 x6 x7 y0 y1 y2 y3 y4 y5 y6 y7
  -- Extlang
  go_wp2_with fail
  go_loopw [6] (fun i wr => ∃ k : Nat, k ≤ T.extl.length ∧ i = .int .i64 (k : Int) ∧ CI K W1 Wc wr) (fun i _ => T.extl.length - (intOf i).toNat)
  case atStart => exact ⟨0, Nat.zero_le _, rfl, HI0.out⟩
  case round =>
    obtain ⟨k, hk, rfl, hci⟩ := hrel
    obtain ⟨z1, z2, z3, z4⟩ := HCF.out _ hci
    by_cases hlt : k < T.extl.length
    · have hki : (k : Int) < (T.extl.length : Int) := by omega
      have hk0 : (0 : Int) ≤ (k : Int) := by omega
      obtain ⟨g, s0, rfl, hg, hgc, hgf⟩ := HE.out k hlt
      obtain ⟨s1, hs1⟩ := hci.2.str _ _ _ hgc
      have hs2 := (hci.2.frz g k).trans hgf
      have HN := Lib.hid (hci.store (⟨#[122, 122, 122]⟩ : ByteArray) hg hgc)
      clear hgc hgf hci
      go_wp2_with fail
      go_roundw
      case rel => exact ⟨k + 1, by omega, by go_num, HN.out⟩
      case measure => simp [intOf]; omega
    obtain rfl : k = T.extl.length := by omega
    have hki : ¬ (T.extl.length : Int) < (T.extl.length : Int) := by omega
    have HI1 := Lib.hid hci
    clear hci
    -- Variants
    go_wp2_with fail
    go_loopw [7] (fun i wr => ∃ k : Nat, k ≤ T.vars.length ∧ i = .int .i64 (k : Int) ∧ CI K W1 Wc wr) (fun i _ => T.vars.length - (intOf i).toNat)
    case atStart => exact ⟨0, Nat.zero_le _, rfl, HI1.out⟩
    case round =>
      obtain ⟨k, hk, rfl, hci⟩ := hrel
      obtain ⟨z1, z2, z3, z4⟩ := HCF.out _ hci
      by_cases hlt : k < T.vars.length
      · have hki : (k : Int) < (T.vars.length : Int) := by omega
        have hk0 : (0 : Int) ≤ (k : Int) := by omega
        obtain ⟨g, s0, rfl, hg, hgc, hgf⟩ := HV.out k hlt
        obtain ⟨s1, hs1⟩ := hci.2.str _ _ _ hgc
        have hs2 := (hci.2.frz g k).trans hgf
        have HN := Lib.hid (hci.store (⟨#[122, 122, 122, 122, 122]⟩ : ByteArray) hg hgc)
        clear hgc hgf hci
        go_wp2_with fail
        go_roundw
        case rel => exact ⟨k + 1, by omega, by go_num, HN.out⟩
        case measure => simp [intOf]; omega
      obtain rfl : k = T.vars.length := by omega
      have hki : ¬ (T.vars.length : Int) < (T.vars.length : Int) := by omega
      have HI2 := Lib.hid hci
      clear hci
      -- Private
      go_wp2_with fail
      go_loopw [8] (fun i wr => ∃ k : Nat, k ≤ T.priv.length ∧ i = .int .i64 (k : Int) ∧ CI K W1 Wc wr) (fun i _ => T.priv.length - (intOf i).toNat)
      case atStart => exact ⟨0, Nat.zero_le _, rfl, HI2.out⟩
      case round =>
        obtain ⟨k, hk, rfl, hci⟩ := hrel
        obtain ⟨z1, z2, z3, z4⟩ := HCF.out _ hci
        by_cases hlt : k < T.priv.length
        · have hki : (k : Int) < (T.priv.length : Int) := by omega
          have hk0 : (0 : Int) ≤ (k : Int) := by omega
          obtain ⟨g, s0, rfl, hg, hgc, hgf⟩ := HP.out k hlt
          obtain ⟨s1, hs1⟩ := hci.2.str _ _ _ hgc
          have hs2 := (hci.2.frz g k).trans hgf
          have HN := Lib.hid (hci.store (⟨#[122, 122]⟩ : ByteArray) hg hgc)
          clear hgc hgf hci
          go_wp2_with fail
          go_roundw
          case rel => exact ⟨k + 1, by omega, by go_num, HN.out⟩
          case measure => simp [intOf]; omega
        obtain rfl : k = T.priv.length := by omega
        have hki : ¬ (T.priv.length : Int) < (T.priv.length : Int) := by omega
        have HI3 := Lib.hid hci
        clear hci
        -- Exts
        go_wp2_with fail
        go_loopw [9] (fun i wr => ∃ k : Nat, k ≤ T.exts.length ∧ i = .int .i64 (k : Int) ∧ CI K W1 Wc wr) (fun i _ => T.exts.length - (intOf i).toNat)
        case atStart => exact ⟨0, Nat.zero_le _, rfl, HI3.out⟩
        case round =>
          obtain ⟨k, hk, rfl, hci⟩ := hrel
          obtain ⟨z1, z2, z3, z4⟩ := HCF.out _ hci
          by_cases hlt : k < T.exts.length
          · have hki : (k : Int) < (T.exts.length : Int) := by omega
            have hk0 : (0 : Int) ≤ (k : Int) := by omega
            obtain ⟨g, s0, u, m, rfl, hg, hgc, hgf, hgu, hm, hrc⟩ := HX.out k hlt
            obtain ⟨ua, uc, rfl, hrc⟩ := hrc
            have HRC := Lib.hid hrc
            have HGC := Lib.hid hgc
            have HGF := Lib.hid hgf
            have HGU := Lib.hid hgu
            have HCI := Lib.hid hci
            have hu1 := hci.2.oth _ _ _ hgu (by simp)
            obtain ⟨wo, rfl⟩ : ∃ x, x = wr := ⟨_, rfl⟩
            clear hrc hgc hgf hgu hci
            go_wp2_with fail
            go_loopw [10] (fun i wr2 => ∃ j : Nat, j ≤ m ∧ i = .int .i64 (j : Int) ∧ CI K W1 Wc wr2) (fun i _ => m - (intOf i).toNat)
            case atStart => exact ⟨0, Nat.zero_le _, rfl, HCI.out⟩
            case round =>
              obtain ⟨j, hj, rfl, hci2⟩ := hrel
              clear z1 z2 z3 z4 hu1
              obtain ⟨z1, z2, z3, z4⟩ := HCF.out _ hci2
              have hu2 := hci2.2.oth _ _ _ HGU.out (by simp)
              by_cases hltj : j < m
              · have hji : (j : Int) < (m : Int) := by omega
                have hj0 : (0 : Int) ≤ (j : Int) := by omega
                obtain ⟨g2, s2, rfl, hg2, hc2, hf2⟩ := HRC.out j hltj
                obtain ⟨s3, hs3⟩ := hci2.2.str _ _ _ hc2
                have hs4 := (hci2.2.frz g2 j).trans hf2
                have HN := Lib.hid (hci2.store (⟨#[122, 122, 122, 122]⟩ : ByteArray) hg2 hc2)
                clear hc2 hf2 hci2
                go_wp2_with fail
                go_roundw
                case rel => exact ⟨j + 1, by omega, by go_num, HN.out⟩
                case measure => simp [intOf]; omega
              · obtain rfl : j = m := by omega
                have hji : ¬ (j : Int) < (j : Int) := by omega
                obtain ⟨s3, hs3⟩ := hci2.2.str _ _ _ HGC.out
                have hs4 := (hci2.2.frz g (k * 2)).trans HGF.out
                have HN := Lib.hid (hci2.store (⟨#[122]⟩ : ByteArray) hg HGC.out)
                clear hci2
                go_wp2_with fail
                go_roundw
                case rel => exact ⟨k + 1, by omega, by go_num, HN.out⟩
                case measure => simp [intOf]; omega
          · obtain rfl : k = T.exts.length := by omega
            have hki : ¬ (T.exts.length : Int) < (T.exts.length : Int) := by omega
            have hbl : Below W0.heap.size W0 wr := HB01.out.trans ((show Below W1.heap.size W1 wr by rw [HKK.out]; exact hci.1).mono HB01.out.size)
            obtain ⟨q0, q1, q2, q3, q4, q5, q6, q7⟩ := HC0.out _ hbl
            have HBL := Lib.hid hbl
            clear hci hbl
            go_wp2_with fail
            refine (SR.out _ HBL.out).mono ?_
            rintro e w8 ⟨u8, rfl, hr8, hb8⟩
            have hu8 := hr8
            obtain ⟨j3, j4, rfl, -⟩ := hu8
            have HR8 := Lib.hid hr8
            clear hr8
            go_wp2_with fail
            refine (JR.out _ _ HR8.out).mono ?_
            rintro e w9 ⟨rfl, rfl⟩
            go_wp2_with fail
            go_ret
            exact ⟨by simp, HB0.out.trans (hb8.mono (by rw [HZ0.out]; omega))⟩

set_option maxRecDepth 100000 in
set_option maxHeartbeats 8000000 in
theorem clones_law (SA : SeedM) (va ka pa : Value) (l s r g : ByteArray) (ve vv vx vp : Value) (E V : List ByteArray) (X : List (ByteArray × List ByteArray)) (P : List ByteArray) (w : World)
    (a1 : IntsA w va SA.vars) (a2 : IntsA w ka SA.keys) (a3 : IntsA w pa SA.priv) (a4 : -9223372036854775808 ≤ SA.extl) (a5 : SA.extl ≤ 9223372036854775807)
    (hl : l.size ≤ maxLen) (hs : s.size ≤ maxLen) (hr : r.size ≤ maxLen) (hg : g.size ≤ maxLen) (hE : RowA w ve E) (hV : RowA w vv V) (hX : ExtA w vx X) (hP : RowA w vp P) :
    Calls Try.prog 3 #[.agg #[.int .i64 SA.lang, .int .i64 SA.extl, .int .i64 SA.script, .int .i64 SA.region, va, ka, pa, .int .i64 SA.odd], .agg #[.string l, ve, .string s, .string r, vv, vx, vp, .string g]] w fun e w' => e = .returned (.bool true) ∧ Below w.heap.size w w' := by
  obtain ⟨W2, hW2⟩ : ∃ W2, (w.alloc (.cells #[.int .i64 SA.lang, .int .i64 SA.extl, .int .i64 SA.script, .int .i64 SA.region, va, ka, pa, .int .i64 SA.odd] 24)).alloc (.cells #[.string l, ve, .string s, .string r, vv, vx, vp, .string g] 28) = W2 := ⟨_, rfl⟩
  have hb2 : Below w.heap.size w W2 := by rw [← hW2]; exact ((Below.refl _ w).alloc (Nat.le_refl _) _).alloc (by simp) _
  have hBx : W2.heap[w.heap.size]? = some (.cells #[.int .i64 SA.lang, .int .i64 SA.extl, .int .i64 SA.script, .int .i64 SA.region, va, ka, pa, .int .i64 SA.odd] 24 (0, 0)) := by rw [← hW2]; exact (Below.heap_alloc _ _ _ (by simp)).trans (World.alloc_heap_new w _)
  have hA : W2.heap[w.heap.size + 1]? = some (.cells #[.string l, ve, .string s, .string r, vv, vx, vp, .string g] 28 (0, 0)) := by rw [← hW2]; exact heap_alloc2_new w _ _
  have hlB := lt_of_heap hA
  have HC := Lib.hid (fun (w' : World) (hb : Below W2.heap.size W2 w') => And.intro (tag_cells ((hb.block _ (by omega)).trans hBx)) (tag_cells ((hb.block _ hlB).trans hA)))
  have HB2 := Lib.hid hb2
  obtain ⟨TF, hTF⟩ : ∃ T, (⟨cut12 l, rowT E, cut12 s, cut12 r, rowT V, extsT X, rowT P, cut12 g⟩ : TagM) = T := ⟨_, rfl⟩
  have fF : TagTiny TF := by rw [← hTF]; exact few_tiny _ _ _ _ _ _ _ _
  have fA := madeT_tiny SA
  have AW := onward W2 awake6_any
  have FZ := Lib.hid (fun w5 (hb : Below W2.heap.size W2 w5) => (few_any l s r g ve vv vx vp E V P X w5 hl hs hr hg ((hE.below hb2).below hb) ((hV.below hb2).below hb) ((hP.below hb2).below hb) ((hX.below hb2).below hb)).mono (R' := fun e w7 => ∃ u, e = .returned u ∧ TagIs w7 u TF ∧ Below W2.heap.size W2 w7) fun e w7 ⟨x, y, xx, z, p, q, o1, o2, o3, b2, o4, _⟩ => ⟨_, p, by rw [← hTF]; exact few_is o1 o2 o3 o4, hb.trans (q.mono hb.size)⟩)
  have MZ := Lib.hid (fun w5 (hb : Below W2.heap.size W2 w5) => (made_any SA va ka pa w5 ((a1.below hb2).below hb) ((a2.below hb2).below hb) ((a3.below hb2).below hb) a4 a5).mono (R' := fun e w7 => ∃ u, e = .returned u ∧ TagIs w7 u (madeT SA) ∧ Below W2.heap.size W2 w7) fun e w7 ⟨u, p, q, r⟩ => ⟨u, p, q, hb.trans (r.mono hb.size)⟩)
  have CL := Lib.hid (fun w5 (T : TagM) (v : Value) (hT : TagIs w5 v T) (hF : TagTiny T) (hb : Below W2.heap.size W2 w5) => (clones_any v T w5 hT hF).mono (R' := fun e w7 => e = .returned (.bool true) ∧ Below W2.heap.size W2 w7) fun e w7 ⟨p, r⟩ => ⟨p, hb.trans (r.mono hb.size)⟩)
  have hs2 := hb2.size
  clear a1 a2 a3 a4 a5 hl hs hr hg hE hV hX hP hA hBx hb2 hTF
  generalize madeT SA = TA at *
  have hBr : Below W2.heap.size W2 W2 := Below.refl _ _
  go_enter Try.func3, Try.ntmps3
  go_upto_region 1 with fail
  clear hW2
  go_wp2_with fail
  refine (AW.out _ hBr).mono ?_
  rintro e w5 ⟨rfl, hb5⟩
  obtain ⟨⟨q0, q1, q2, q3, q4, q5, q6, q7⟩, _⟩ := HC.out _ hb5
  go_wp2_with fail
  refine (MZ.out _ hb5).mono ?_
  rintro e w6 ⟨u6, rfl, hI6, hb6⟩
  clear q0 q1 q2 q3 q4 q5 q6 q7
  have HI6 := Lib.hid hI6
  clear hI6
  go_wp2_with fail
  refine (CL.out _ TA _ HI6.out fA hb6).mono ?_
  rintro e w7 ⟨rfl, hb7⟩
  obtain ⟨_, q0, q1, q2, q3, q4, q5, q6, q7⟩ := HC.out _ hb7
  go_wp2_with fail
  refine (FZ.out _ hb7).mono ?_
  rintro e w8 ⟨u8, rfl, hI8, hb8⟩
  clear q0 q1 q2 q3 q4 q5 q6 q7
  have HI8 := Lib.hid hI8
  clear hI8
  go_wp2_with fail
  refine (CL.out _ TF _ HI8.out fF hb8).mono ?_
  rintro e w9 ⟨rfl, hb9⟩
  go_wp2_with fail
  go_ret
  exact ⟨rfl, HB2.out.trans (hb9.mono hs2)⟩
end Go.Proofs.Ytajdfckppnedjaa
