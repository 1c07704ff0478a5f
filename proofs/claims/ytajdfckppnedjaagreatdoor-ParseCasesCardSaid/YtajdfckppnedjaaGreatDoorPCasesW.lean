/-
  Package parse: the statement of cases, of one text.
-/
import Derived.Test.YtajdfckppnedjaaGreatDoorPSame
import Derived.Test.YtajdfckppnedjaaGreatDoorECasesLaw
namespace Go.Proofs.YtajdfckppnedjaaGreatDoor
open Go Go.RowKit

theorem parse_wide (s : ByteArray) (hs : s.size ≤ 40000) : TagWide (parseS s).1 := by
  have hno : TagWide pNo := by unfold TagWide pNo; simp
  unfold parseS
  split
  · unfold TagWide pNo
    simp [size_lowS]
    omega
  · unfold readS
    have hl : (pieces s).length ≤ 40001 := by rw [pieces_length]; have := splS_le s; omega
    cases hr : runP (pieces s) pSt0 with
    | mk st o =>
      cases o with
      | some e => exact hno
      | none =>
        have h := (runP_good (pieces s) pSt0 0 st PInv.start (fun _ => rfl) (by decide) hr).1
        have h1 := h.len
        have hw : TagWide st.T := ⟨by omega, by omega, by omega, fun x hx => by have := h.subs x hx; omega, by omega, by rw [h.grand]; exact Nat.zero_le _⟩
        unfold finP
        dsimp only
        split
        · exact hno
        · exact hw

set_option maxRecDepth 100000 in
set_option maxHeartbeats 4000000 in
theorem cases7_any (s : ByteArray) (bits : Int) (w : World) (hs : s.size ≤ 40000) (hl : ParseLaid w) :
    Calls Tryz.prog 33 #[.string s, .int .i64 bits] w fun e w' => e = .returned (.bool true) ∧ Below w.heap.size w w' := by
  obtain ⟨i0, hi, hz0, hz1, hz2⟩ := info_parts byteInfo
  have HL := Lib.hid hl
  clear hl
  go_enter Tryz.func33, Tryz.ntmps33
  go_wp2_with fail
  go_loopw [5, 6] (fun v i wr => ∃ j : Nat, j ≤ s.size ∧ i = .int .i64 (j : Int) ∧ CsI s w j v wr) (fun _ i _ => s.size - (intOf i).toNat)
  case atStart => exact ⟨0, Nat.zero_le _, rfl, CsI.start⟩
  case round =>
    obtain ⟨j, hj, rfl, HR⟩ := hrel
    by_cases hlt : j < s.size
    · have hlti : (j : Int) < (s.size : Int) := by omega
      have hsl := slice_one s j hlt
      have hc1 := one_size s j hlt
      have hcb := bs_one s j hlt
      have h0 : (0 : Int) ≤ (j : Int) := by omega
      have h11 : (j : Int) ≤ 40000 := by omega
      have hm : Int.tmod (j : Int) 30 = ((j % 30 : Nat) : Int) := by rw [Int.tmod_eq_emod_of_nonneg (by omega)]; omega
      have hm0 : (0 : Int) ≤ ((j % 30 : Nat) : Int) := by omega
      have hm1 : ((j % 30 : Nat) : Int) < 30 := by omega
      have UC := Lib.hid (fun w5 => (upper_ref (s.extract j (j + 1)) w5 (by rw [hc1]; omega)))
      have LC := Lib.hid (fun w5 => (lower_ref (s.extract j (j + 1)) w5 (by rw [hc1]; omega)))
      have hu1 : (upS (s.extract j (j + 1))).size = 1 := by rw [size_upS, hc1]
      have hub : bs (upS (s.extract j (j + 1))) = [upB s[j]] := by unfold upS; rw [bs_ofL, hcb]; rfl
      have hv1 : (lowS (s.extract j (j + 1))).size = 1 := by rw [size_lowS, hc1]
      have hvb : bs (lowS (s.extract j (j + 1))) = [lowB s[j]] := by unfold lowS; rw [bs_ofL, hcb]; rfl
      generalize upS (s.extract j (j + 1)) = uc at *
      generalize lowS (s.extract j (j + 1)) = lc at *
      generalize s.extract j (j + 1) = c at *
      have hc0 : 0 < lc.size := by omega
      have hu0 : 0 < uc.size := by omega
      have HD := Lib.hid (show lowB lc[0] = lowB s[j] by rw [get_of_bs hvb hc0, low_low])
      have HU := Lib.hid (show lowB uc[0] = lowB s[j] by rw [get_of_bs hub hu0, low_up])
      obtain ⟨L, hL, hO, hB⟩ := id HR
      have HLL := Lib.hid hL
      clear hcb hub hL hvb
      have hsz : w.heap.size ≤ wr.heap.size := hB.size
      go_wp2_with (first
        | (go_at_call 28; (with_reducible refine (UC.out _).mono ?_); rintro e w5 ⟨rfl, hb5⟩; have hO := own_later hO hb5; have HR : CsI s w j _ w5 := ⟨L, HLL.out, hO, hB.trans (hb5.mono hsz)⟩; have hsz := Nat.le_trans hsz hb5.size)
        | (go_at_call 37; (with_reducible refine (LC.out _).mono ?_); rintro e w5 ⟨rfl, hb5⟩; have hO := own_later hO hb5; have HR : CsI s w j _ w5 := ⟨L, HLL.out, hO, hB.trans (hb5.mono hsz)⟩; have hsz := Nat.le_trans hsz hb5.size)
        | (at_builtin; refine wpList_append_own _ rfl _ _ 88 rfl w.heap.size 5 i0 (.int .u8 0) 1 1 Tryz.underlying88 hi hz0 hz1 hz2 rfl (by decide) _ j _ rfl (hO.alloc _) ⟨_, 0, none⟩ 1 1 _ rfl (by rfl) (cell_one_new _ _ _) (by intro u hu; simp at hu; subst hu; rfl) (by unfold maxLen; omega) (by omega) (by simp; omega) ?_; intro v' w6 hown1 hgrow _))
      all_goals
        exact ⟨⟨j + 1, by omega, by go_num, HR.step hlt (by first | exact HU.out | exact HD.out) HLL.out hown1 hgrow⟩, by simp [intOf]; omega⟩
    · obtain rfl : j = s.size := by omega
      have hlti : ¬ (s.size : Int) < (s.size : Int) := by omega
      obtain ⟨L, hL, hO, hB⟩ := HR
      have hll : L.length = s.size := by
        have := congrArg List.length hL
        rw [List.length_map, List.length_map, List.length_take, size_bs] at this
        omega
      rw [List.take_of_length_le (by rw [size_bs]; exact Nat.le_refl _)] at hL
      have hlow : lowS (ofL L) = lowS s := by unfold lowS; rw [bs_ofL, hL]
      have hps := parseS_same hlow
      have hxs : (ofL L).size = s.size := by rw [size_ofL, hll]
      rw [← hll] at hO
      have CV := Lib.hid (fun w5 (hb5 : Below wr.heap.size wr w5) => conv_owned (w := w5) L (own_later hO hb5))
      have hlr := HL.out.below hB
      have hwide := parse_wide s hs
      have P1 := Lib.hid (parse_own s wr (by omega) hlr.g)
      have P2 := Lib.hid (fun w5 (hb5 : Below wr.heap.size wr w5) => parse_own (ofL L) w5 (by omega) (hlr.below hb5).g)
      rw [hps] at P2
      generalize (parseS s).1 = T at *
      generalize (parseS s).2 = r at *
      generalize ofL L = x at *
      have HBW := Lib.hid hB
      have HLR := Lib.hid hlr
      have HW := Lib.hid hwide
      clear hlow hps hxs hO hL hll hB hlr hwide HL
      go_wp2_with (first
        | (go_at_call 29; (with_reducible refine P1.out.mono ?_); rintro e w1 ⟨tv, ev1, rfl, ht1, he1, hb1⟩; have HT1 := Lib.hid ht1; have HE1 := Lib.hid he1; obtain ⟨ve, vv, vx, vp, rfl, ⟨a1, c1, rfl, _⟩, ⟨a2, c2, rfl, _⟩, ⟨a3, c3, rfl, _⟩, ⟨a4, c4, rfl, _⟩⟩ := ht1; clear he1; have hcv := CV.out (w1.alloc (.cells #[.string T.lang, .slice a1 T.extl.length c1, .string T.script, .string T.region, .slice a2 T.vars.length c2, .slice a3 T.exts.length c3, .slice a4 T.priv.length c4, .string T.grand] 25)) (hb1.alloc hb1.size _))
        | (go_at_call 29; (with_reducible refine (P2.out _ (hb1.alloc hb1.size _)).mono ?_); rintro e w2 ⟨tv, ev2, rfl, ht2, he2, hb2⟩; have hb12 : Below w1.heap.size w1 w2 := ((Below.refl _ w1).alloc (Nat.le_refl _) _).trans (hb2.mono (by simp)); have SM := Lib.hid (fun w5 (hb5 : Below w2.heap.size w2 w5) => (same_wide _ _ T T w5 ((HT1.out.below hb12).below hb5) (ht2.below hb5) HW.out).mono (R' := fun e w6 => e = .returned (.bool true) ∧ Below w2.heap.size w2 w6) fun e w6 ⟨p, q⟩ => ⟨by rw [p, sameT_self], hb5.trans (q.mono hb5.size)⟩); have hlt : w1.heap.size < w2.heap.size := (by have := hb2.size; simp at this; omega); have HLR2 := Lib.hid ((HLR.out.below hb1).below hb12); have K1 := Lib.hid (fun w5 (hb5 : Below w2.heap.size w2 w5) => (kindP_any w5 ((HE1.out.below hb12).below hb5) (HLR2.out.below hb5).t).mono (R' := fun e w6 => e = .returned (.int .i64 (kindR r)) ∧ Below w2.heap.size w2 w6) fun e w6 ⟨p, q⟩ => ⟨p, hb5.trans (q.mono hb5.size)⟩); have K2 := Lib.hid (fun w5 (hb5 : Below w2.heap.size w2 w5) => (kindP_any w5 (he2.below hb5) (HLR2.out.below hb5).t).mono (R' := fun e w6 => e = .returned (.int .i64 (kindR r)) ∧ Below w2.heap.size w2 w6) fun e w6 ⟨p, q⟩ => ⟨p, hb5.trans (q.mono hb5.size)⟩); have L1 := Lib.hid (fun w5 (hb5 : Below w2.heap.size w2 w5) => (placeP_any w5 ((HE1.out.below hb12).below hb5)).mono (R' := fun e w6 => e = .returned (.int .i64 (placeR r)) ∧ Below w2.heap.size w2 w6) fun e w6 ⟨p, q⟩ => ⟨p, hb5.trans (q.mono hb5.size)⟩); have L2 := Lib.hid (fun w5 (hb5 : Below w2.heap.size w2 w5) => (placeP_any w5 (he2.below hb5)).mono (R' := fun e w6 => e = .returned (.int .i64 (placeR r)) ∧ Below w2.heap.size w2 w6) fun e w6 ⟨p, q⟩ => ⟨p, hb5.trans (q.mono hb5.size)⟩); have HH := Lib.hid (fun w5 (hb : Below w2.heap.size w2 w5) => tag_cells ((hb.block _ hlt).trans ((hb2.block _ (by simp)).trans (World.alloc_heap_new w1 _)))); obtain ⟨d0, d1, d2, d3, d4, d5, d6, d7⟩ := HH.out w2 (Below.refl _ _); have HB2 := Lib.hid (hb1.trans (hb12.mono hb1.size)); obtain ⟨ye, yv, yx, yp, rfl, ⟨b1, e1, rfl, _⟩, ⟨b2, e2, rfl, _⟩, ⟨b3, e3, rfl, _⟩, ⟨b4, e4, rfl, _⟩⟩ := ht2; clear he2 hb12 hcv)
        | (go_at_call 30; (with_reducible refine (SM.out _ ((Below.refl _ _).alloc (Nat.le_refl _) _)).mono ?_); rintro e w3 ⟨rfl, hb3⟩)
        | (go_at_call 38; (with_reducible refine (K1.out _ (by assumption)).mono ?_); rintro e w4 ⟨rfl, hb4⟩)
        | (go_at_call 38; (with_reducible refine (K2.out _ (by assumption)).mono ?_); rintro e w5 ⟨rfl, hb5⟩)
        | (go_at_call 39; (with_reducible refine (L1.out _ (by assumption)).mono ?_); rintro e w6 ⟨rfl, hb6⟩)
        | (go_at_call 39; (with_reducible refine (L2.out _ (by assumption)).mono ?_); rintro e w7 ⟨rfl, hb7⟩))
      go_ret
      exact ⟨rfl, HBW.out.trans ((HB2.out.trans (hb7.mono HB2.out.size)).mono HBW.out.size)⟩
end Go.Proofs.YtajdfckppnedjaaGreatDoor
