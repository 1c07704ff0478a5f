/-
  AliasBack: the walk of the law.
-/
import Derived.Test.YtmoblofkcfondaaDoorYKit
import Derived.Test.YtmoblofkcfondaaDoorYRowR
import Derived.Deep.CutRange
namespace Go.Proofs.YtmoblofkcfondaaDoor
open Go Go.RowKit

theorem okA_empty : okA ⟨#[]⟩ = false := by
  rw [okA_eq]; unfold okR; rw [decide_eq_false (by decide)]; rfl
theorem back_of (a : Al) : okA (encS a) = rightA a ∧ (rightA a = true → decV (encS a) = a) ∧ (encS a).size ≤ 1048576 := by
  cases h : rightA a with
  | true =>
    obtain ⟨h1, h2⟩ := dec_right h
    have e : encS a = rowB a := by unfold encS; rw [h]; rfl
    rw [e]
    exact ⟨h2, fun _ => by unfold decV; rw [if_pos h2, h1], by rw [size_rowB]; decide⟩
  | false =>
    have e : encS a = ⟨#[]⟩ := by unfold encS; rw [h]; rfl
    rw [e]
    exact ⟨okA_empty, fun h => Bool.noConfusion h, by decide⟩
theorem zero_wrong : rightA zeroA = false := by decide
theorem dec_facts (y : ByteArray) : AlS (decV y) ∧ rightA (decV y) = okA y ∧ (okA y = true → encS (decV y) = y) := by
  cases h : okA y with
  | true =>
    have e : decV y = unA y := by unfold decV; rw [h]; rfl
    have h' := h
    unfold okA at h'
    rw [Bool.and_eq_true, decide_eq_true_iff] at h'
    rw [e]
    exact ⟨unA_small y, h'.1, fun _ => by unfold encS; rw [h'.1, if_pos rfl, h'.2]⟩
  | false =>
    have e : decV y = zeroA := by unfold decV; rw [h]; rfl
    rw [e]
    exact ⟨⟨by decide, by decide, by decide, by decide, by decide, by decide⟩, zero_wrong, fun h => Bool.noConfusion h⟩
theorem conv_oneB (z : Int) (W : World) : ∃ cc : ByteArray, cc.size = 1 ∧ ∀ w2 : World, w2.cell? ⟨W.heap.size, 0, none⟩ = some (.int .u8 (z % 256)) → (convert 35 9 (.slice (some ⟨W.heap.size, 0, none⟩) 1 1)).run Tryd.prog w2 = .ok (.string cc) w2 := by
  have hz : ((UInt8.ofNat (z % 256).toNat).toNat : Int) = z % 256 := by
    rw [UInt8.toNat_ofNat', Nat.mod_eq_of_lt (by omega)]; omega
  exact ⟨⟨[UInt8.ofNat (z % 256).toNat].toArray⟩, rfl, fun w2 h => run_convert_bytes_back (P := Tryd.prog) w2 35 9 5 ⟨W.heap.size, 0, none⟩ 1 [UInt8.ofNat (z % 256).toNat] Tryd.underlying35 Tryd.underlying5 Tryd.underlying9 (fun j hj => by
    obtain rfl : j = 0 := by simpa using hj
    rw [Addr.add_lit]
    show w2.cell? ⟨W.heap.size, 0, none⟩ = some (.int .u8 ((UInt8.ofNat (z % 256).toNat).toNat : Int))
    rw [h, hz])⟩
theorem cells2Y {W : World} {B : Nat} {a b : Value} {t : TypeId} (h : W.heap[B]? = some (.cells #[a, b] t (0, 0))) :
    W.cell? ⟨B, 0, none⟩ = some a ∧ W.cell? ⟨B, 1, none⟩ = some b := by
  simp [World.cell?, h]
theorem cell_newB (W : World) (v : Value) (t : TypeId) : (W.alloc (.cells #[v] t)).cell? ⟨W.heap.size, 0, none⟩ = some v := cellAtY (World.alloc_heap_new W _) 0 v rfl

set_option maxRecDepth 1000000 in
set_option maxHeartbeats 16000000 in
theorem back_law (S : Sd) (q0 q1 : Int) (w : World) (_h0 : (Lit.int .i64 q0).wf = true) (_h1 : (Lit.int .i64 q1).wf = true) (hg : GL w) :
    Calls Tryd.prog 5 #[.agg #[.int .i64 S.kind, .int .i64 S.a, .int .i64 S.b, .int .i64 S.l, .int .i64 S.s, .int .i64 S.r, .int .i64 S.odd], .agg #[.int .i64 q0, .int .i64 q1]] w fun e w' => e = .returned (.bool true) ∧ Below w.heap.size w w' := by
  have hgs := hg.size
  obtain ⟨W1, hW1⟩ : ∃ W1, (w.alloc (.cells #[.int .i64 S.kind, .int .i64 S.a, .int .i64 S.b, .int .i64 S.l, .int .i64 S.s, .int .i64 S.r, .int .i64 S.odd] 25)).alloc (.cells #[.int .i64 q0, .int .i64 q1] 32) = W1 := ⟨_, rfl⟩
  have hb1 : Below w.heap.size w W1 := by rw [← hW1]; exact ((Below.refl _ w).alloc (Nat.le_refl _) _).alloc (by simp) _
  have hA : W1.heap[w.heap.size]? = some (.cells #[.int .i64 S.kind, .int .i64 S.a, .int .i64 S.b, .int .i64 S.l, .int .i64 S.s, .int .i64 S.r, .int .i64 S.odd] 25 (0, 0)) := by
    rw [← hW1]; exact (Below.heap_alloc _ _ _ (by simp)).trans (World.alloc_heap_new w _)
  have hB : W1.heap[w.heap.size + 1]? = some (.cells #[.int .i64 q0, .int .i64 q1] 32 (0, 0)) := by rw [← hW1]; exact heap_alloc2_new w _ _
  have H7 := Lib.hid (fun w' (hb : Below W1.heap.size W1 w') => cells7 ((hb.block _ (lt_of_block hA)).trans hA))
  have H2 := Lib.hid (fun w' (hb : Below W1.heap.size W1 w') => cells2Y ((hb.block _ (lt_of_block hB)).trans hB))
  have HGL := Lib.hid (fun w' (hb : Below W1.heap.size W1 w') => hg.below (hb1.trans (hb.mono hb1.size)) hgs)
  have HB1 := Lib.hid (fun w' (hb : Below W1.heap.size W1 w') => hb1.trans (hb.mono hb1.size))
  have HW1 := Lib.hid hW1
  have AW := Lib.hid (fun w' (hb : Below W1.heap.size W1 w') => (awake12_any w' (HGL.out _ hb)).mono (R' := fun e w'' => e = .returned (.bool true) ∧ Below W1.heap.size W1 w'') fun e w'' ⟨p, q⟩ => ⟨p, hb.trans (q.mono hb.size)⟩)
  have MS := Lib.hid (fun w' => made_any S w')
  have RS := Lib.hid (fun w' => rest12_41 q0 w')
  have hi := restV_lt q0 41 (by decide)
  have ha := made_small S
  have hk := (made_sml S).2
  generalize madeA S = a at *
  generalize restV q0 41 = i at *
  obtain ⟨g1, g2, g3⟩ := back_of a
  have EA := Lib.hid (fun w' (hg : GL w') => encode_al a w' ha hg)
  have DA := Lib.hid (fun w' (hg : GL w') => decode_al (encS a) w' g3 hg)
  have RO := Lib.hid (fun w' => row_ref a w' (alZ_of ha ⟨by omega, by omega⟩))
  rw [g1] at DA
  have hsr := size_rowB a
  generalize rowB a = r at *
  generalize encS a = es at *
  obtain ⟨ra, hra⟩ : ∃ ra, rightA a = ra := ⟨_, rfl⟩
  rw [hra] at EA DA g2
  have G2 := Lib.hid g2
  obtain ⟨b, hb⟩ : ∃ b, decV es = b := ⟨_, rfl⟩
  rw [hb] at DA G2
  clear g1 g2 g3 hra hb hk ha hA hB hb1 hW1 hg hgs _h0 _h1
  go_enter Tryd.func5, Tryd.ntmps5
  go_upto_region 1 with fail
  rw [HW1.out]
  go_upto_region 2 with (go_at_call 9; (with_reducible refine (AW.out _ (Below.refl _ _)).mono ?_); rintro e w2 ⟨rfl, hb2⟩)
  obtain ⟨s0, s1, s2, s3, s4, s5, s6⟩ := H7.out _ hb2
  go_upto_region 3 with (go_at_call 13; (with_reducible refine (MS.out _).mono ?_); rintro e w3 ⟨rfl, hb3⟩)
  clear s0 s1 s2 s3 s4 s5 s6
  have hb3' := hb2.trans (hb3.mono hb2.size)
  have hb3a := hb3'.alloc hb3'.size (.cells #[.int .i64 a.k, .string a.a, .string a.b, .string a.l, .string a.s, .string a.r] 23)
  have hA3 := World.alloc_heap_new w3 (.cells #[.int .i64 a.k, .string a.a, .string a.b, .string a.l, .string a.s, .string a.r] 23)
  generalize hW3 : w3.alloc (.cells #[.int .i64 a.k, .string a.a, .string a.b, .string a.l, .string a.s, .string a.r] 23) = W3 at *
  have H6 := Lib.hid (fun w' (hb : Below W3.heap.size W3 w') => cells6 ((hb.block _ (lt_of_block hA3)).trans hA3))
  have HGL3 := Lib.hid (fun w' (hb : Below W3.heap.size W3 w') => HGL.out _ (hb3a.trans (hb.mono hb3a.size)))
  have H23 := Lib.hid (fun w' (hb : Below W3.heap.size W3 w') => H2.out _ (hb3a.trans (hb.mono hb3a.size)))
  have HB3 := Lib.hid (fun w' (hb : Below W3.heap.size W3 w') => HB1.out _ (hb3a.trans (hb.mono hb3a.size)))
  have hW3l := lt_of_block hA3
  clear hb3 hb3' hW3 hb2 hA3 hb3a HGL H2 HB1 H7
  obtain ⟨a0, a1, a2, a3, a4, a5⟩ := H6.out _ (Below.refl _ _)
  go_upto_region 4 with (go_at_call 16; (with_reducible refine (EA.out _ (HGL3.out _ (Below.refl _ _))).mono ?_); rintro e w4 ⟨rfl, hb4⟩)
  clear a0 a1 a2 a3 a4 a5 EA MS AW
  go_upto_region 5 with (go_at_call 17; (with_reducible refine (DA.out _ (HGL3.out _ hb4)).mono ?_); rintro e w5 ⟨rfl, hb5⟩)
  have hb5' := hb4.trans (hb5.mono hb4.size)
  have hb5a := hb5'.alloc hb5'.size (.cells #[.int .i64 b.k, .string b.a, .string b.b, .string b.l, .string b.s, .string b.r] 23)
  have hA5 := World.alloc_heap_new w5 (.cells #[.int .i64 b.k, .string b.a, .string b.b, .string b.l, .string b.s, .string b.r] 23)
  generalize hW5 : w5.alloc (.cells #[.int .i64 b.k, .string b.a, .string b.b, .string b.l, .string b.s, .string b.r] 23) = W5 at *
  obtain ⟨b0, b1, b2, b3, b4, b5⟩ := cells6 hA5
  obtain ⟨a0, a1, a2, a3, a4, a5⟩ := H6.out _ hb5a
  clear hb5 hb5' hW5 hb4 DA hA5 HW1
  have hr1 : (i : Int) ≤ (r.size : Int) := by omega
  have hr2 : (i : Int) + 1 ≤ (r.size : Int) := by omega
  have hr0 : (0 : Int) ≤ (i : Int) := by omega
  have hr3 : (0 : Int) ≤ (i : Int) + 1 := by omega
  generalize w3.heap.size = N3 at *
  cases ra
  case' true =>
    obtain rfl := G2.out rfl
  all_goals
    clear G2
    go_upto_region 7 with fail
    clear a0 a1 a2 a3 a4 a5 b0 b1 b2 b3 b4 b5
    obtain ⟨a0, a1, a2, a3, a4, a5⟩ := H6.out _ hb5a
    go_upto_region 8 with (go_at_call 14; (with_reducible refine (RO.out _).mono ?_); rintro e w7 ⟨rfl, hb7⟩)
    have hb7' := hb5a.trans (hb7.mono hb5a.size)
    clear a0 a1 a2 a3 a4 a5 hb5a hb7
    obtain ⟨e0, e1⟩ := H23.out _ hb7'
    go_upto_region 9 with (go_at_call 11; (with_reducible refine (RS.out _).mono ?_); rintro e w8 ⟨rfl, rfl⟩)
    obtain ⟨cc, hcc, hcv⟩ := conv_oneB q1 w7
    have hcv1 := hcv _ (cell_newB w7 (.int .u8 (q1 % 256)) 5)
    have hcv2 := hcv (w7.alloc (.cells #[.int .u8 (q1 % 256)] 5)).drew (cell_newB w7 (.int .u8 (q1 % 256)) 5)
    clear hcv
    go_region
    clear hcv1 hcv2 e0 e1
    have hy : (r.extract 0 i ++ cc ++ r.extract (i + 1) 41).size ≤ 1048576 := by
      rw [ByteArray.size_append, ByteArray.size_append, ByteArray.size_extract, ByteArray.size_extract]; omega
    generalize r.extract 0 i ++ cc ++ r.extract (i + 1) 41 = y at *
    obtain ⟨d1, d2, d3⟩ := dec_facts y
    have DY := Lib.hid (fun w' (hb : Below W3.heap.size W3 w') => (decode_al y w' hy (HGL3.out _ hb)).mono (R' := fun e w'' => e = .returned (.tuple #[.agg #[.int .i64 (decV y).k, .string (decV y).a, .string (decV y).b, .string (decV y).l, .string (decV y).s, .string (decV y).r], .bool (okA y)]) ∧ Below W3.heap.size W3 w'') fun e w'' ⟨p, q⟩ => ⟨p, hb.trans (q.mono hb.size)⟩)
    have EY := Lib.hid (fun w' (hg : GL w') => encode_al (decV y) w' d1 hg)
    have RY := Lib.hid (fun w' (hg : GL w') => right_al (decV y) w' d1 hg)
    rw [d2] at EY RY
    generalize okA y = ok at *
    generalize decV y = d at *
    generalize encS d = ed at *
    clear d1 d2 hy hsr hr0 hr1 hr2 hr3 hi hcc RO RS H6 H23
    go_upto_region 10 with fail
    obtain ⟨W9, hW9⟩ : ∃ W9, (w7.alloc (.cells #[.int .u8 (q1 % 256)] 5)).drew = W9 := ⟨_, rfl⟩
    have hb9 : Below W3.heap.size W3 W9 := by rw [← hW9]; exact Below.drew (hb7'.alloc hb7'.size _)
    rw [hW9]
    clear hW9 hb7'
    go_upto_region 11 with (go_at_call 17; (with_reducible refine (DY.out _ hb9).mono ?_); rintro e w10 ⟨rfl, hb10⟩)
    have hb10a := hb10.alloc hb10.size (.cells #[.int .i64 d.k, .string d.a, .string d.b, .string d.l, .string d.s, .string d.r] 23)
    have hA10 := World.alloc_heap_new w10 (.cells #[.int .i64 d.k, .string d.a, .string d.b, .string d.l, .string d.s, .string d.r] 23)
    generalize hW10 : w10.alloc (.cells #[.int .i64 d.k, .string d.a, .string d.b, .string d.l, .string d.s, .string d.r] 23) = W10 at *
    obtain ⟨b0, b1, b2, b3, b4, b5⟩ := cells6 hA10
    clear hb10 hW10 hb9 DY
    have HEY := Lib.hid (EY.out _ (HGL3.out _ hb10a))
    go_upto_region 12 with (go_at_call 16; (with_reducible refine HEY.out.mono ?_); rintro e w11 ⟨rfl, hb11⟩)
    clear b0 b1 b2 b3 b4 b5 HEY EY
    obtain ⟨b0, b1, b2, b3, b4, b5⟩ := cells6 ((hb11.block _ (lt_of_block hA10)).trans hA10)
    have hb11' := hb10a.trans (hb11.mono hb10a.size)
    have HRY := Lib.hid ((RY.out _ (HGL3.out _ hb11')).mono (R' := fun e w'' => e = .returned (.bool ok) ∧ Below W3.heap.size W3 w'') fun e w'' ⟨p, q⟩ => ⟨p, hb11'.trans (q.mono hb11'.size)⟩)
    cases ok
    case' true => obtain rfl := d3 rfl
    all_goals
      clear d3 hA10 hb10a hb11 RY HGL3
      go_wp2_with (go_at_call 18; (with_reducible refine HRY.out.mono ?_); rintro e w12 ⟨rfl, hb12⟩)
      go_ret
      exact ⟨rfl, HB3.out _ (by assumption)⟩
end Go.Proofs.YtmoblofkcfondaaDoor
