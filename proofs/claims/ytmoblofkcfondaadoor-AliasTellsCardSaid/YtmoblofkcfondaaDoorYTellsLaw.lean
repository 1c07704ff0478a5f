/-
  AliasTells: the walk of the law.
-/
import Derived.Test.YtmoblofkcfondaaDoorYRightR
import Derived.Test.YtmoblofkcfondaaDoorYBackLaw
namespace Go.Proofs.YtmoblofkcfondaaDoor
open Go Go.RowKit

set_option maxRecDepth 1000000 in
set_option maxHeartbeats 8000000 in
theorem tells_any (x : Al) (w : World) (hx : AlS x) (hg : GL w) :
    Calls Tryd.prog 12 #[.agg #[.int .i64 x.k, .string x.a, .string x.b, .string x.l, .string x.s, .string x.r]] w fun e w' => e = .returned (.bool true) ∧ Below w.heap.size w w' := by
  have hgs := hg.size
  obtain ⟨W1, hW1⟩ : ∃ W1, w.alloc (.cells #[.int .i64 x.k, .string x.a, .string x.b, .string x.l, .string x.s, .string x.r] 23) = W1 := ⟨_, rfl⟩
  have hb1 : Below w.heap.size w W1 := by rw [← hW1]; exact (Below.refl _ w).alloc (Nat.le_refl _) _
  have hA : W1.heap[w.heap.size]? = some (.cells #[.int .i64 x.k, .string x.a, .string x.b, .string x.l, .string x.s, .string x.r] 23 (0, 0)) := by rw [← hW1]; exact World.alloc_heap_new w _
  have HB1 := Lib.hid (fun w' (hb : Below W1.heap.size W1 w') => hb1.trans (hb.mono hb1.size))
  have H6 := Lib.hid (fun w' (hb : Below W1.heap.size W1 w') => cells6 ((hb.block _ (lt_of_block hA)).trans hA))
  have HGL := Lib.hid (fun w' (hb : Below W1.heap.size W1 w') => hg.below (hb1.trans (hb.mono hb1.size)) hgs)
  have HW1 := Lib.hid hW1
  have HR := Lib.hid (fun w' => right_ref x w' hx)
  have HE := Lib.hid (fun w' (hg : GL w') => encode_al x w' hx hg)
  have HA := Lib.hid (fun w' (hg : GL w') => right_al x w' hx hg)
  have hro : rightA x = true → AlZ x := fun h => alZ_of hx (by have := right_kind h; omega)
  have hen : encS x = if rightA x then rowB x else ⟨#[]⟩ := rfl
  obtain ⟨r, hr⟩ : ∃ r, rightA x = r := ⟨_, rfl⟩
  rw [hr] at HR HE HA hro hen
  clear hr hx hA hb1 hW1 hg hgs
  obtain ⟨a0, a1, a2, a3, a4, a5⟩ := H6.out _ (Below.refl _ _)
  cases r with
  | false =>
    rw [show (if false = true then rowB x else (⟨#[]⟩ : ByteArray)) = ⟨#[]⟩ from rfl] at hen
    rw [hen] at HE
    clear hen hro
    go_enter Tryd.func12, Tryd.ntmps12
    go_upto_region 1 with fail
    rw [HW1.out]
    go_upto_region 2 with (go_at_call 25; (with_reducible refine (HR.out _).mono ?_); rintro e w2 ⟨rfl, hb2⟩)
    clear a0 a1 a2 a3 a4 a5
    obtain ⟨a0, a1, a2, a3, a4, a5⟩ := H6.out _ hb2
    go_upto_region 3 with (go_at_call 16; (with_reducible refine (HE.out _ (HGL.out _ hb2)).mono ?_); rintro e w3 ⟨rfl, hb3⟩)
    clear a0 a1 a2 a3 a4 a5
    have hb3' := hb2.trans (hb3.mono hb2.size)
    obtain ⟨a0, a1, a2, a3, a4, a5⟩ := H6.out _ hb3'
    go_wp2_with (go_at_call 18; (with_reducible refine (HA.out _ (HGL.out _ hb3')).mono ?_); rintro e w4 ⟨rfl, hb4⟩)
    go_ret
    exact ⟨rfl, HB1.out _ (hb3'.trans (hb4.mono hb3'.size))⟩
  | true =>
    rw [show (if true = true then rowB x else (⟨#[]⟩ : ByteArray)) = rowB x from rfl] at hen
    rw [hen] at HE
    have HO := Lib.hid (fun w' => row_ref x w' (hro rfl))
    generalize rowB x = row at *
    clear hen hro
    go_enter Tryd.func12, Tryd.ntmps12
    go_upto_region 1 with fail
    rw [HW1.out]
    go_upto_region 2 with (go_at_call 25; (with_reducible refine (HR.out _).mono ?_); rintro e w2 ⟨rfl, hb2⟩)
    clear a0 a1 a2 a3 a4 a5
    obtain ⟨a0, a1, a2, a3, a4, a5⟩ := H6.out _ hb2
    go_upto_region 3 with (go_at_call 16; (with_reducible refine (HE.out _ (HGL.out _ hb2)).mono ?_); rintro e w3 ⟨rfl, hb3⟩)
    clear a0 a1 a2 a3 a4 a5
    have hb3' := hb2.trans (hb3.mono hb2.size)
    obtain ⟨a0, a1, a2, a3, a4, a5⟩ := H6.out _ hb3'
    go_wp2_with (first
      | (go_at_call 18; (with_reducible refine (HA.out _ (HGL.out _ hb3')).mono ?_); rintro e w4 ⟨rfl, hb4⟩; have hb4' := hb3'.trans (hb4.mono hb3'.size); obtain ⟨e0, e1, e2, e3, e4, e5⟩ := H6.out _ hb4')
      | (go_at_call 14; (with_reducible refine (HO.out _).mono ?_); rintro e w5 ⟨rfl, hb5⟩))
    go_ret
    exact ⟨rfl, HB1.out _ (hb4'.trans (hb5.mono hb4'.size))⟩
theorem rest_wf (x : Int) : (Lit.int .i64 (restV x 9 : Int)).wf = true := wf_few ⟨by omega, by have := restV_lt x 9 (by decide); omega⟩

set_option maxRecDepth 1000000 in
set_option maxHeartbeats 8000000 in
theorem tells_law (x : Al) (S : Sd) (w : World) (hx : AlL x) (hg : GL w) :
    Calls Tryd.prog 3 #[.agg #[.int .i64 x.k, .string x.a, .string x.b, .string x.l, .string x.s, .string x.r], .agg #[.int .i64 S.kind, .int .i64 S.a, .int .i64 S.b, .int .i64 S.l, .int .i64 S.s, .int .i64 S.r, .int .i64 S.odd]] w fun e w' => e = .returned (.bool true) ∧ Below w.heap.size w w' := by
  have hgs := hg.size
  obtain ⟨W1, hW1⟩ : ∃ W1, (w.alloc (.cells #[.int .i64 x.k, .string x.a, .string x.b, .string x.l, .string x.s, .string x.r] 23)).alloc (.cells #[.int .i64 S.kind, .int .i64 S.a, .int .i64 S.b, .int .i64 S.l, .int .i64 S.s, .int .i64 S.r, .int .i64 S.odd] 25) = W1 := ⟨_, rfl⟩
  have hb1 : Below w.heap.size w W1 := by rw [← hW1]; exact ((Below.refl _ w).alloc (Nat.le_refl _) _).alloc (by simp) _
  have hA : W1.heap[w.heap.size]? = some (.cells #[.int .i64 x.k, .string x.a, .string x.b, .string x.l, .string x.s, .string x.r] 23 (0, 0)) := by
    rw [← hW1]; exact (Below.heap_alloc _ _ _ (by simp)).trans (World.alloc_heap_new w _)
  have hB : W1.heap[w.heap.size + 1]? = some (.cells #[.int .i64 S.kind, .int .i64 S.a, .int .i64 S.b, .int .i64 S.l, .int .i64 S.s, .int .i64 S.r, .int .i64 S.odd] 25 (0, 0)) := by rw [← hW1]; exact heap_alloc2_new w _ _
  have H6 := Lib.hid (fun w' (hb : Below W1.heap.size W1 w') => cells6 ((hb.block _ (lt_of_block hA)).trans hA))
  have H7 := Lib.hid (fun w' (hb : Below W1.heap.size W1 w') => cells7 ((hb.block _ (lt_of_block hB)).trans hB))
  have HGL := Lib.hid (fun w' (hb : Below W1.heap.size W1 w') => hg.below (hb1.trans (hb.mono hb1.size)) hgs)
  have HB1 := Lib.hid (fun w' (hb : Below W1.heap.size W1 w') => hb1.trans (hb.mono hb1.size))
  have HW1 := Lib.hid hW1
  have AW := Lib.hid (fun w' (hb : Below W1.heap.size W1 w') => (awake12_any w' (HGL.out _ hb)).mono (R' := fun e w'' => e = .returned (.bool true) ∧ Below W1.heap.size W1 w'') fun e w'' ⟨p, q⟩ => ⟨p, hb.trans (q.mono hb.size)⟩)
  have FX := Lib.hid (fun w' => few12_any x w' hx)
  have hf := few_small hx
  generalize fewA x = f at *
  have RS := Lib.hid (fun w' => rest12_9 f.k w')
  have hrw := rest_wf f.k
  generalize (restV f.k 9 : Int) = j at *
  have MS := Lib.hid (fun w' => made_any S w')
  have ha := made_small S
  generalize madeA S = a at *
  have T1 := Lib.hid (fun w' (hg : GL w') => tells_any f w' hf hg)
  have T2 := Lib.hid (fun w' (hg : GL w') => tells_any ⟨j, f.a, f.b, f.l, f.s, f.r⟩ w' ⟨hrw, hf.a, hf.b, hf.l, hf.s, hf.r⟩ hg)
  have T3 := Lib.hid (fun w' (hg : GL w') => tells_any a w' ha hg)
  have T4 := Lib.hid (fun w' (hg : GL w') => show Calls Tryd.prog 12 #[.agg #[.int .i64 0, .string ⟨#[]⟩, .string ⟨#[]⟩, .string ⟨#[]⟩, .string ⟨#[]⟩, .string ⟨#[]⟩]] w' fun e w'' => e = .returned (.bool true) ∧ Below w'.heap.size w' w'' from tells_any zeroA w' ⟨by decide, by decide, by decide, by decide, by decide, by decide⟩ hg)
  clear hf hrw ha hx hA hB hb1 hW1 hg hgs
  go_enter Tryd.func3, Tryd.ntmps3
  go_upto_region 1 with fail
  rw [HW1.out]
  go_upto_region 2 with (go_at_call 9; (with_reducible refine (AW.out _ (Below.refl _ _)).mono ?_); rintro e w2 ⟨rfl, hb2⟩)
  obtain ⟨a0, a1, a2, a3, a4, a5⟩ := H6.out _ hb2
  go_upto_region 3 with (go_at_call 10; (with_reducible refine (FX.out _).mono ?_); rintro e w3 ⟨rfl, hb3⟩)
  clear a0 a1 a2 a3 a4 a5
  have hb3' := hb2.trans (hb3.mono hb2.size)
  have hb3a := hb3'.alloc hb3'.size (.cells #[.int .i64 f.k, .string f.a, .string f.b, .string f.l, .string f.s, .string f.r] 23)
  have hA3 := World.alloc_heap_new w3 (.cells #[.int .i64 f.k, .string f.a, .string f.b, .string f.l, .string f.s, .string f.r] 23)
  generalize hW3 : w3.alloc (.cells #[.int .i64 f.k, .string f.a, .string f.b, .string f.l, .string f.s, .string f.r] 23) = W3 at *
  have hl3 : w3.heap.size < W3.heap.size := lt_of_block hA3
  have hl30 : W1.heap.size ≤ w3.heap.size := hb3'.size
  clear hb3 hW3 hb2 hb3'
  obtain ⟨a0, a1, a2, a3, a4, a5⟩ := cells6 hA3
  go_upto_region 4 with fail
  clear a0 a1 a2 a3 a4 a5
  have hB4 := World.alloc_heap_new W3 (.cells #[.int .i64 f.k, .string f.a, .string f.b, .string f.l, .string f.s, .string f.r] 23)
  have hA4 := (Below.heap_alloc W3 (.cells #[.int .i64 f.k, .string f.a, .string f.b, .string f.l, .string f.s, .string f.r] 23) _ hl3).trans hA3
  have hb4 := hb3a.alloc hb3a.size (.cells #[.int .i64 f.k, .string f.a, .string f.b, .string f.l, .string f.s, .string f.r] 23)
  generalize hW4 : W3.alloc (.cells #[.int .i64 f.k, .string f.a, .string f.b, .string f.l, .string f.s, .string f.r] 23) = W4 at *
  have hl4 : W3.heap.size < W4.heap.size := lt_of_block hB4
  clear hW4 hA3 hb3a
  generalize w3.heap.size = N3 at *
  generalize hN4 : W3.heap.size = N4 at *
  clear hN4
  obtain ⟨a0, a1, a2, a3, a4, a5⟩ := cells6 hA4
  obtain ⟨b0, b1, b2, b3, b4, b5⟩ := cells6 hB4
  have f5 := frozenY hB4 0
  go_upto_region 5 with (go_at_call 11; (with_reducible refine (RS.out _).mono ?_); rintro e w5 ⟨rfl, rfl⟩)
  have hAY : (W4.setCell ⟨N4, 0, none⟩ (.int .i64 j)).heap[N3]? = some (.cells #[.int .i64 f.k, .string f.a, .string f.b, .string f.l, .string f.s, .string f.r] 23 (0, 0)) := (heap_setCellY (by omega)).trans hA4
  have hBY : (W4.setCell ⟨N4, 0, none⟩ (.int .i64 j)).heap[N4]? = some (.cells #[.int .i64 j, .string f.a, .string f.b, .string f.l, .string f.s, .string f.r] 23 (0, 0)) := setY hB4 _
  have hbY : Below W1.heap.size W1 (W4.setCell ⟨N4, 0, none⟩ (.int .i64 j)) := hb4.setCell (p := ⟨N4, 0, none⟩) (by show W1.heap.size ≤ N4; omega) _
  generalize hYY : W4.setCell ⟨N4, 0, none⟩ (.int .i64 j) = Y at *
  have CB := Lib.hid (fun w' (hb : Below Y.heap.size Y w') => cells6 ((hb.block _ (lt_of_block hBY)).trans hBY))
  have CS := Lib.hid (fun w' (hb : Below Y.heap.size Y w') => H7.out w' (hbY.trans (hb.mono hbY.size)))
  have GY := Lib.hid (fun w' (hb : Below Y.heap.size Y w') => HGL.out _ (hbY.trans (hb.mono hbY.size)))
  have BY := Lib.hid (fun w' (hb : Below Y.heap.size Y w') => HB1.out _ (hbY.trans (hb.mono hbY.size)))
  clear hYY hA4 hB4 hb4 a0 a1 a2 a3 a4 a5 b0 b1 b2 b3 b4 b5 f5 H6 H7 HGL HB1 HW1 AW FX RS hBY hbY hl3 hl30 hl4
  obtain ⟨a0, a1, a2, a3, a4, a5⟩ := cells6 hAY
  clear hAY
  go_wp2_with (first
    | (go_at_call 12; (with_reducible refine (T1.out _ (GY.out _ (Below.refl _ _))).mono ?_); rintro e w6 ⟨rfl, hb6⟩; obtain ⟨b0, b1, b2, b3, b4, b5⟩ := CB.out _ hb6)
    | (go_at_call 12; (with_reducible refine (T2.out _ (GY.out _ hb6)).mono ?_); rintro e w7 ⟨rfl, hb7⟩; have hb7' := hb6.trans (hb7.mono hb6.size); obtain ⟨s0, s1, s2, s3, s4, s5, s6⟩ := CS.out _ hb7')
    | (go_at_call 13; (with_reducible refine (MS.out _).mono ?_); rintro e w8 ⟨rfl, hb8⟩; have hb8' := hb7'.trans (hb8.mono hb7'.size))
    | (go_at_call 12; (with_reducible refine (T3.out _ (GY.out _ hb8')).mono ?_); rintro e w9 ⟨rfl, hb9⟩; have hb9' := hb8'.trans (hb9.mono hb8'.size))
    | (go_at_call 12; (with_reducible refine (T4.out _ (GY.out _ hb9')).mono ?_); rintro e w10 ⟨rfl, hb10⟩))
  go_ret
  exact ⟨rfl, BY.out _ (hb9'.trans (hb10.mono hb9'.size))⟩
end Go.Proofs.YtmoblofkcfondaaDoor
