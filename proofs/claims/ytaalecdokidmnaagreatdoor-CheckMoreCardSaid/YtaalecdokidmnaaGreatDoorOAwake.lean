/-
  Layer 14's laws: the chapter's example, and what is told of one fault.
-/
import Derived.Test.YtaalecdokidmnaaGreatDoorOMust
import Derived.Test.YtaalecdokidmnaaGreatDoorZMade
import Derived.Test.YtaalecdokidmnaaGreatDoorZLessM
import Derived.Test.YtaalecdokidmnaaGreatDoorZPerm
import Derived.Test.YtaalecdokidmnaaGreatDoorFault
import Derived.Test.YtaalecdokidmnaaGreatDoorExt
import Derived.Test.YtaalecdokidmnaaGreatDoorEKit
namespace Go.Proofs.YtaalecdokidmnaaGreatDoor
open Go Go.RowKit

/-! What is told of one fault. -/
theorem chainO {W : World} {b : Nat} {k p : Int} {s : ByteArray} (h : W.heap[b]? = some (faultObj p s (.iface 53 (.int .i64 k)))) : Chain W (b + 1) (.iface 91 (.pointer (some ⟨b, 0, none⟩))) [.fault b p s, .num k] := ⟨rfl, Nat.lt_succ_self _, _, h, rfl, rfl⟩

theorem kindO_any {k p : Int} {s : ByteArray} {v : Value} (w : World) (h : FaultZ w v k p s) (hT : TypeLaid w) : Calls Tryz.prog 14 #[v] w fun e w' => e = .returned (.int .i64 k) ∧ Below w.heap.size w w' := by
  obtain ⟨b, rfl, hb⟩ := h
  exact (kind_chain w (by simp) (lt_of_block hb) (chainO hb) hT).mono fun e w'' ⟨p, q⟩ => ⟨p, q⟩
theorem placeO_any {k p : Int} {s : ByteArray} {v : Value} (w : World) (h : FaultZ w v k p s) : Calls Tryz.prog 15 #[v] w fun e w' => e = .returned (.int .i64 p) ∧ Below w.heap.size w w' := by
  obtain ⟨b, rfl, hb⟩ := h
  exact (place_chain w (by simp) (lt_of_block hb) (chainO hb)).mono fun e w'' ⟨p, q⟩ => ⟨p, q⟩

/-! The chapter's example. -/
def S0 : SeedZ := ⟨[], [], [], [], 0, 0, 0⟩
def im0 : Im := ⟨[], [], DEF3, [⟨EUz, DEz⟩], 0, 0⟩
def AL2 : List Al := [⟨3, ⟨#[105, 119]⟩, ⟨#[]⟩, ⟨#[104, 101]⟩, ⟨#[]⟩, ⟨#[]⟩⟩, ⟨3, ⟨#[104, 101]⟩, ⟨#[]⟩, ⟨#[105, 119]⟩, ⟨#[]⟩, ⟨#[]⟩⟩]
theorem base_S0 {im : Im} (h : BaseI S0 im) : spI im (restV S0.odd 12) = im0 := by
  have e : restV S0.odd 12 = 0 := by decide +kernel
  rw [e]
  show im = im0
  obtain ⟨als, lks, rls, mbs, th, de⟩ := im
  obtain ⟨ha, hl, ⟨l, hr, hrl⟩, hm, ht, hd, -⟩ := h
  have h1 : als = [] := List.eq_nil_of_length_eq_zero (Nat.le_zero.1 ha.len)
  have h2 : lks = [] := List.eq_nil_of_length_eq_zero (Nat.le_zero.1 hl.len)
  have h3 : l = [] := List.eq_nil_of_length_eq_zero (Nat.le_zero.1 hrl)
  have h4 : rls = DEF3 := by rw [h3] at hr; exact hr
  obtain ⟨l2, h5⟩ := hm.hd
  have h5 : mbs = ⟨EUz, DEz⟩ :: l2 := h5
  have h6 : mbs.length ≤ 0 + 1 := hm.len
  have h7 : l2 = [] := List.eq_nil_of_length_eq_zero (by rw [h5, List.length_cons] at h6; omega)
  have h8 : th = 0 := ht.trans (by decide +kernel)
  have h9 : de = 0 := hd.trans (by decide +kernel)
  rw [h1, h2, h4, h5, h7, h8, h9]
  rfl
theorem enc_im0 : encE im0 = none := by
  refine (encE_noneZ im0).2 ⟨by decide +kernel, by decide +kernel, fun j hj => ?_, fun j hj => ?_⟩
  · rcases four j hj with rfl | rfl | rfl | rfl <;> decide +kernel
  · rcases four j hj with rfl | rfl | rfl | rfl
    · exact (dup_keysZ im0 0 (by decide)).2 (by decide +kernel)
    · exact (dup_keysZ im0 1 (by decide)).2 (by decide +kernel)
    · rfl
    · exact (dup_keysZ im0 3 (by decide)).2 (by decide +kernel)
theorem enc_im2 : encE { im0 with als := AL2 } = none := by
  refine (encE_noneZ _).2 ⟨by decide +kernel, by decide +kernel, fun j hj => ?_, fun j hj => ?_⟩
  · rcases four j hj with rfl | rfl | rfl | rfl <;> decide +kernel
  · rcases four j hj with rfl | rfl | rfl | rfl
    · exact (dup_keysZ _ 0 (by decide)).2 (by decide +kernel)
    · exact (dup_keysZ _ 1 (by decide)).2 (by decide +kernel)
    · rfl
    · exact (dup_keysZ _ 3 (by decide)).2 (by decide +kernel)
theorem chk_im0 : chkE im0 = none := by rw [chkE_must enc_im0]; decide +kernel
theorem chk_im2 : chkE { im0 with als := AL2 } = some (14, 0, ⟨#[97, 108, 105, 97, 115]⟩) := by rw [chkE_must enc_im2]; decide +kernel
theorem small_AL2 : ∀ x ∈ AL2, AlS x := by
  intro x hx
  simp only [AL2, List.mem_cons, List.not_mem_nil, or_false] at hx
  rcases hx with rfl | rfl <;> exact ⟨by decide, by decide, by decide, by decide, by decide, by decide⟩
def twoC : Array Value := #[.int .i64 3, .string { data := #[105, 119] }, .string { data := #[] }, .string { data := #[104, 101] }, .string { data := #[] }, .string { data := #[] }, .int .i64 3, .string { data := #[104, 101] }, .string { data := #[] }, .string { data := #[105, 119] }, .string { data := #[] }, .string { data := #[] }]
theorem two_row {W : World} {g : Nat} {t : TypeId} (h : W.heap[g]? = some (.cells twoC t (0, 0))) : RowC W (.slice (some ⟨g, 0, none⟩) 2 2) 6 (AL2.map alC) := by
  refine ⟨_, _, rfl, fun i c hc => ⟨g, 0, rfl, fun k x hk => ?_⟩⟩
  have hi : i = 0 ∨ i = 1 := by have := (List.getElem?_eq_some_iff.1 hc).1; simp [AL2] at this; omega
  rcases hi with rfl | rfl
  · obtain rfl : alC ⟨3, ⟨#[105, 119]⟩, ⟨#[]⟩, ⟨#[104, 101]⟩, ⟨#[]⟩, ⟨#[]⟩⟩ = c := Option.some.inj hc
    have hk6 : k < 6 := (List.getElem?_eq_some_iff.1 hk).1
    refine cellAtY h _ _ ?_
    rcases (show k = 0 ∨ k = 1 ∨ k = 2 ∨ k = 3 ∨ k = 4 ∨ k = 5 by omega) with rfl | rfl | rfl | rfl | rfl | rfl <;> exact hk
  · obtain rfl : alC ⟨3, ⟨#[104, 101]⟩, ⟨#[]⟩, ⟨#[105, 119]⟩, ⟨#[]⟩, ⟨#[]⟩⟩ = c := Option.some.inj hc
    have hk6 : k < 6 := (List.getElem?_eq_some_iff.1 hk).1
    refine cellAtY h _ _ ?_
    rcases (show k = 0 ∨ k = 1 ∨ k = 2 ∨ k = 3 ∨ k = 4 ∨ k = 5 by omega) with rfl | rfl | rfl | rfl | rfl | rfl <;> exact hk
/-- Check of an image that lies in memory: nothing, or one fault. -/
theorem checkNil_any (a1 a2 a3 a4 : Option Addr) (c1 c2 c3 c4 : Nat) (im : Im) (w : World) (hi : ImR w (.slice a1 (cntN im 0) c1) (.slice a2 (cntN im 1) c2) (.slice a3 (cntN im 2) c3) (.slice a4 (cntN im 3) c4) im) (hs : ImS im) (hg : GL w) (hc : chkE im = none) :
    Calls Tryz.prog 10 #[.agg #[.slice a1 (cntN im 0) c1, .slice a2 (cntN im 1) c2, .slice a3 (cntN im 2) c3, .slice a4 (cntN im 3) c4, .int .i64 im.th, .int .i64 im.de]] w fun e w' => e = .returned .nilIface ∧ Below w.heap.size w w' :=
  (chkO_any a1 a2 a3 a4 c1 c2 c3 c4 im w hi hs hg).mono fun e w' ⟨v, p, q, r⟩ => by rw [hc] at q; obtain rfl : v = .nilIface := q; exact ⟨p, r⟩
theorem checkErr_any (a1 a2 a3 a4 : Option Addr) (c1 c2 c3 c4 : Nat) (im : Im) (w : World) (hi : ImR w (.slice a1 (cntN im 0) c1) (.slice a2 (cntN im 1) c2) (.slice a3 (cntN im 2) c3) (.slice a4 (cntN im 3) c4) im) (hs : ImS im) (hg : GL w) {k p : Int} {s : ByteArray} (hc : chkE im = some (k, p, s)) :
    Calls Tryz.prog 10 #[.agg #[.slice a1 (cntN im 0) c1, .slice a2 (cntN im 1) c2, .slice a3 (cntN im 2) c3, .slice a4 (cntN im 3) c4, .int .i64 im.th, .int .i64 im.de]] w fun e w' => ∃ b, e = .returned (.iface 91 (.pointer (some ⟨b, 0, none⟩))) ∧ FaultZ w' (.iface 91 (.pointer (some ⟨b, 0, none⟩))) k p s ∧ Below w.heap.size w w' :=
  (chkO_any a1 a2 a3 a4 c1 c2 c3 c4 im w hi hs hg).mono fun e w' ⟨v, q, h, r⟩ => by
    rw [hc] at h
    obtain ⟨b, rfl, hb⟩ := h
    exact ⟨b, q, ⟨b, rfl, hb⟩, r⟩
set_option maxRecDepth 100000 in
set_option maxHeartbeats 4000000 in
theorem awake14_any (w : World) (hT : TypeLaid w) (hg : GL w) :
    Calls Tryz.prog 7 #[] w fun e w' => e = .returned (.bool true) ∧ Below w.heap.size w w' := by
  have HM := Lib.hid (show Calls Tryz.prog 8 #[.agg #[.slice none 0 0, .slice none 0 0, .slice none 0 0, .slice none 0 0, .int .i64 0, .int .i64 0, .int .i64 0]] w (MdE w S0) from made13_any S0 _ _ _ _ w ⟨RowC.nil _ _ _, RowC.nil _ _ _, RowC.nil _ _ _, RowC.nil _ _ _⟩)
  have HGL := Lib.hid (fun w' (h : Below w.heap.size w w') => hg.below h hg.size)
  have HTL := Lib.hid (fun w' (h : Below w.heap.size w w') => hT.below h hT.size)
  clear hT hg
  go_enter Tryz.func7, Tryz.ntmps7
  go_upto_region 2 with (go_at_call 8; (with_reducible refine HM.out.mono ?_); intro e w5 hE; unfold MdE ImO at hE; obtain ⟨imx, hBI, va, vl, vr, vm, rfl, hO5, hb5⟩ := hE; obtain ⟨a1, c1, a2, c2, a3, c3, a4, c4, h1, h2, h3, h4⟩ := hO5.rows.slices; subst h1 h2 h3 h4)
  have hx := base_S0 hBI
  have hc0 : chkE (spI imx (restV S0.odd 12)) = none := by rw [hx]; exact chk_im0
  have hc2 : chkE { spI imx (restV S0.odd 12) with als := AL2 } = some (14, 0, ⟨#[97, 108, 105, 97, 115]⟩) := by rw [hx]; exact chk_im2
  clear hx hBI
  generalize spI imx (restV S0.odd 12) = im at *
  obtain ⟨W6, hW6⟩ : ∃ W6, w5.alloc (.cells #[.slice a1 (cntN im 0) c1, .slice a2 (cntN im 1) c2, .slice a3 (cntN im 2) c3, .slice a4 (cntN im 3) c4, .int .i64 im.th, .int .i64 im.de] 34) = W6 := ⟨_, rfl⟩
  have hI6 : W6.heap[w5.heap.size]? = some (.cells #[.slice a1 (cntN im 0) c1, .slice a2 (cntN im 1) c2, .slice a3 (cntN im 2) c3, .slice a4 (cntN im 3) c4, .int .i64 im.th, .int .i64 im.de] 34 (0, 0)) := by rw [← hW6]; exact World.alloc_heap_new _ _
  have hb6 : Below w5.heap.size w5 W6 := by rw [← hW6]; exact (Below.refl _ _).alloc (Nat.le_refl _) _
  have hO6 := hO5.below hb6
  have hB6 : Below w.heap.size w W6 := hb5.trans (hb6.mono hb5.size)
  have hBW : w.heap.size ≤ w5.heap.size := hb5.size
  rw [hW6]
  clear hW6 hb6 hO5 hb5
  have HC1 := Lib.hid (checkNil_any a1 a2 a3 a4 c1 c2 c3 c4 im W6 hO6.rows hO6.s (HGL.out _ hB6) hc0)
  generalize w5.heap.size = I at *
  obtain ⟨z0, z1, z2, z3, z4, z5⟩ := cells6 hI6
  have HC2 := Lib.hid hc2
  have HO6 := Lib.hid hO6
  have HI6 := Lib.hid hI6
  have HB6 := Lib.hid hB6
  clear hO6 hI6 hB6 hc0 hc2
  go_upto_region 3 with (go_at_call 10; (with_reducible refine HC1.out.mono ?_); rintro e w7 ⟨rfl, hb7⟩)
  have hI7 := (hb7.block _ (lt_of_block HI6.out)).trans HI6.out
  obtain ⟨WA, hWA⟩ : ∃ WA, w7.alloc (.cells twoC 37) = WA := ⟨_, rfl⟩
  have hbA : Below w7.heap.size w7 WA := by rw [← hWA]; exact (Below.refl _ _).alloc (Nat.le_refl _) _
  have hIA := (hbA.block _ (lt_of_block hI7)).trans hI7
  have hIL : I < w7.heap.size := lt_of_block hI7
  have hGA : WA.heap[w7.heap.size]? = some (.cells twoC 37 (0, 0)) := by rw [← hWA]; exact World.alloc_heap_new _ _
  have hOA := (HO6.out.below hb7).below hbA
  have hB7 := HB6.out.trans (hb7.mono HB6.out.size)
  have hBA := hB7.trans (hbA.mono hB7.size)
  have hO8 := hOA.kept (gr_setZ gr_reflZ 0 (.slice (some ⟨w7.heap.size, 0, none⟩) 2 2)) hIA
  have hI8 := setY hIA (k := 0) (.slice (some ⟨w7.heap.size, 0, none⟩) 2 2)
  have hG8 := (heap_setCellZ (W := WA) (g := I) (k := 0) (v := .slice (some ⟨w7.heap.size, 0, none⟩) 2 2) (j := w7.heap.size) (by omega)).trans hGA
  have hB8 : Below w.heap.size w (WA.setCell ⟨I, 0, none⟩ (.slice (some ⟨w7.heap.size, 0, none⟩) 2 2)) := hBA.setCell (p := ⟨I, 0, none⟩) hBW _
  have hR8 := hO8.rows
  have HC8 := Lib.hid (show Calls Tryz.prog 10 #[.agg #[.slice (some ⟨w7.heap.size, 0, none⟩) 2 2, .slice a2 (cntN im 1) c2, .slice a3 (cntN im 2) c3, .slice a4 (cntN im 3) c4, .int .i64 im.th, .int .i64 im.de]] (WA.setCell ⟨I, 0, none⟩ (.slice (some ⟨w7.heap.size, 0, none⟩) 2 2)) _ from
    checkErr_any (some ⟨w7.heap.size, 0, none⟩) a2 a3 a4 2 c2 c3 c4 { im with als := AL2 } _ ⟨two_row hG8, hR8.l, hR8.r, hR8.m⟩ { HO6.out.s with als := small_AL2 } (HGL.out _ hB8) HC2.out)
  have hzA := cells6 hIA
  rw [← hWA] at hzA
  have hfA := frozenY hIA 0
  rw [← hWA] at hfA
  obtain ⟨y0, y1, y2, y3, y4, y5⟩ := hzA
  have HW := Lib.hid hWA
  have HB8 := Lib.hid hB8
  have HI8 := Lib.hid (show (WA.setCell ⟨I, 0, none⟩ (.slice (some ⟨w7.heap.size, 0, none⟩) 2 2)).heap[I]? = some (.cells #[.slice (some ⟨w7.heap.size, 0, none⟩) 2 2, .slice a2 (cntN im 1) c2, .slice a3 (cntN im 2) c3, .slice a4 (cntN im 3) c4, .int .i64 im.th, .int .i64 im.de] 34 (0, 0)) from hI8)
  clear z0 z1 z2 z3 z4 z5 hI7 hbA hIA hIL hGA hOA hB7 hBA hO8 hI8 hG8 hR8 hWA hb7 hB8
  unfold twoC at y0 y1 y2 y3 y4 y5 hfA
  go_upto_region 4 with fail
  have HWU := Lib.hid (show w7.alloc (.cells #[.int .i64 3, .string { data := #[105, 119] }, .string { data := #[] }, .string { data := #[104, 101] }, .string { data := #[] }, .string { data := #[] }, .int .i64 3, .string { data := #[104, 101] }, .string { data := #[] }, .string { data := #[105, 119] }, .string { data := #[] }, .string { data := #[] }] 37) = WA from HW.out)
  rw [HWU.out]
  clear y0 y1 y2 y3 y4 y5 hfA HW HWU
  obtain ⟨z0, z1, z2, z3, z4, z5⟩ := cells6 HI8.out
  generalize WA.setCell ⟨I, 0, none⟩ (.slice (some ⟨w7.heap.size, 0, none⟩) 2 2) = W8 at *
  generalize w7.heap.size = g at *
  go_upto_region 5 with (go_at_call 10; (with_reducible refine HC8.out.mono ?_); rintro e w9 ⟨b, rfl, hF9, hb9⟩)
  have hB9 := HB8.out.trans (hb9.mono HB8.out.size)
  have HK := Lib.hid (kindO_any w9 hF9 (HTL.out _ hB9))
  have HP := Lib.hid (fun w' (h : Below w9.heap.size w9 w') => placeO_any w' (hF9.below h))
  have HB9 := Lib.hid hB9
  clear hF9 hB9 z0 z1 z2 z3 z4 z5 hb9
  go_wp2_with (first
    | (go_at_call 14; (with_reducible refine HK.out.mono ?_); rintro e w10 ⟨rfl, hb10⟩)
    | (go_at_call 15; (with_reducible refine (HP.out _ hb10).mono ?_); rintro e w11 ⟨rfl, hb11⟩))
  go_ret
  exact ⟨rfl, HB9.out.trans ((hb10.trans (hb11.mono hb10.size)).mono HB9.out.size)⟩
end Go.Proofs.YtaalecdokidmnaaGreatDoor
