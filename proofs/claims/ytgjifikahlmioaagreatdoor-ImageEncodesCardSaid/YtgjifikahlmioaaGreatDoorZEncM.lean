/-
 Several texts in one: ZLessM:keyW_ofL,ofL_injZ,rise_keysZ,dup_keysZ,badL_allZ,wrong_codeZ,wrong_noneZ, ZFirst, ZRowD, ZEncR. (Printed by wip/mergetpl.py.)
-/
import Derived.Test.YtgjifikahlmioaaGreatDoorZRefP
import Derived.Test.YtgjifikahlmioaaGreatDoorZHeads
import Derived.Test.YtgjifikahlmioaaGreatDoorZParts
import Derived.Test.YtgjifikahlmioaaGreatDoorYRightR
import Derived.Test.YtgjifikahlmioaaGreatDoorYRefA
import Derived.Test.YtgjifikahlmioaaGreatDoorYCode
import Derived.Test.YtgjifikahlmioaaGreatDoorZPacks
import Derived.Test.YtgjifikahlmioaaGreatDoorZRiseR
import Derived.Test.YtgjifikahlmioaaGreatDoorYRowR
import Derived.Deep.RegionHeld3
import Derived.Laws.Cover1

namespace Go.Proofs.YtgjifikahlmioaaGreatDoor
open Go Go.RowKit

theorem rise_keysZ {K : Nat} {l : List ByteArray} (hK : 0 < K) (h : ∀ x ∈ l, K ≤ x.size) : badW K (sortW l) = none ↔ (l.map (keyW K)).Nodup := by
 have hs : ∀ x ∈ sortW l, K ≤ x.size := fun x hx => h x ((sortW_perm l).mem_iff.1 hx)
 rw [badW_none hK hs, ← ((sortW_perm l).map (keyW K)).nodup_iff]
 unfold RisingW List.Nodup
 rw [List.pairwise_map]
 constructor
 ·intro hp
  exact hp.imp fun hlt e => by rw [e, ltW_irrefl] at hlt; cases hlt
 ·intro hp
  refine ((sortW_sorted l).and hp).imp fun {a b} hab => ?_
  obtain ⟨h1, h2⟩ := hab
  cases hx : ltW (keyW K a) (keyW K b) with
  | true => rfl
  | false =>
   have hy : ltW (keyW K b) (keyW K a) = false := by
    cases hy : ltW (keyW K b) (keyW K a) with
    | false => rfl
    | true => rw [ltW_of_key hy] at h1; cases h1
   exact absurd (ltW_tri hx hy) h2
theorem dup_keysZ (im : Im) (k : Nat) (hk : k ≠ 2) : dupN im k = false ↔ ((rowsN im k).map (keyW (kyN k))).Nodup := by
 have e : dupN im k = (badW (kyN k) (sortW (rowsN im k))).isSome := by
  rcases k with _ | _ | _ | k
  ·rfl
  ·rfl
  ·exact absurd rfl hk
  ·rfl
 have hK : 0 < kyN k ∧ kyN k ≤ wdR k := by
  rcases k with _ | _ | _ | k
  ·exact ⟨by decide, by decide⟩
  ·exact ⟨by decide, by decide⟩
  ·exact absurd rfl hk
  ·exact ⟨show 0 < 16 by decide, show 16 ≤ 16 by decide⟩
 rw [e, ← rise_keysZ hK.1 (fun x hx => by rw [rowsN_size im k x hx]; exact hK.2)]
 cases badW (kyN k) (sortW (rowsN im k)) <;> simp
theorem badL_allZ {α : Type} {p : α → Bool} {l : List α} : badL p l = none ↔ ∀ x ∈ l, p x = true := by
 unfold badL
 rw [List.findIdx?_eq_none_iff]
 exact ⟨fun h x hx => by simpa using h x hx, fun h x hx => by simpa using h x hx⟩
theorem wrong_codeZ {im : Im} {e : ErrT} (h : wrongZ im = some e) : e.1 = 12 := by
 unfold wrongZ at h
 obtain ⟨k, _, hk⟩ := List.exists_of_findSome?_eq_some h
 obtain ⟨i, _, rfl⟩ := Option.map_eq_some_iff.1 hk
 rfl
theorem wrong_noneZ {im : Im} (h : wrongZ im = none) : badN im 0 = none ∧ badN im 1 = none ∧ badN im 2 = none ∧ badN im 3 = none := by
 unfold wrongZ at h
 rw [List.findSome?_eq_none_iff] at h
 have g : ∀ k, k ∈ [0, 1, 2, 3] → badN im k = none := fun k hk => by
  have := h k hk
  cases hb : badN im k with
  | none => rfl
  | some i => rw [hb] at this; exact absurd this (by simp)
 exact ⟨g 0 (by decide), g 1 (by decide), g 2 (by decide), g 3 (by decide)⟩
end Go.Proofs.YtgjifikahlmioaaGreatDoor

namespace Go.Proofs.YtgjifikahlmioaaGreatDoor
open Go Go.RowKit

def gotZ (b : ByteArray) : Option ErrT → Value
 | none => .agg #[.string b, .int .i64 0, .int .i64 0, .string ⟨#[]⟩]
 | some (k, p, s) => .agg #[.string ⟨#[]⟩, .int .i64 k, .int .i64 p, .string s]
theorem sizeGot : (Tryz.prog.info? 57).map (·.size) = some 4 := by kernel_rfl
theorem cells4F {W : World} {B : Nat} {a b c d : Value} {t : TypeId} (h : W.heap[B]? = some (.cells #[a, b, c, d] t (0, 0))) :
  (W.cell? ⟨B, 0, none⟩ = some a ∧ W.cell? ⟨B, 1, none⟩ = some b ∧ W.cell? ⟨B, 2, none⟩ = some c ∧ W.cell? ⟨B, 3, none⟩ = some d) ∧ W.frozen? ⟨B, 0, none⟩ = false ∧ W.frozen? ⟨B, 1, none⟩ = false ∧ W.frozen? ⟨B, 2, none⟩ = false ∧ W.frozen? ⟨B, 3, none⟩ = false :=
 ⟨by simp [World.cell?, h], frozenY h 0, frozenY h 1, frozenY h 2, frozenY h 3⟩
theorem store4F {w : World} {B : Nat} {t : TypeId} {a0 a1 a2 a3 : Value} (h : w.heap[B]? = some (.cells #[a0, a1, a2, a3] t (0, 0))) (b0 b1 b2 b3 : Value) :
  ((((w.setCell ⟨B, 0, none⟩ b0).setCell ⟨B, 1, none⟩ b1).setCell ⟨B, 2, none⟩ b2).setCell ⟨B, 3, none⟩ b3).heap[B]? = some (.cells #[b0, b1, b2, b3] t (0, 0)) ∧
  ∀ B0, B0 ≤ B → Below B0 w ((((w.setCell ⟨B, 0, none⟩ b0).setCell ⟨B, 1, none⟩ b1).setCell ⟨B, 2, none⟩ b2).setCell ⟨B, 3, none⟩ b3) := by
 have e0 : (w.setCell ⟨B, 0, none⟩ b0).heap[B]? = some (.cells #[b0, a1, a2, a3] t (0, 0)) := setY h b0
 have e1 : ((w.setCell ⟨B, 0, none⟩ b0).setCell ⟨B, 1, none⟩ b1).heap[B]? = some (.cells #[b0, b1, a2, a3] t (0, 0)) := setY e0 b1
 have e2 : (((w.setCell ⟨B, 0, none⟩ b0).setCell ⟨B, 1, none⟩ b1).setCell ⟨B, 2, none⟩ b2).heap[B]? = some (.cells #[b0, b1, b2, a3] t (0, 0)) := setY e1 b2
 have e3 : ((((w.setCell ⟨B, 0, none⟩ b0).setCell ⟨B, 1, none⟩ b1).setCell ⟨B, 2, none⟩ b2).setCell ⟨B, 3, none⟩ b3).heap[B]? = some (.cells #[b0, b1, b2, b3] t (0, 0)) := setY e2 b3
 exact ⟨e3, fun B0 hB => ((((Below.refl B0 w).setCell (p := ⟨B, 0, none⟩) hB b0).setCell (p := ⟨B, 1, none⟩) hB b1).setCell (p := ⟨B, 2, none⟩) hB b2).setCell (p := ⟨B, 3, none⟩) hB b3⟩
theorem RowC.openF {α : Type} {f : α → List Value} {W : World} {ao : Option Addr} {n cap sz : Nat} {l : List α} (h : RowC W (.slice ao n cap) sz (l.map f)) : ∀ k x, l[k]? = some x → ∃ g o, ao = some ⟨g, o, none⟩ ∧ ∀ W', Below W.heap.size W W' → ∀ j c, (f x)[j]? = some c → W'.cell? ⟨g, o + k * sz + j, none⟩ = some c := by
 intro k x hx
 obtain ⟨ao', cap', e, hc⟩ := h
 injection e with e1 e2 e3
 subst e1
 obtain ⟨g, o, h1, h2⟩ := hc k (f x) (by rw [List.getElem?_map, hx]; rfl)
 exact ⟨g, o, h1, fun W' hb j c hj => (hb.cell (p := ⟨g, o + k * sz + j, none⟩) (lt_cellZ (h2 j c hj))).trans (h2 j c hj)⟩
theorem pastF1 {im : Im} (h0 : badN im 0 = none) : ∀ j, j < 1 → badN im j = none := fun j hj => by
 obtain rfl : j = 0 := by omega
 exact h0
theorem pastF2 {im : Im} (h0 : badN im 0 = none) (h1 : badN im 1 = none) : ∀ j, j < 2 → badN im j = none := fun j hj => by
 rcases (show j = 0 ∨ j = 1 by omega) with rfl | rfl
 ·exact h0
 ·exact h1
theorem pastF3 {im : Im} (h0 : badN im 0 = none) (h1 : badN im 1 = none) (h2 : badN im 2 = none) : ∀ j, j < 3 → badN im j = none := fun j hj => by
 rcases (show j = 0 ∨ j = 1 ∨ j = 2 by omega) with rfl | rfl | rfl
 ·exact h0
 ·exact h1
 ·exact h2
theorem pastF4 {im : Im} (h0 : badN im 0 = none) (h1 : badN im 1 = none) (h2 : badN im 2 = none) (h3 : badN im 3 = none) : ∀ j, j < 4 → badN im j = none := fun j hj => by
 rcases (show j = 0 ∨ j = 1 ∨ j = 2 ∨ j = 3 by omega) with rfl | rfl | rfl | rfl
 ·exact h0
 ·exact h1
 ·exact h2
 ·exact h3
/-- The image's box and the result's. -/
structure FirI (W1 wr : World) (B : Nat) (im : Im) (a1 a2 a3 a4 : Option Addr) (c1 c2 c3 c4 : Nat) : Prop where
 img : wr.heap[B]? = some (.cells #[.slice a1 (cntN im 0) c1, .slice a2 (cntN im 1) c2, .slice a3 (cntN im 2) c3, .slice a4 (cntN im 3) c4, .int .i64 im.th, .int .i64 im.de] 33 (0, 0))
 res : wr.heap[B + 1]? = some (.cells #[.string ⟨#[]⟩, .int .i64 0, .int .i64 0, .string ⟨#[]⟩] 57 (0, 0))
 bel : Below W1.heap.size W1 wr
theorem FirI.below {W1 wr w' : World} {B : Nat} {im : Im} {a1 a2 a3 a4 : Option Addr} {c1 c2 c3 c4 : Nat} (h : FirI W1 wr B im a1 a2 a3 a4 c1 c2 c3 c4) (hb : Below wr.heap.size wr w') : FirI W1 w' B im a1 a2 a3 a4 c1 c2 c3 c4 :=
 ⟨(hb.block _ (lt_of_block h.img)).trans h.img, (hb.block _ (lt_of_block h.res)).trans h.res, h.bel.trans (hb.mono h.bel.size)⟩

set_option maxRecDepth 100000 in
set_option maxHeartbeats 16000000 in
theorem first_ref (a1 a2 a3 a4 : Option Addr) (c1 c2 c3 c4 : Nat) (im : Im) (w : World) (hi : ImR w (.slice a1 (cntN im 0) c1) (.slice a2 (cntN im 1) c2) (.slice a3 (cntN im 2) c3) (.slice a4 (cntN im 3) c4) im) (hs : ImS im) (hn : ∀ k, cntN im k ≤ 4000) :
  Calls Tryz.prog 39 #[.agg #[.slice a1 (cntN im 0) c1, .slice a2 (cntN im 1) c2, .slice a3 (cntN im 2) c3, .slice a4 (cntN im 3) c4, .int .i64 im.th, .int .i64 im.de]] w fun e w' => e = .returned (gotZ ⟨#[]⟩ (wrongZ im)) ∧ Below w.heap.size w w' := by
 obtain ⟨W1, hW1⟩ : ∃ W1, w.alloc (.cells #[.slice a1 (cntN im 0) c1, .slice a2 (cntN im 1) c2, .slice a3 (cntN im 2) c3, .slice a4 (cntN im 3) c4, .int .i64 im.th, .int .i64 im.de] 33) = W1 := ⟨_, rfl⟩
 obtain ⟨W2, hW2⟩ : ∃ W2, W1.alloc (.cells #[.string ⟨#[]⟩, .int .i64 0, .int .i64 0, .string ⟨#[]⟩] 57) = W2 := ⟨_, rfl⟩
 have hs1 : W1.heap.size = w.heap.size + 1 := by rw [← hW1]; simp
 have hb1 : Below w.heap.size w W1 := by rw [← hW1]; exact (Below.refl _ w).alloc (Nat.le_refl _) _
 have hb2 : Below W1.heap.size W1 W2 := by rw [← hW2]; exact (Below.refl _ _).alloc (Nat.le_refl _) _
 have hh1 : W1.heap[w.heap.size]? = some (.cells #[.slice a1 (cntN im 0) c1, .slice a2 (cntN im 1) c2, .slice a3 (cntN im 2) c3, .slice a4 (cntN im 3) c4, .int .i64 im.th, .int .i64 im.de] 33 (0, 0)) := by rw [← hW1]; exact World.alloc_heap_new w _
 have hh2 : W2.heap[w.heap.size + 1]? = some (.cells #[.string ⟨#[]⟩, .int .i64 0, .int .i64 0, .string ⟨#[]⟩] 57 (0, 0)) := by rw [← hW2, ← hs1]; exact World.alloc_heap_new W1 _
 have HS : FirI W1 W2 w.heap.size im a1 a2 a3 a4 c1 c2 c3 c4 := ⟨(hb2.block _ (lt_of_block hh1)).trans hh1, hh2, hb2⟩
 have hi1 := hi.below hb1
 have L0 := Lib.hid (hi1.a.openF)
 have L1 := Lib.hid (hi1.l.openF)
 have L2 := Lib.hid (hi1.r.openF)
 have L3 := Lib.hid (hi1.m.openF)
 have F0 := Lib.hid (fun (x : Al) (hm : x ∈ im.als) w' => right_ref x w' (hs.als x hm))
 have F1 := Lib.hid (fun (x : Lk) (hm : x ∈ im.lks) w' => rightLikelyD_any x w' (hs.lks x hm))
 have F2 := Lib.hid (fun (x : Rl) (hm : x ∈ im.rls) w' => rightRuleD_any x w' (hs.rls x hm).z)
 have F3 := Lib.hid (fun (x : Mb) (hm : x ∈ im.mbs) w' => rightMemberD_any x w' (hs.mbs x hm))
 have HB := Lib.hid (fun w' (h : Below W1.heap.size W1 w') => hb1.trans (h.mono hb1.size))
 have HW1 := Lib.hid hW1
 have HW2 := Lib.hid hW2
 have HSZ := Lib.hid hs1
 have HN := Lib.hid (⟨rfl, rfl, rfl, rfl⟩ : im.als.length = cntN im 0 ∧ im.lks.length = cntN im 1 ∧ im.rls.length = cntN im 2 ∧ im.mbs.length = cntN im 3)
 clear hW1 hW2 hs1 hb1 hb2 hh1 hh2 hi1 hi hs
 go_enter Tryz.func39, Tryz.ntmps39
 go_upto_region 1 with fail
 try rw [HW1.out]
 try rw [HW2.out]
 go_wp2_with fail
 go_loopw [3, 4] (fun i _ wr => ∃ k : Nat, k ≤ cntN im 0 ∧ i = .int .i64 (k : Int) ∧ badL rightA (im.als.take k) = none ∧ FirI W1 wr w.heap.size im a1 a2 a3 a4 c1 c2 c3 c4) (fun i _ _ => cntN im 0 - (intOf i).toNat)
 case atStart => exact ⟨0, Nat.zero_le _, rfl, rfl, HS⟩
 case round =>
  obtain ⟨k, hk, rfl, hbad, hP⟩ := hrel
  clear HS
  obtain ⟨i0, i1, i2, i3, i4, i5⟩ := cells6 hP.img
  have HP := Lib.hid hP
  have hbel := hP.bel
  by_cases hlt : k < cntN im 0
  ·have hki : (k : Int) < (cntN im 0 : Int) := by omega
   have hk0 : (0 : Int) ≤ (k : Int) := by omega
   have hle := hn 0
   obtain ⟨x, hx⟩ : ∃ x, im.als[k]? = some x := ⟨_, List.getElem?_eq_getElem (by rw [HN.out.1]; exact hlt)⟩
   obtain ⟨g, o, rfl, hcc⟩ := L0.out k x hx
   have e0 := show World.cell? _ ⟨g, o + k * 6, none⟩ = some (.int .i64 x.k) from hcc _ hbel 0 _ rfl
   have e1 := show World.cell? _ ⟨g, o + k * 6 + 1, none⟩ = some (.string x.a) from hcc _ hbel 1 _ rfl
   have e2 := show World.cell? _ ⟨g, o + k * 6 + 2, none⟩ = some (.string x.b) from hcc _ hbel 2 _ rfl
   have e3 := show World.cell? _ ⟨g, o + k * 6 + 3, none⟩ = some (.string x.l) from hcc _ hbel 3 _ rfl
   have e4 := show World.cell? _ ⟨g, o + k * 6 + 4, none⟩ = some (.string x.s) from hcc _ hbel 4 _ rfl
   have e5 := show World.cell? _ ⟨g, o + k * 6 + 5, none⟩ = some (.string x.r) from hcc _ hbel 5 _ rfl
   have HC := Lib.hid (fun w' => F0.out x (List.mem_of_getElem? hx) w')
   have HBAD := Lib.hid (badL_at (p := rightA) hbad hx)
   have HNXT := Lib.hid (badL_next (p := rightA) hbad hx)
   clear hcc hx hbad hP hbel
   generalize rightA x = r at *
   cases r with
   | false =>
    have HW := Lib.hid (show wrongZ im = some (12, (k : Int), { data := #[97, 108, 105, 97, 115] }) from wrongZ_at (k := 0) (by decide) (fun j hj => absurd hj (Nat.not_lt_zero _)) (HBAD.out rfl))
    go_upto_region 6 with (go_at_call 86; (with_reducible refine (HC.out _).mono ?_); rintro e w5 ⟨rfl, hb5⟩)
    have hR5 := HP.out.below hb5
    have HST := Lib.hid (store4F hR5.res (.string ⟨#[]⟩) (.int .i64 12) (.int .i64 (k : Int)) (.string { data := #[97, 108, 105, 97, 115] }))
    have HBL := Lib.hid hR5.bel
    obtain ⟨⟨z0, z1, z2, z3⟩, y0, y1, y2, y3⟩ := cells4F hR5.res
    clear hR5 hb5 i0 i1 i2 i3 i4 i5 e0 e1 e2 e3 e4 e5
    go_wp2_with fail
    refine bodyPost_ret (results_cell_row rfl _ _ (w.heap.size + 1) 57 _ (0, 0) _ rfl HST.out.1 Tryz.underlying57 rfl sizeGot) rfl ?_
    exact ⟨by rw [HW.out]; rfl, (HB.out _ HBL.out).trans (HST.out.2 w.heap.size (Nat.le_succ _))⟩
   | true =>
    go_wp2_with (go_at_call 86; (with_reducible refine (HC.out _).mono ?_); rintro e w5 ⟨rfl, hb5⟩)
    go_roundw
    case rel => exact ⟨k + 1, by omega, by go_num, HNXT.out trivial, HP.out.below hb5⟩
    case measure => simp [intOf]; omega
  ·obtain rfl : k = cntN im 0 := by omega
   have hki : ¬ (cntN im 0 : Int) < (cntN im 0 : Int) := by omega
   have HN0 := Lib.hid (show badN im 0 = none by rw [List.take_of_length_le (Nat.le_of_eq HN.out.1)] at hbad; exact hbad)
   clear hbad hbel
   go_wp2_with fail
   have hQ0 := hP
   clear hP i0 i1 i2 i3 i4 i5 HP hlt hk hki
   go_loopw [5, 6] (fun i _ wr => ∃ k : Nat, k ≤ cntN im 1 ∧ i = .int .i64 (k : Int) ∧ badL rightLk (im.lks.take k) = none ∧ FirI W1 wr w.heap.size im a1 a2 a3 a4 c1 c2 c3 c4) (fun i _ _ => cntN im 1 - (intOf i).toNat)
   case atStart => exact ⟨0, Nat.zero_le _, rfl, rfl, hQ0⟩
   case round =>
    obtain ⟨k, hk, rfl, hbad, hP⟩ := hrel
    clear hQ0
    obtain ⟨i0, i1, i2, i3, i4, i5⟩ := cells6 hP.img
    have HP := Lib.hid hP
    have hbel := hP.bel
    by_cases hlt : k < cntN im 1
    ·have hki : (k : Int) < (cntN im 1 : Int) := by omega
     have hk0 : (0 : Int) ≤ (k : Int) := by omega
     have hle := hn 1
     obtain ⟨x, hx⟩ : ∃ x, im.lks[k]? = some x := ⟨_, List.getElem?_eq_getElem (by rw [HN.out.2.1]; exact hlt)⟩
     obtain ⟨g, o, rfl, hcc⟩ := L1.out k x hx
     have e0 := show World.cell? _ ⟨g, o + k * 6, none⟩ = some (.string x.l) from hcc _ hbel 0 _ rfl
     have e1 := show World.cell? _ ⟨g, o + k * 6 + 1, none⟩ = some (.string x.s) from hcc _ hbel 1 _ rfl
     have e2 := show World.cell? _ ⟨g, o + k * 6 + 2, none⟩ = some (.string x.r) from hcc _ hbel 2 _ rfl
     have e3 := show World.cell? _ ⟨g, o + k * 6 + 3, none⟩ = some (.string x.tl) from hcc _ hbel 3 _ rfl
     have e4 := show World.cell? _ ⟨g, o + k * 6 + 4, none⟩ = some (.string x.ts) from hcc _ hbel 4 _ rfl
     have e5 := show World.cell? _ ⟨g, o + k * 6 + 5, none⟩ = some (.string x.tr) from hcc _ hbel 5 _ rfl
     have HC := Lib.hid (fun w' => F1.out x (List.mem_of_getElem? hx) w')
     have HBAD := Lib.hid (badL_at (p := rightLk) hbad hx)
     have HNXT := Lib.hid (badL_next (p := rightLk) hbad hx)
     clear hcc hx hbad hP hbel
     generalize rightLk x = r at *
     cases r with
     | false =>
      have HW := Lib.hid (show wrongZ im = some (12, (k : Int), { data := #[108, 105, 107, 101, 108, 121] }) from wrongZ_at (k := 1) (by decide) (pastF1 HN0.out) (HBAD.out rfl))
      go_upto_region 12 with (go_at_call 87; (with_reducible refine (HC.out _).mono ?_); rintro e w5 ⟨rfl, hb5⟩)
      have hR5 := HP.out.below hb5
      have HST := Lib.hid (store4F hR5.res (.string ⟨#[]⟩) (.int .i64 12) (.int .i64 (k : Int)) (.string { data := #[108, 105, 107, 101, 108, 121] }))
      have HBL := Lib.hid hR5.bel
      obtain ⟨⟨z0, z1, z2, z3⟩, y0, y1, y2, y3⟩ := cells4F hR5.res
      clear hR5 hb5 i0 i1 i2 i3 i4 i5 e0 e1 e2 e3 e4 e5
      go_wp2_with fail
      refine bodyPost_ret (results_cell_row rfl _ _ (w.heap.size + 1) 57 _ (0, 0) _ rfl HST.out.1 Tryz.underlying57 rfl sizeGot) rfl ?_
      exact ⟨by rw [HW.out]; rfl, (HB.out _ HBL.out).trans (HST.out.2 w.heap.size (Nat.le_succ _))⟩
     | true =>
      go_wp2_with (go_at_call 87; (with_reducible refine (HC.out _).mono ?_); rintro e w5 ⟨rfl, hb5⟩)
      go_roundw
      case rel => exact ⟨k + 1, by omega, by go_num, HNXT.out trivial, HP.out.below hb5⟩
      case measure => simp [intOf]; omega
    ·obtain rfl : k = cntN im 1 := by omega
     have hki : ¬ (cntN im 1 : Int) < (cntN im 1 : Int) := by omega
     have HN1 := Lib.hid (show badN im 1 = none by rw [List.take_of_length_le (Nat.le_of_eq HN.out.2.1)] at hbad; exact hbad)
     clear hbad hbel
     go_wp2_with fail
     have hQ1 := hP
     clear hP i0 i1 i2 i3 i4 i5 HP hlt hk hki
     go_loopw [7, 8] (fun i _ wr => ∃ k : Nat, k ≤ cntN im 2 ∧ i = .int .i64 (k : Int) ∧ badL rightRl (im.rls.take k) = none ∧ FirI W1 wr w.heap.size im a1 a2 a3 a4 c1 c2 c3 c4) (fun i _ _ => cntN im 2 - (intOf i).toNat)
     case atStart => exact ⟨0, Nat.zero_le _, rfl, rfl, hQ1⟩
     case round =>
      obtain ⟨k, hk, rfl, hbad, hP⟩ := hrel
      clear hQ1
      obtain ⟨i0, i1, i2, i3, i4, i5⟩ := cells6 hP.img
      have HP := Lib.hid hP
      have hbel := hP.bel
      by_cases hlt : k < cntN im 2
      ·have hki : (k : Int) < (cntN im 2 : Int) := by omega
       have hk0 : (0 : Int) ≤ (k : Int) := by omega
       have hle := hn 2
       obtain ⟨x, hx⟩ : ∃ x, im.rls[k]? = some x := ⟨_, List.getElem?_eq_getElem (by rw [HN.out.2.2.1]; exact hlt)⟩
       obtain ⟨g, o, rfl, hcc⟩ := L2.out k x hx
       have e0 := show World.cell? _ ⟨g, o + k * 9, none⟩ = some (.int .i64 x.lv) from hcc _ hbel 0 _ rfl
       have e1 := show World.cell? _ ⟨g, o + k * 9 + 1, none⟩ = some (.int .i64 x.co) from hcc _ hbel 1 _ rfl
       have e2 := show World.cell? _ ⟨g, o + k * 9 + 2, none⟩ = some (.bool x.ow) from hcc _ hbel 2 _ rfl
       have e3 := show World.cell? _ ⟨g, o + k * 9 + 3, none⟩ = some (.string x.d0) from hcc _ hbel 3 _ rfl
       have e4 := show World.cell? _ ⟨g, o + k * 9 + 4, none⟩ = some (.string x.d1) from hcc _ hbel 4 _ rfl
       have e5 := show World.cell? _ ⟨g, o + k * 9 + 5, none⟩ = some (.string x.d2) from hcc _ hbel 5 _ rfl
       have e6 := show World.cell? _ ⟨g, o + k * 9 + 6, none⟩ = some (.string x.s0) from hcc _ hbel 6 _ rfl
       have e7 := show World.cell? _ ⟨g, o + k * 9 + 7, none⟩ = some (.string x.s1) from hcc _ hbel 7 _ rfl
       have e8 := show World.cell? _ ⟨g, o + k * 9 + 8, none⟩ = some (.string x.s2) from hcc _ hbel 8 _ rfl
       have HC := Lib.hid (fun w' => F2.out x (List.mem_of_getElem? hx) w')
       have HBAD := Lib.hid (badL_at (p := rightRl) hbad hx)
       have HNXT := Lib.hid (badL_next (p := rightRl) hbad hx)
       clear hcc hx hbad hP hbel
       generalize rightRl x = r at *
       cases r with
       | false =>
        have HW := Lib.hid (show wrongZ im = some (12, (k : Int), { data := #[114, 117, 108, 101] }) from wrongZ_at (k := 2) (by decide) (pastF2 HN0.out HN1.out) (HBAD.out rfl))
        go_upto_region 18 with (go_at_call 88; (with_reducible refine (HC.out _).mono ?_); rintro e w5 ⟨rfl, hb5⟩)
        have hR5 := HP.out.below hb5
        have HST := Lib.hid (store4F hR5.res (.string ⟨#[]⟩) (.int .i64 12) (.int .i64 (k : Int)) (.string { data := #[114, 117, 108, 101] }))
        have HBL := Lib.hid hR5.bel
        obtain ⟨⟨z0, z1, z2, z3⟩, y0, y1, y2, y3⟩ := cells4F hR5.res
        clear hR5 hb5 i0 i1 i2 i3 i4 i5 e0 e1 e2 e3 e4 e5 e6 e7 e8
        go_wp2_with fail
        refine bodyPost_ret (results_cell_row rfl _ _ (w.heap.size + 1) 57 _ (0, 0) _ rfl HST.out.1 Tryz.underlying57 rfl sizeGot) rfl ?_
        exact ⟨by rw [HW.out]; rfl, (HB.out _ HBL.out).trans (HST.out.2 w.heap.size (Nat.le_succ _))⟩
       | true =>
        go_wp2_with (go_at_call 88; (with_reducible refine (HC.out _).mono ?_); rintro e w5 ⟨rfl, hb5⟩)
        go_roundw
        case rel => exact ⟨k + 1, by omega, by go_num, HNXT.out trivial, HP.out.below hb5⟩
        case measure => simp [intOf]; omega
      ·obtain rfl : k = cntN im 2 := by omega
       have hki : ¬ (cntN im 2 : Int) < (cntN im 2 : Int) := by omega
       have HN2 := Lib.hid (show badN im 2 = none by rw [List.take_of_length_le (Nat.le_of_eq HN.out.2.2.1)] at hbad; exact hbad)
       clear hbad hbel
       go_wp2_with fail
       have hQ2 := hP
       clear hP i0 i1 i2 i3 i4 i5 HP hlt hk hki
       go_loopw [9, 10] (fun i _ wr => ∃ k : Nat, k ≤ cntN im 3 ∧ i = .int .i64 (k : Int) ∧ badL rightMb (im.mbs.take k) = none ∧ FirI W1 wr w.heap.size im a1 a2 a3 a4 c1 c2 c3 c4) (fun i _ _ => cntN im 3 - (intOf i).toNat)
       case atStart => exact ⟨0, Nat.zero_le _, rfl, rfl, hQ2⟩
       case round =>
        obtain ⟨k, hk, rfl, hbad, hP⟩ := hrel
        clear hQ2
        obtain ⟨i0, i1, i2, i3, i4, i5⟩ := cells6 hP.img
        have HP := Lib.hid hP
        have hbel := hP.bel
        by_cases hlt : k < cntN im 3
        ·have hki : (k : Int) < (cntN im 3 : Int) := by omega
         have hk0 : (0 : Int) ≤ (k : Int) := by omega
         have hle := hn 3
         obtain ⟨x, hx⟩ : ∃ x, im.mbs[k]? = some x := ⟨_, List.getElem?_eq_getElem (by rw [HN.out.2.2.2]; exact hlt)⟩
         obtain ⟨g, o, rfl, hcc⟩ := L3.out k x hx
         have e0 := show World.cell? _ ⟨g, o + k * 2, none⟩ = some (.string x.st) from hcc _ hbel 0 _ rfl
         have e1 := show World.cell? _ ⟨g, o + k * 2 + 1, none⟩ = some (.string x.rg) from hcc _ hbel 1 _ rfl
         have HC := Lib.hid (fun w' => F3.out x (List.mem_of_getElem? hx) w')
         have HBAD := Lib.hid (badL_at (p := rightMb) hbad hx)
         have HNXT := Lib.hid (badL_next (p := rightMb) hbad hx)
         clear hcc hx hbad hP hbel
         generalize rightMb x = r at *
         cases r with
         | false =>
          have HW := Lib.hid (show wrongZ im = some (12, (k : Int), { data := #[109, 101, 109, 98, 101, 114] }) from wrongZ_at (k := 3) (by decide) (pastF3 HN0.out HN1.out HN2.out) (HBAD.out rfl))
          go_upto_region 24 with (go_at_call 89; (with_reducible refine (HC.out _).mono ?_); rintro e w5 ⟨rfl, hb5⟩)
          have hR5 := HP.out.below hb5
          have HST := Lib.hid (store4F hR5.res (.string ⟨#[]⟩) (.int .i64 12) (.int .i64 (k : Int)) (.string { data := #[109, 101, 109, 98, 101, 114] }))
          have HBL := Lib.hid hR5.bel
          obtain ⟨⟨z0, z1, z2, z3⟩, y0, y1, y2, y3⟩ := cells4F hR5.res
          clear hR5 hb5 i0 i1 i2 i3 i4 i5 e0 e1
          go_wp2_with fail
          refine bodyPost_ret (results_cell_row rfl _ _ (w.heap.size + 1) 57 _ (0, 0) _ rfl HST.out.1 Tryz.underlying57 rfl sizeGot) rfl ?_
          exact ⟨by rw [HW.out]; rfl, (HB.out _ HBL.out).trans (HST.out.2 w.heap.size (Nat.le_succ _))⟩
         | true =>
          go_wp2_with (go_at_call 89; (with_reducible refine (HC.out _).mono ?_); rintro e w5 ⟨rfl, hb5⟩)
          go_roundw
          case rel => exact ⟨k + 1, by omega, by go_num, HNXT.out trivial, HP.out.below hb5⟩
          case measure => simp [intOf]; omega
        ·obtain rfl : k = cntN im 3 := by omega
         have hki : ¬ (cntN im 3 : Int) < (cntN im 3 : Int) := by omega
         have HN3 := Lib.hid (show badN im 3 = none by rw [List.take_of_length_le (Nat.le_of_eq HN.out.2.2.2)] at hbad; exact hbad)
         clear hbad hbel
         have HW := Lib.hid (show wrongZ im = none from wrongZ_none (pastF4 HN0.out HN1.out HN2.out HN3.out))
         have HST := Lib.hid (store4F hP.res (.string ⟨#[]⟩) (.int .i64 0) (.int .i64 0) (.string ⟨#[]⟩))
         have HBL := Lib.hid hP.bel
         obtain ⟨⟨z0, z1, z2, z3⟩, y0, y1, y2, y3⟩ := cells4F hP.res
         clear hP
         go_wp2_with fail
         refine bodyPost_ret (results_cell_row rfl _ _ (w.heap.size + 1) 57 _ (0, 0) _ rfl HST.out.1 Tryz.underlying57 rfl sizeGot) rfl ?_
         exact ⟨by rw [HW.out]; rfl, (HB.out _ HBL.out).trans (HST.out.2 w.heap.size (Nat.le_succ _))⟩
end Go.Proofs.YtgjifikahlmioaaGreatDoor

namespace Go.Proofs.YtgjifikahlmioaaGreatDoor
open Go Go.RowKit

set_option maxRecDepth 100000 in
set_option maxHeartbeats 4000000 in
theorem putR2_any (n : Nat) (w : World) (hn : n < 18446744073709551616) :
  Calls Tryz.prog 45 #[.int .u64 (n : Int), .int .i64 2] w fun e w' => e = .returned (.string (ofL (putL n 2))) ∧ Below w.heap.size w w' := by
 go_enter Tryz.func45, Tryz.ntmps45
 go_wp2
 go_loopw [0, 5, 6] (fun m s i wr => ∃ k : Nat, k ≤ 2 ∧ i = .int .i64 (k : Int) ∧ m = .int .u64 ((n / 256 ^ k : Nat) : Int) ∧ s = .string (ofL (putL n k)) ∧ Below w.heap.size w wr) (fun _ _ i _ => 2 - (intOf i).toNat)
 case atStart => exact ⟨0, Nat.zero_le _, rfl, by simp, rfl, Below.refl _ _⟩
 case round =>
  obtain ⟨k, hk, rfl, rfl, rfl, hR⟩ := hrel
  by_cases hlt : k < 2
  ·have hlt' : (k : Int) < 2 := by omega
   have hlt8 : (k : Int) < 8 := by omega
   have hby := byte_div n k
   have hq : ((n / 256 ^ k : Nat) : Int) / 256 = ((n / 256 ^ (k + 1) : Nat) : Int) := by
    rw [show (256 : Int) = ((256 : Nat) : Int) from rfl, ← Int.natCast_ediv, Nat.div_div_eq_div_mul, Nat.pow_succ]
   have hcv := conv_oneY (byteAt n k) wr
   have hle : n / 256 ^ (k + 1) ≤ n := Nat.div_le_self _ _
   obtain ⟨q, hqq⟩ : ∃ q, n / 256 ^ (k + 1) = q := ⟨_, rfl⟩
   rw [hqq] at hq hle
   have HQ := Lib.hid hqq
   have hwq : IntKind.u64.wrap (q : Int) = (q : Int) := u64_wrap_id _ (by omega) (by omega)
   clear hqq hle
   have HST := Lib.hid (show ofL [byteAt n k] ++ ofL (putL n k) = ofL (putL n (k + 1)) by rw [ofL_append]; rfl)
   have hsz : (ofL (putL n k)).size ≤ 2 := by rw [size_ofL, length_putL]; exact hk
   have hs1 : (ofL [byteAt n k]).size = 1 := rfl
   have hnf : ¬ (9223372036854775807 < (ofL [byteAt n k]).size + (ofL (putL n k)).size) := by omega
   clear hsz hs1
   generalize byteAt n k = c at *
   generalize hm : n / 256 ^ k = m at *
   go_wp2
   go_roundw
   case rel => exact ⟨k + 1, by omega, by go_num, by rw [HQ.out], by rw [← HST.out], (hR.alloc hR.size _)⟩
   case measure => simp [intOf]; omega
  ·obtain rfl : k = 2 := by omega
   go_wp2
   go_ret
   exact ⟨rfl, hR⟩
theorem rowW_new {W : World} {g : Nat} {l : List ByteArray} {t : TypeId} {c : Nat} (h : W.heap[g]? = some (.cells (strsW l).toArray t (0, 0))) : RowW W (.slice (some ⟨g, 0, none⟩) l.length c) l :=
 ⟨_, _, rfl, fun i x hx => ⟨g, 0, rfl, by
  rw [Nat.zero_add]
  refine cellAtY h i _ ?_
  simp [strsW, hx]⟩⟩
theorem rowW_part {W : World} {g o n : Nat} {a b d : ByteArray} (h0 : W.cell? ⟨g, o, none⟩ = some (.string a)) (h1 : W.cell? ⟨g, o + 1, none⟩ = some (.string b)) (h2 : W.cell? ⟨g, o + 2, none⟩ = some (.string d)) : RowW W (.slice (some ⟨g, o, none⟩) 3 n) [a, b, d] :=
 ⟨_, _, rfl, fun i x hx => ⟨g, o, rfl, by
  rcases i with _ | _ | _ | i
  ·simp at hx; subst hx; exact h0
  ·simp at hx; subst hx; exact h1
  ·simp at hx; subst hx; exact h2
  ·simp at hx⟩⟩
set_option maxRecDepth 100000 in
set_option maxHeartbeats 4000000 in
theorem packedR_any (v : Value) (ts : List ByteArray) (w : World) (hv : RowW w v ts) (hl : ts.length ≤ 100) (hz : ∀ t ∈ ts, t.size ≤ 1000) :
  Calls Tryz.prog 92 #[v] w fun e w' => e = .returned (.string (ofL (packL ts))) ∧ Below w.heap.size w w' := by
 have HV := Lib.hid hv
 obtain ⟨ao, c, rfl, -⟩ := hv
 have HZ := Lib.hid hz
 have HCELL := Lib.hid (fun w' (hb : Below w.heap.size w w') (i : Nat) (x : ByteArray) (hx : ts[i]? = some x) => show ∃ g o, ao = some ⟨g, o, none⟩ ∧ w'.cell? ⟨g, o + i, none⟩ = some (.string x) by
  obtain ⟨ao', cap', e', hc⟩ := HV.out
  injection e' with q1 q2 q3
  subst q1
  obtain ⟨g0, o0, e0, c0⟩ := hc i x hx
  exact ⟨g0, o0, e0, (hb.cell (p := ⟨g0, o0 + i, none⟩) (lt_of_cellW c0)).trans c0⟩)
 clear hz
 go_enter Tryz.func92, Tryz.ntmps92
 go_wp2_with fail
 go_loopw [3, 4] (fun s i wr => ∃ k : Nat, k ≤ ts.length ∧ i = .int .i64 (k : Int) ∧ s = .string (ofL (packL (ts.take k))) ∧ Below w.heap.size w wr) (fun _ i _ => ts.length - (intOf i).toNat)
 case atStart => exact ⟨0, Nat.zero_le _, rfl, rfl, Below.refl _ _⟩
 case round =>
  obtain ⟨k, hk, rfl, rfl, hR⟩ := hrel
  by_cases hlt : k < ts.length
  ·have hlt' : (k : Int) < (ts.length : Int) := by omega
   have hk0 : (0 : Int) ≤ (k : Int) := by omega
   obtain ⟨t, ht⟩ : ∃ t, ts[k]? = some t := ⟨_, List.getElem?_eq_getElem hlt⟩
   obtain ⟨g, o, hao, c1⟩ := HCELL.out _ hR k t ht
   subst hao
   have hzt := HZ.out t (List.mem_of_getElem? ht)
   have HPK := Lib.hid (fun w' => packR_any t w' (by omega))
   have H8 := Lib.hid (fun w' => putR_any (packN t) w' (packN_lt t))
   have hlen : (ofL (packL (ts.take k))).size ≤ 1000 := by rw [size_ofL, length_packL, List.length_take]; omega
   have hs8 : (ofL (putL (packN t) 8)).size = 8 := by rw [size_ofL, length_putL]
   have hnf : ¬ (9223372036854775807 < (ofL (packL (ts.take k))).size + (ofL (putL (packN t) 8)).size) := by omega
   have HNX := Lib.hid (show ofL (packL (ts.take k)) ++ ofL (putL (packN t) 8) = ofL (packL (ts.take (k + 1))) by rw [ofL_append, packL_take ht]; rfl)
   have hfi : ∀ w : World, (Instr.field 144 (.agg #[.int .u64 (packN t : Int), .bool (packT (lowS t))]) 0).run Tryz.prog w = .ok (.int .u64 (packN t : Int)) w := fun _ => by kernel_rfl
   clear ht hlen hs8
   generalize packT (lowS t) = okb at *
   generalize ofL (packL (ts.take k)) = L at *
   generalize ofL (putL (packN t) 8) = s8 at *
   generalize packN t = pn at *
   go_wp2_with (first
    | (go_at_call 91; (with_reducible refine (HPK.out _).mono ?_); rintro e w5 ⟨rfl, hb5⟩)
    | (go_at_call 45; (with_reducible refine (H8.out _).mono ?_); rintro e w6 ⟨rfl, hb6⟩))
   go_roundw
   case rel => exact ⟨k + 1, by omega, by go_num, by rw [← HNX.out], (hR.trans (hb5.mono hR.size)).trans (hb6.mono (Nat.le_trans hR.size hb5.size))⟩
   case measure => simp [intOf]; omega
  ·obtain rfl : k = ts.length := by omega
   have hlt' : ¬ (ts.length : Int) < (ts.length : Int) := by omega
   rw [List.take_of_length_le (Nat.le_refl _)]
   go_wp2_with fail
   go_ret
   exact ⟨rfl, hR⟩
set_option maxRecDepth 100000 in
set_option maxHeartbeats 2000000 in
theorem likelyRow_ref (x : Lk) (w : World) (hz : ∀ t ∈ lkT x, t.size ≤ 1000) :
  Calls Tryz.prog 41 #[.agg #[.string x.l, .string x.s, .string x.r, .string x.tl, .string x.ts, .string x.tr]] w fun e w' => e = .returned (.string (rowLk x)) ∧ Below w.heap.size w w' := by
 obtain ⟨W1, hW1⟩ : ∃ W1, w.alloc (.cells #[.string x.l, .string x.s, .string x.r, .string x.tl, .string x.ts, .string x.tr] 49) = W1 := ⟨_, rfl⟩
 obtain ⟨W2, hW2⟩ : ∃ W2, W1.alloc (.cells #[.string x.l, .string x.s, .string x.r, .string x.tl, .string x.ts, .string x.tr] 9) = W2 := ⟨_, rfl⟩
 have hs1 : W1.heap.size = w.heap.size + 1 := by rw [← hW1]; simp
 have hb1 : Below w.heap.size w W1 := by rw [← hW1]; exact (Below.refl _ w).alloc (Nat.le_refl _) _
 have hb2 : Below w.heap.size w W2 := by rw [← hW2]; exact hb1.alloc hb1.size _
 have hh : W2.heap[w.heap.size + 1]? = some (.cells (strsW (lkT x)).toArray 9 (0, 0)) := by rw [← hW2, ← hs1]; exact World.alloc_heap_new W1 _
 have HP := Lib.hid (show Calls Tryz.prog 92 #[.slice (some ⟨w.heap.size + 1, 0, none⟩) 6 6] W2 (fun e w' => e = .returned (.string (rowLk x)) ∧ Below W2.heap.size W2 w') from packedR_any _ (lkT x) W2 (rowW_new hh) (show 6 ≤ 100 by decide) hz)
 have HW1 := Lib.hid hW1
 have HW2 := Lib.hid hW2
 have HS1 := Lib.hid hs1
 have HB := Lib.hid (fun w' (h : Below W2.heap.size W2 w') => hb2.trans (h.mono hb2.size))
 obtain ⟨c0, c1, c2, c3, c4, c5⟩ : W1.cell? ⟨w.heap.size, 0, none⟩ = some (.string x.l) ∧ W1.cell? ⟨w.heap.size, 1, none⟩ = some (.string x.s) ∧ W1.cell? ⟨w.heap.size, 2, none⟩ = some (.string x.r) ∧ W1.cell? ⟨w.heap.size, 3, none⟩ = some (.string x.tl) ∧ W1.cell? ⟨w.heap.size, 4, none⟩ = some (.string x.ts) ∧ W1.cell? ⟨w.heap.size, 5, none⟩ = some (.string x.tr) := ⟨cellAtY (by rw [← hW1]; exact World.alloc_heap_new w _) 0 _ rfl, cellAtY (by rw [← hW1]; exact World.alloc_heap_new w _) 1 _ rfl, cellAtY (by rw [← hW1]; exact World.alloc_heap_new w _) 2 _ rfl, cellAtY (by rw [← hW1]; exact World.alloc_heap_new w _) 3 _ rfl, cellAtY (by rw [← hW1]; exact World.alloc_heap_new w _) 4 _ rfl, cellAtY (by rw [← hW1]; exact World.alloc_heap_new w _) 5 _ rfl⟩
 clear hW1 hW2 hs1 hb1 hb2 hh hz
 go_enter Tryz.func41, Tryz.ntmps41
 go_upto_region 1 with fail
 try rw [HW1.out]
 go_wp2_with (go_at_call 92; (try rw [HW2.out]); (try rw [HS1.out]); (with_reducible refine HP.out.mono ?_); rintro e w5 ⟨rfl, hb5⟩)
 go_ret
 exact ⟨rfl, HB.out _ hb5⟩
set_option maxRecDepth 100000 in
set_option maxHeartbeats 2000000 in
theorem memberRow_ref (x : Mb) (w : World) (hz : ∀ t ∈ mbT x, t.size ≤ 1000) :
  Calls Tryz.prog 42 #[.agg #[.string x.st, .string x.rg]] w fun e w' => e = .returned (.string (rowMb x)) ∧ Below w.heap.size w w' := by
 obtain ⟨W1, hW1⟩ : ∃ W1, w.alloc (.cells #[.string x.st, .string x.rg] 54) = W1 := ⟨_, rfl⟩
 obtain ⟨W2, hW2⟩ : ∃ W2, W1.alloc (.cells #[.string x.st, .string x.rg] 9) = W2 := ⟨_, rfl⟩
 have hs1 : W1.heap.size = w.heap.size + 1 := by rw [← hW1]; simp
 have hb1 : Below w.heap.size w W1 := by rw [← hW1]; exact (Below.refl _ w).alloc (Nat.le_refl _) _
 have hb2 : Below w.heap.size w W2 := by rw [← hW2]; exact hb1.alloc hb1.size _
 have hh : W2.heap[w.heap.size + 1]? = some (.cells (strsW (mbT x)).toArray 9 (0, 0)) := by rw [← hW2, ← hs1]; exact World.alloc_heap_new W1 _
 have HP := Lib.hid (show Calls Tryz.prog 92 #[.slice (some ⟨w.heap.size + 1, 0, none⟩) 2 2] W2 (fun e w' => e = .returned (.string (rowMb x)) ∧ Below W2.heap.size W2 w') from packedR_any _ (mbT x) W2 (rowW_new hh) (show 2 ≤ 100 by decide) hz)
 have HW1 := Lib.hid hW1
 have HW2 := Lib.hid hW2
 have HS1 := Lib.hid hs1
 have HB := Lib.hid (fun w' (h : Below W2.heap.size W2 w') => hb2.trans (h.mono hb2.size))
 obtain ⟨c0, c1⟩ : W1.cell? ⟨w.heap.size, 0, none⟩ = some (.string x.st) ∧ W1.cell? ⟨w.heap.size, 1, none⟩ = some (.string x.rg) := ⟨cellAtY (by rw [← hW1]; exact World.alloc_heap_new w _) 0 _ rfl, cellAtY (by rw [← hW1]; exact World.alloc_heap_new w _) 1 _ rfl⟩
 clear hW1 hW2 hs1 hb1 hb2 hh hz
 go_enter Tryz.func42, Tryz.ntmps42
 go_upto_region 1 with fail
 try rw [HW1.out]
 go_wp2_with (go_at_call 92; (try rw [HW2.out]); (try rw [HS1.out]); (with_reducible refine HP.out.mono ?_); rintro e w5 ⟨rfl, hb5⟩)
 go_ret
 exact ⟨rfl, HB.out _ hb5⟩
theorem held_shellP {P : Program} {md : Region.Mode} {ops : Array Oper} {S : World → Prop} {Q : Exit → Act → World → Prop} {n : Nat} {l : Array Bool} {a : Act} {w : World} {aF : Nat → Act} (h1 : ∀ c (a : Act) d v w, Q (.panic c) (a.put d v) w → Q (.panic c) a w) (h2 : ∀ u w, S w → Q .normal (aF u) w)
  (h3 : ∀ K : Exit → Act → World → Prop, (∀ c (a : Act) d v w, K (.panic c) (a.put d v) w → K (.panic c) a w) → (∀ u w, S w → K .normal (aF u) w) → wpAnyH P md ops K S n l a w) : wpAnyH P md ops Q S n l a w := h3 Q h1 h2
theorem wpAnyH_strongP {P : Program} {md : Region.Mode} {ops : Array Oper} {Q : Exit → Act → World → Prop} {S S' : World → Prop} (h : ∀ w, S' w → S w) : ∀ (fuel : Nat) (l : Array Bool) (a : Act) (w : World), wpAnyH P md ops Q S' fuel l a w → wpAnyH P md ops Q S fuel l a w
 | 0, _, _, _, hh => hh
 | fuel + 1, _, _, _, hh => ⟨hh.1, fun i hi => wpOp_mono (fun a' w' h' => ⟨h _ h'.1, wpAnyH_strongP h fuel _ a' w' h'.2⟩) (hh.2 i hi)⟩
def New3 (w : World) (N : Nat) (a b d : UInt8) : Prop := w.cell? ⟨N, 0, none⟩ = some (.int .u8 (a.toNat : Int)) ∧ w.cell? ⟨N, 1, none⟩ = some (.int .u8 (b.toNat : Int)) ∧ w.cell? ⟨N, 2, none⟩ = some (.int .u8 (d.toNat : Int))
theorem New3.new (W : World) (a b d : UInt8) : New3 (W.alloc (.cells #[.int .u8 (a.toNat : Int), .int .u8 (b.toNat : Int), .int .u8 (d.toNat : Int)] 5)) W.heap.size a b d :=
 ⟨cellAtY (World.alloc_heap_new W _) 0 _ rfl, cellAtY (World.alloc_heap_new W _) 1 _ rfl, cellAtY (World.alloc_heap_new W _) 2 _ rfl⟩
theorem New3.below {W W' : World} {N : Nat} {a b d : UInt8} (h : New3 W N a b d) (hb : Below W.heap.size W W') : New3 W' N a b d :=
 ⟨(hb.cell (lt_of_cellW h.1)).trans h.1, (hb.cell (lt_of_cellW h.2.1)).trans h.2.1, (hb.cell (lt_of_cellW h.2.2)).trans h.2.2⟩
theorem conv_threeP (a b d : UInt8) (N : Nat) (w : World) (h : New3 w N a b d) : (convert 97 9 (.slice (some ⟨N, 0, none⟩) 3 3)).run Tryz.prog w = .ok (.string (ofL [a, b, d])) w :=
 run_convert_bytes_back (P := Tryz.prog) w 97 9 5 ⟨N, 0, none⟩ 3 [a, b, d] Tryz.underlying97 Tryz.underlying5 Tryz.underlying9 (fun j hj => by
  rw [Addr.add_lit]
  obtain ⟨h0, h1, h2⟩ := h
  rcases j with _ | _ | _ | j
  ·exact h0
  ·exact h1
  ·exact h2
  ·simp at hj; omega)
theorem u8_wrapP (n : Int) : IntKind.u8.wrap n = ((UInt8.ofNat (u64N n)).toNat : Int) := by
 have h1 : IntKind.u8.wrap n = n % 256 := rfl
 have h2 : ((u64N n : Nat) : Int) = n % 18446744073709551616 := by rw [← u64N_cast]; rfl
 rw [h1, UInt8.toNat_ofNat']
 omega
theorem byteZ_eqP (n : Int) : byteZ n = ofL [UInt8.ofNat (u64N n)] := by
 unfold byteZ putL putL byteAt
 simp
set_option maxRecDepth 1000000 in
set_option maxHeartbeats 16000000 in
theorem ruleRow_ref (x : Rl) (w : World) (hz : ∀ t ∈ rlT x, t.size ≤ 1000) :
  Calls Tryz.prog 43 #[.agg #[.int .i64 x.lv, .int .i64 x.co, .bool x.ow, .string x.d0, .string x.d1, .string x.d2, .string x.s0, .string x.s1, .string x.s2]] w fun e w' => e = .returned (.string (rowRl x)) ∧ Below w.heap.size w w' := by
 obtain ⟨W1, hW1⟩ : ∃ W1, w.alloc (.cells #[.int .i64 x.lv, .int .i64 x.co, .bool x.ow, .string x.d0, .string x.d1, .string x.d2, .string x.s0, .string x.s1, .string x.s2] 52) = W1 := ⟨_, rfl⟩
 have hb1 : Below w.heap.size w W1 := by rw [← hW1]; exact (Below.refl _ w).alloc (Nat.le_refl _) _
 have hh : W1.heap[w.heap.size]? = some (.cells #[.int .i64 x.lv, .int .i64 x.co, .bool x.ow, .string x.d0, .string x.d1, .string x.d2, .string x.s0, .string x.s1, .string x.s2] 52 (0, 0)) := by rw [← hW1]; exact World.alloc_heap_new w _
 have HW1 := Lib.hid hW1
 have H9 := Lib.hid (fun w' (h : Below W1.heap.size W1 w') => cells9Z ((h.block _ (lt_of_block hh)).trans hh))
 have HB := Lib.hid (fun w' (h : Below W1.heap.size W1 w') => hb1.trans (h.mono hb1.size))
 have HPDq := Lib.hid (fun w' (h : Below W1.heap.size W1 w') => show Calls Tryz.prog 92 #[.slice (some ⟨w.heap.size, 3, none⟩) 3 3] w' (fun e w'' => e = .returned (.string (ofL (packL [x.d0, x.d1, x.d2]))) ∧ Below W1.heap.size W1 w'' ∧ Below w'.heap.size w' w'') from by
  obtain ⟨_, _, _, d0, d1, d2, _, _, _⟩ := H9.out w' h
  exact (packedR_any _ [x.d0, x.d1, x.d2] w' (rowW_part d0 d1 d2) (show 3 ≤ 100 by decide) (fun t ht => hz t (by simp only [rlT, List.mem_cons, List.not_mem_nil, or_false] at ht ⊢; rcases ht with h | h | h <;> simp [h]))).mono fun e w'' ⟨p, q⟩ => ⟨p, h.trans (q.mono h.size), q⟩)
 have HPSq := Lib.hid (fun w' (h : Below W1.heap.size W1 w') => show Calls Tryz.prog 92 #[.slice (some ⟨w.heap.size, 6, none⟩) 3 3] w' (fun e w'' => e = .returned (.string (ofL (packL [x.s0, x.s1, x.s2]))) ∧ Below W1.heap.size W1 w'' ∧ Below w'.heap.size w' w'') from by
  obtain ⟨_, _, _, _, _, _, d0, d1, d2⟩ := H9.out w' h
  exact (packedR_any _ [x.s0, x.s1, x.s2] w' (rowW_part d0 d1 d2) (show 3 ≤ 100 by decide) (fun t ht => hz t (by simp only [rlT, List.mem_cons, List.not_mem_nil, or_false] at ht ⊢; rcases ht with h | h | h <;> simp [h]))).mono fun e w'' ⟨p, q⟩ => ⟨p, h.trans (q.mono h.size), q⟩)
 obtain ⟨cl, hcl⟩ : ∃ c, UInt8.ofNat (u64N x.lv) = c := ⟨_, rfl⟩
 obtain ⟨cc, hcc⟩ : ∃ c, UInt8.ofNat (u64N x.co) = c := ⟨_, rfl⟩
 have hwl : IntKind.u8.wrap x.lv = (cl.toNat : Int) := by rw [u8_wrapP, hcl]
 have hwc : IntKind.u8.wrap x.co = (cc.toNat : Int) := by rw [u8_wrapP, hcc]
 obtain ⟨pd, hpd⟩ : ∃ s, ofL (packL [x.d0, x.d1, x.d2]) = s := ⟨_, rfl⟩
 obtain ⟨ps, hps⟩ : ∃ s, ofL (packL [x.s0, x.s1, x.s2]) = s := ⟨_, rfl⟩
 have hpz : pd.size ≤ 1000 ∧ ps.size ≤ 1000 := by rw [← hpd, ← hps, size_ofL, size_ofL, length_packL, length_packL]; exact ⟨show 24 ≤ 1000 by decide, show 24 ≤ 1000 by decide⟩
 obtain ⟨hpz1, hpz2⟩ := hpz
 have HROW := Lib.hid (fun (co : UInt8) (hco : UInt8.ofNat (u64N (bitN x.ow : Int)) = co) => show ofL [cl, cc, co] ++ pd ++ ps = rowRl x by
  unfold rowRl
  rw [byteZ_eqP, byteZ_eqP, byteZ_eqP, hcl, hcc, hco, ← hpd, ← hps, ofL_append, ofL_append, ofL_append, ofL_append, ofL_append]
  congr 1 <;> simp [packL, rlT, List.append_assoc])
 rw [hpd] at HPDq
 rw [hps] at HPSq
 obtain ⟨a0, a1, a2, a3, a4, a5, a6, a7, a8⟩ := H9.out _ (Below.refl _ _)
 have hcv := fun (a b d : UInt8) (N : Nat) (w2 : World) => conv_threeP a b d N w2
 clear hW1 hb1 hh hz hcl hcc hpd hps
 cases how : x.ow with
 | false =>
  have hco : UInt8.ofNat (u64N (bitN x.ow : Int)) = 0 := by rw [how]; rfl
  have HR := Lib.hid (HROW.out 0 hco)
  clear hco
  rw [how] at a2 HW1
  go_enter Tryz.func43, Tryz.ntmps43
  go_upto_region 1 with fail
  try rw [HW1.out]
  go_upto_region 4 with fail
  clear a0 a1 a2 a3 a4 a5 a6 a7 a8
  obtain ⟨kc, hkc⟩ : ∃ s, ofL [cl, cc, 0] = s := ⟨_, rfl⟩
  have hkz : kc.size = 3 := by rw [← hkc]; rfl
  have hn1 : ¬ 9223372036854775807 < kc.size + pd.size := by omega
  have hn3 : ¬ 9223372036854775807 < kc.size + pd.size + ps.size := by omega
  have hn2 : ¬ 9223372036854775807 < (kc ++ pd).size + ps.size := by rw [ByteArray.size_append]; omega
  have HCV := Lib.hid (fun N w2 (h : New3 w2 N cl cc 0) => show (convert 97 9 (.slice (some ⟨N, 0, none⟩) 3 3)).run Tryz.prog w2 = .ok (.string kc) w2 from hkc ▸ hcv cl cc 0 N w2 h)
  have HC := Lib.hid (fun w' (h : Below W1.heap.size W1 w') => show Below W1.heap.size W1 w' ∧ w'.cell? ⟨w.heap.size, 0, none⟩ = some (.int .i64 x.lv) ∧ w'.cell? ⟨w.heap.size, 1, none⟩ = some (.int .i64 x.co) from ⟨h, (H9.out w' h).1, (H9.out w' h).2.1⟩)
  have hdr : Below W1.heap.size W1 W1.drew := Below.drew (Below.refl _ _)
  have HRW := Lib.hid (show kc ++ pd ++ ps = rowRl x by rw [← hkc]; exact HR.out)
  clear hkz hkc hpz1 hpz2 HR hcv
  have HPD2 := Lib.hid (fun w' (h : Below W1.heap.size W1 w') => HPDq.out w' h)
  have HPS2 := Lib.hid (fun w' (h : Below W1.heap.size W1 w') => HPSq.out w' h)
  refine wp_region_held_drew (S := fun w' => Below W1.heap.size W1 w' ∧ w'.cell? ⟨w.heap.size, 0, none⟩ = some (.int .i64 x.lv) ∧ w'.cell? ⟨w.heap.size, 1, none⟩ = some (.int .i64 x.co)) (by kernel_rfl) (HC.out _ hdr) (fun hHeld => ?_)
  apply held_shellP
  exact fun _ _ d _ _ h => by cases d <;> exact h
  rotate_left 1
  ·intro KK hKp hfin
   refine tkH (i := 0) (v := .pointer (some ⟨w.heap.size, 0, none⟩)) rfl hKp (fun w hSw => by obtain ⟨-, c0, c1⟩ := hSw; go_simp) (by assumption) ?_
   simp only [Act.put, putH]
   refine tkH (i := 1) (v := .int .i64 x.lv) rfl hKp (fun w hSw => by obtain ⟨-, c0, c1⟩ := hSw; go_simp) (by assumption) ?_
   simp only [Act.put, putH]
   refine tkH (i := 2) (v := .int .u8 (cl.toNat : Int)) rfl hKp (fun w hSw => by obtain ⟨-, c0, c1⟩ := hSw; go_simp) (by assumption) ?_
   simp only [Act.put, putH]
   refine tkH (i := 3) (v := .pointer (some ⟨w.heap.size, 1, none⟩)) rfl hKp (fun w hSw => by obtain ⟨-, c0, c1⟩ := hSw; go_simp) (by assumption) ?_
   simp only [Act.put, putH]
   refine tkH (i := 4) (v := .int .i64 x.co) rfl hKp (fun w hSw => by obtain ⟨-, c0, c1⟩ := hSw; go_simp) (by assumption) ?_
   simp only [Act.put, putH]
   refine tkH (i := 5) (v := .int .u8 (cc.toNat : Int)) rfl hKp (fun w hSw => by obtain ⟨-, c0, c1⟩ := hSw; go_simp) (by assumption) ?_
   simp only [Act.put, putH]
   refine tkH (i := 6) (v := .int .u8 0) rfl hKp (fun w hSw => by obtain ⟨-, c0, c1⟩ := hSw; go_simp) (by assumption) ?_
   simp only [Act.put, putH]
   refine tkH (i := 9) (v := .pointer (some ⟨w.heap.size, 3, none⟩)) rfl hKp (fun w hSw => by obtain ⟨-, c0, c1⟩ := hSw; go_simp) (by assumption) ?_
   simp only [Act.put, putH]
   refine tkH (i := 10) (v := .slice (some ⟨w.heap.size, 3, none⟩) 3 3) rfl hKp (fun w hSw => by obtain ⟨-, c0, c1⟩ := hSw; go_simp) (by assumption) ?_
   simp only [Act.put, putH]
   refine tkH (i := 13) (v := .pointer (some ⟨w.heap.size, 6, none⟩)) rfl hKp (fun w hSw => by obtain ⟨-, c0, c1⟩ := hSw; go_simp) (by assumption) ?_
   simp only [Act.put, putH]
   refine tkH (i := 14) (v := .slice (some ⟨w.heap.size, 6, none⟩) 3 3) rfl hKp (fun w hSw => by obtain ⟨-, c0, c1⟩ := hSw; go_simp) (by assumption) ?_
   simp only [Act.put, putH]
   refine wpAnyH_ready (rs := [7, 11]) (by kernel_rfl) (by simp) ?_
   refine AllReadyH.cons rfl (fun Kx hKx => ?_) (AllReadyH.cons rfl (fun Kx hKx => ?_) AllReadyH.nil)
   ·try rw [if_pos (by kernel_rfl)]
    go_simp
    refine hKx.out _ _ (HC.out _ (hdr.alloc hdr.size _)) (fun hHeld => ?_)
    clear hKx Kx
    try simp only [Act.put, putH]
    refine wpAnyH_strongP (S' := fun w' => (Below W1.heap.size W1 w' ∧ w'.cell? ⟨w.heap.size, 0, none⟩ = some (.int .i64 x.lv) ∧ w'.cell? ⟨w.heap.size, 1, none⟩ = some (.int .i64 x.co)) ∧ New3 w' W1.drew.heap.size cl cc 0) (fun _ h => h.1) _ _ _ _ ?_
    have hHeldB := And.intro hHeld (show New3 _ W1.drew.heap.size cl cc 0 from New3.new W1.drew cl cc 0)
    refine tkH (i := 8) (v := .string kc) rfl hKp (fun w hSw => by obtain ⟨⟨-, c0, c1⟩, c3⟩ := hSw; have hcw := HCV.out W1.heap.size _ c3; go_simp) (by assumption) ?_
    simp only [Act.put, putH]
    refine wpAnyH_ready (rs := [11]) (by kernel_rfl) (by simp) ?_
    refine AllReadyH.cons rfl (fun Kx hKx => ?_) AllReadyH.nil
    try rw [if_pos (by kernel_rfl)]
    go_simp
    refine (HPD2.out _ hHeldB.1.1).mono ?_
    rintro e w5 ⟨rfl, hb5, hq⟩
    refine hKx.out _ _ ⟨HC.out _ hb5, hHeldB.2.below hq⟩ (fun hHeld => ?_)
    clear hKx Kx
    try simp only [Act.put, putH]
    clear hHeldB
    have hHeldB := hHeld
    refine tkH (i := 12) (v := .string (kc ++ pd)) rfl hKp (fun w hSw => by obtain ⟨⟨-, c0, c1⟩, c3⟩ := hSw; go_simp) (by assumption) ?_
    simp only [Act.put, putH]
    refine wpAnyH_ready (rs := [15]) (by kernel_rfl) (by simp) ?_
    refine AllReadyH.cons rfl (fun Kx hKx => ?_) AllReadyH.nil
    try rw [if_pos (by kernel_rfl)]
    go_simp
    refine (HPS2.out _ hHeldB.1.1).mono ?_
    rintro e w6 ⟨rfl, hb6, hq⟩
    refine hKx.out _ _ ⟨HC.out _ hb6, hHeldB.2.below hq⟩ (fun hHeld => ?_)
    clear hKx Kx
    try simp only [Act.put, putH]
    clear hHeldB
    have hHeldB := hHeld
    refine tkH (i := 16) (v := .string (kc ++ pd ++ ps)) rfl hKp (fun w hSw => by obtain ⟨⟨-, c0, c1⟩, c3⟩ := hSw; go_simp) (by assumption) ?_
    simp only [Act.put, putH]
    refine tkH (i := 17) (v := .string (kc ++ pd ++ ps)) rfl hKp (fun w hSw => by obtain ⟨⟨-, c0, c1⟩, c3⟩ := hSw; go_simp) (by assumption) ?_
    simp only [Act.put, putH]
    refine wpAnyH_done (by kernel_rfl) ?_ _
    generalize W1.heap.size = u0
    exact hfin u0 _ hHeldB.1
   ·try rw [if_pos (by kernel_rfl)]
    go_simp
    refine (HPD2.out _ hdr).mono ?_
    rintro e w5 ⟨rfl, hb5, -⟩
    refine hKx.out _ _ (HC.out _ hb5) (fun hHeld => ?_)
    clear hKx Kx
    try simp only [Act.put, putH]
    refine wpAnyH_ready (rs := [7, 15]) (by kernel_rfl) (by simp) ?_
    refine AllReadyH.cons rfl (fun Kx hKx => ?_) (AllReadyH.cons rfl (fun Kx hKx => ?_) AllReadyH.nil)
    ·try rw [if_pos (by kernel_rfl)]
     go_simp
     refine hKx.out _ _ (HC.out _ (hb5.alloc hb5.size _)) (fun hHeld => ?_)
     clear hKx Kx
     try simp only [Act.put, putH]
     refine wpAnyH_strongP (S' := fun w' => (Below W1.heap.size W1 w' ∧ w'.cell? ⟨w.heap.size, 0, none⟩ = some (.int .i64 x.lv) ∧ w'.cell? ⟨w.heap.size, 1, none⟩ = some (.int .i64 x.co)) ∧ New3 w' w5.heap.size cl cc 0) (fun _ h => h.1) _ _ _ _ ?_
     have hHeldB := And.intro hHeld (show New3 _ w5.heap.size cl cc 0 from New3.new w5 cl cc 0)
     refine tkH (i := 8) (v := .string kc) rfl hKp (fun w hSw => by obtain ⟨⟨-, c0, c1⟩, c3⟩ := hSw; have hcw := HCV.out w5.heap.size _ c3; go_simp) (by assumption) ?_
     simp only [Act.put, putH]
     refine tkH (i := 12) (v := .string (kc ++ pd)) rfl hKp (fun w hSw => by obtain ⟨⟨-, c0, c1⟩, c3⟩ := hSw; go_simp) (by assumption) ?_
     simp only [Act.put, putH]
     refine wpAnyH_ready (rs := [15]) (by kernel_rfl) (by simp) ?_
     refine AllReadyH.cons rfl (fun Kx hKx => ?_) AllReadyH.nil
     try rw [if_pos (by kernel_rfl)]
     go_simp
     refine (HPS2.out _ hHeldB.1.1).mono ?_
     rintro e w6 ⟨rfl, hb6, hq⟩
     refine hKx.out _ _ ⟨HC.out _ hb6, hHeldB.2.below hq⟩ (fun hHeld => ?_)
     clear hKx Kx
     try simp only [Act.put, putH]
     clear hHeldB
     have hHeldB := hHeld
     refine tkH (i := 16) (v := .string (kc ++ pd ++ ps)) rfl hKp (fun w hSw => by obtain ⟨⟨-, c0, c1⟩, c3⟩ := hSw; go_simp) (by assumption) ?_
     simp only [Act.put, putH]
     refine tkH (i := 17) (v := .string (kc ++ pd ++ ps)) rfl hKp (fun w hSw => by obtain ⟨⟨-, c0, c1⟩, c3⟩ := hSw; go_simp) (by assumption) ?_
     simp only [Act.put, putH]
     refine wpAnyH_done (by kernel_rfl) ?_ _
     generalize w5.heap.size = u0
     exact hfin u0 _ hHeldB.1
    ·try rw [if_pos (by kernel_rfl)]
     go_simp
     refine (HPS2.out _ hb5).mono ?_
     rintro e w6 ⟨rfl, hb6, -⟩
     refine hKx.out _ _ (HC.out _ hb6) (fun hHeld => ?_)
     clear hKx Kx
     try simp only [Act.put, putH]
     refine wpAnyH_ready (rs := [7]) (by kernel_rfl) (by simp) ?_
     refine AllReadyH.cons rfl (fun Kx hKx => ?_) AllReadyH.nil
     try rw [if_pos (by kernel_rfl)]
     go_simp
     refine hKx.out _ _ (HC.out _ (hb6.alloc hb6.size _)) (fun hHeld => ?_)
     clear hKx Kx
     try simp only [Act.put, putH]
     refine wpAnyH_strongP (S' := fun w' => (Below W1.heap.size W1 w' ∧ w'.cell? ⟨w.heap.size, 0, none⟩ = some (.int .i64 x.lv) ∧ w'.cell? ⟨w.heap.size, 1, none⟩ = some (.int .i64 x.co)) ∧ New3 w' w6.heap.size cl cc 0) (fun _ h => h.1) _ _ _ _ ?_
     have hHeldB := And.intro hHeld (show New3 _ w6.heap.size cl cc 0 from New3.new w6 cl cc 0)
     refine tkH (i := 8) (v := .string kc) rfl hKp (fun w hSw => by obtain ⟨⟨-, c0, c1⟩, c3⟩ := hSw; have hcw := HCV.out w6.heap.size _ c3; go_simp) (by assumption) ?_
     simp only [Act.put, putH]
     refine tkH (i := 12) (v := .string (kc ++ pd)) rfl hKp (fun w hSw => by obtain ⟨⟨-, c0, c1⟩, c3⟩ := hSw; go_simp) (by assumption) ?_
     simp only [Act.put, putH]
     refine tkH (i := 16) (v := .string (kc ++ pd ++ ps)) rfl hKp (fun w hSw => by obtain ⟨⟨-, c0, c1⟩, c3⟩ := hSw; go_simp) (by assumption) ?_
     simp only [Act.put, putH]
     refine tkH (i := 17) (v := .string (kc ++ pd ++ ps)) rfl hKp (fun w hSw => by obtain ⟨⟨-, c0, c1⟩, c3⟩ := hSw; go_simp) (by assumption) ?_
     simp only [Act.put, putH]
     refine wpAnyH_done (by kernel_rfl) ?_ _
     generalize w6.heap.size = u0
     exact hfin u0 _ hHeldB.1
  rintro u0 w9 ⟨hb9, -, -⟩
  go_wp2_with fail
  go_ret
  exact ⟨by rw [← HRW.out]; rfl, HB.out _ hb9⟩
 | true =>
  have hco : UInt8.ofNat (u64N (bitN x.ow : Int)) = 1 := by rw [how]; rfl
  have HR := Lib.hid (HROW.out 1 hco)
  clear hco
  rw [how] at a2 HW1
  go_enter Tryz.func43, Tryz.ntmps43
  go_upto_region 1 with fail
  try rw [HW1.out]
  go_upto_region 4 with fail
  clear a0 a1 a2 a3 a4 a5 a6 a7 a8
  obtain ⟨kc, hkc⟩ : ∃ s, ofL [cl, cc, 1] = s := ⟨_, rfl⟩
  have hkz : kc.size = 3 := by rw [← hkc]; rfl
  have hn1 : ¬ 9223372036854775807 < kc.size + pd.size := by omega
  have hn3 : ¬ 9223372036854775807 < kc.size + pd.size + ps.size := by omega
  have hn2 : ¬ 9223372036854775807 < (kc ++ pd).size + ps.size := by rw [ByteArray.size_append]; omega
  have HCV := Lib.hid (fun N w2 (h : New3 w2 N cl cc 1) => show (convert 97 9 (.slice (some ⟨N, 0, none⟩) 3 3)).run Tryz.prog w2 = .ok (.string kc) w2 from hkc ▸ hcv cl cc 1 N w2 h)
  have HC := Lib.hid (fun w' (h : Below W1.heap.size W1 w') => show Below W1.heap.size W1 w' ∧ w'.cell? ⟨w.heap.size, 0, none⟩ = some (.int .i64 x.lv) ∧ w'.cell? ⟨w.heap.size, 1, none⟩ = some (.int .i64 x.co) from ⟨h, (H9.out w' h).1, (H9.out w' h).2.1⟩)
  have hdr : Below W1.heap.size W1 W1.drew := Below.drew (Below.refl _ _)
  have HRW := Lib.hid (show kc ++ pd ++ ps = rowRl x by rw [← hkc]; exact HR.out)
  clear hkz hkc hpz1 hpz2 HR hcv
  have HPD2 := Lib.hid (fun w' (h : Below W1.heap.size W1 w') => HPDq.out w' h)
  have HPS2 := Lib.hid (fun w' (h : Below W1.heap.size W1 w') => HPSq.out w' h)
  refine wp_region_held_drew (S := fun w' => Below W1.heap.size W1 w' ∧ w'.cell? ⟨w.heap.size, 0, none⟩ = some (.int .i64 x.lv) ∧ w'.cell? ⟨w.heap.size, 1, none⟩ = some (.int .i64 x.co)) (by kernel_rfl) (HC.out _ hdr) (fun hHeld => ?_)
  apply held_shellP
  exact fun _ _ d _ _ h => by cases d <;> exact h
  rotate_left 1
  ·intro KK hKp hfin
   refine tkH (i := 0) (v := .pointer (some ⟨w.heap.size, 0, none⟩)) rfl hKp (fun w hSw => by obtain ⟨-, c0, c1⟩ := hSw; go_simp) (by assumption) ?_
   simp only [Act.put, putH]
   refine tkH (i := 1) (v := .int .i64 x.lv) rfl hKp (fun w hSw => by obtain ⟨-, c0, c1⟩ := hSw; go_simp) (by assumption) ?_
   simp only [Act.put, putH]
   refine tkH (i := 2) (v := .int .u8 (cl.toNat : Int)) rfl hKp (fun w hSw => by obtain ⟨-, c0, c1⟩ := hSw; go_simp) (by assumption) ?_
   simp only [Act.put, putH]
   refine tkH (i := 3) (v := .pointer (some ⟨w.heap.size, 1, none⟩)) rfl hKp (fun w hSw => by obtain ⟨-, c0, c1⟩ := hSw; go_simp) (by assumption) ?_
   simp only [Act.put, putH]
   refine tkH (i := 4) (v := .int .i64 x.co) rfl hKp (fun w hSw => by obtain ⟨-, c0, c1⟩ := hSw; go_simp) (by assumption) ?_
   simp only [Act.put, putH]
   refine tkH (i := 5) (v := .int .u8 (cc.toNat : Int)) rfl hKp (fun w hSw => by obtain ⟨-, c0, c1⟩ := hSw; go_simp) (by assumption) ?_
   simp only [Act.put, putH]
   refine tkH (i := 6) (v := .int .u8 1) rfl hKp (fun w hSw => by obtain ⟨-, c0, c1⟩ := hSw; go_simp) (by assumption) ?_
   simp only [Act.put, putH]
   refine tkH (i := 9) (v := .pointer (some ⟨w.heap.size, 3, none⟩)) rfl hKp (fun w hSw => by obtain ⟨-, c0, c1⟩ := hSw; go_simp) (by assumption) ?_
   simp only [Act.put, putH]
   refine tkH (i := 10) (v := .slice (some ⟨w.heap.size, 3, none⟩) 3 3) rfl hKp (fun w hSw => by obtain ⟨-, c0, c1⟩ := hSw; go_simp) (by assumption) ?_
   simp only [Act.put, putH]
   refine tkH (i := 13) (v := .pointer (some ⟨w.heap.size, 6, none⟩)) rfl hKp (fun w hSw => by obtain ⟨-, c0, c1⟩ := hSw; go_simp) (by assumption) ?_
   simp only [Act.put, putH]
   refine tkH (i := 14) (v := .slice (some ⟨w.heap.size, 6, none⟩) 3 3) rfl hKp (fun w hSw => by obtain ⟨-, c0, c1⟩ := hSw; go_simp) (by assumption) ?_
   simp only [Act.put, putH]
   refine wpAnyH_ready (rs := [7, 11]) (by kernel_rfl) (by simp) ?_
   refine AllReadyH.cons rfl (fun Kx hKx => ?_) (AllReadyH.cons rfl (fun Kx hKx => ?_) AllReadyH.nil)
   ·try rw [if_pos (by kernel_rfl)]
    go_simp
    refine hKx.out _ _ (HC.out _ (hdr.alloc hdr.size _)) (fun hHeld => ?_)
    clear hKx Kx
    try simp only [Act.put, putH]
    refine wpAnyH_strongP (S' := fun w' => (Below W1.heap.size W1 w' ∧ w'.cell? ⟨w.heap.size, 0, none⟩ = some (.int .i64 x.lv) ∧ w'.cell? ⟨w.heap.size, 1, none⟩ = some (.int .i64 x.co)) ∧ New3 w' W1.drew.heap.size cl cc 1) (fun _ h => h.1) _ _ _ _ ?_
    have hHeldB := And.intro hHeld (show New3 _ W1.drew.heap.size cl cc 1 from New3.new W1.drew cl cc 1)
    refine tkH (i := 8) (v := .string kc) rfl hKp (fun w hSw => by obtain ⟨⟨-, c0, c1⟩, c3⟩ := hSw; have hcw := HCV.out W1.heap.size _ c3; go_simp) (by assumption) ?_
    simp only [Act.put, putH]
    refine wpAnyH_ready (rs := [11]) (by kernel_rfl) (by simp) ?_
    refine AllReadyH.cons rfl (fun Kx hKx => ?_) AllReadyH.nil
    try rw [if_pos (by kernel_rfl)]
    go_simp
    refine (HPD2.out _ hHeldB.1.1).mono ?_
    rintro e w5 ⟨rfl, hb5, hq⟩
    refine hKx.out _ _ ⟨HC.out _ hb5, hHeldB.2.below hq⟩ (fun hHeld => ?_)
    clear hKx Kx
    try simp only [Act.put, putH]
    clear hHeldB
    have hHeldB := hHeld
    refine tkH (i := 12) (v := .string (kc ++ pd)) rfl hKp (fun w hSw => by obtain ⟨⟨-, c0, c1⟩, c3⟩ := hSw; go_simp) (by assumption) ?_
    simp only [Act.put, putH]
    refine wpAnyH_ready (rs := [15]) (by kernel_rfl) (by simp) ?_
    refine AllReadyH.cons rfl (fun Kx hKx => ?_) AllReadyH.nil
    try rw [if_pos (by kernel_rfl)]
    go_simp
    refine (HPS2.out _ hHeldB.1.1).mono ?_
    rintro e w6 ⟨rfl, hb6, hq⟩
    refine hKx.out _ _ ⟨HC.out _ hb6, hHeldB.2.below hq⟩ (fun hHeld => ?_)
    clear hKx Kx
    try simp only [Act.put, putH]
    clear hHeldB
    have hHeldB := hHeld
    refine tkH (i := 16) (v := .string (kc ++ pd ++ ps)) rfl hKp (fun w hSw => by obtain ⟨⟨-, c0, c1⟩, c3⟩ := hSw; go_simp) (by assumption) ?_
    simp only [Act.put, putH]
    refine tkH (i := 17) (v := .string (kc ++ pd ++ ps)) rfl hKp (fun w hSw => by obtain ⟨⟨-, c0, c1⟩, c3⟩ := hSw; go_simp) (by assumption) ?_
    simp only [Act.put, putH]
    refine wpAnyH_done (by kernel_rfl) ?_ _
    generalize W1.heap.size = u0
    exact hfin u0 _ hHeldB.1
   ·try rw [if_pos (by kernel_rfl)]
    go_simp
    refine (HPD2.out _ hdr).mono ?_
    rintro e w5 ⟨rfl, hb5, -⟩
    refine hKx.out _ _ (HC.out _ hb5) (fun hHeld => ?_)
    clear hKx Kx
    try simp only [Act.put, putH]
    refine wpAnyH_ready (rs := [7, 15]) (by kernel_rfl) (by simp) ?_
    refine AllReadyH.cons rfl (fun Kx hKx => ?_) (AllReadyH.cons rfl (fun Kx hKx => ?_) AllReadyH.nil)
    ·try rw [if_pos (by kernel_rfl)]
     go_simp
     refine hKx.out _ _ (HC.out _ (hb5.alloc hb5.size _)) (fun hHeld => ?_)
     clear hKx Kx
     try simp only [Act.put, putH]
     refine wpAnyH_strongP (S' := fun w' => (Below W1.heap.size W1 w' ∧ w'.cell? ⟨w.heap.size, 0, none⟩ = some (.int .i64 x.lv) ∧ w'.cell? ⟨w.heap.size, 1, none⟩ = some (.int .i64 x.co)) ∧ New3 w' w5.heap.size cl cc 1) (fun _ h => h.1) _ _ _ _ ?_
     have hHeldB := And.intro hHeld (show New3 _ w5.heap.size cl cc 1 from New3.new w5 cl cc 1)
     refine tkH (i := 8) (v := .string kc) rfl hKp (fun w hSw => by obtain ⟨⟨-, c0, c1⟩, c3⟩ := hSw; have hcw := HCV.out w5.heap.size _ c3; go_simp) (by assumption) ?_
     simp only [Act.put, putH]
     refine tkH (i := 12) (v := .string (kc ++ pd)) rfl hKp (fun w hSw => by obtain ⟨⟨-, c0, c1⟩, c3⟩ := hSw; go_simp) (by assumption) ?_
     simp only [Act.put, putH]
     refine wpAnyH_ready (rs := [15]) (by kernel_rfl) (by simp) ?_
     refine AllReadyH.cons rfl (fun Kx hKx => ?_) AllReadyH.nil
     try rw [if_pos (by kernel_rfl)]
     go_simp
     refine (HPS2.out _ hHeldB.1.1).mono ?_
     rintro e w6 ⟨rfl, hb6, hq⟩
     refine hKx.out _ _ ⟨HC.out _ hb6, hHeldB.2.below hq⟩ (fun hHeld => ?_)
     clear hKx Kx
     try simp only [Act.put, putH]
     clear hHeldB
     have hHeldB := hHeld
     refine tkH (i := 16) (v := .string (kc ++ pd ++ ps)) rfl hKp (fun w hSw => by obtain ⟨⟨-, c0, c1⟩, c3⟩ := hSw; go_simp) (by assumption) ?_
     simp only [Act.put, putH]
     refine tkH (i := 17) (v := .string (kc ++ pd ++ ps)) rfl hKp (fun w hSw => by obtain ⟨⟨-, c0, c1⟩, c3⟩ := hSw; go_simp) (by assumption) ?_
     simp only [Act.put, putH]
     refine wpAnyH_done (by kernel_rfl) ?_ _
     generalize w5.heap.size = u0
     exact hfin u0 _ hHeldB.1
    ·try rw [if_pos (by kernel_rfl)]
     go_simp
     refine (HPS2.out _ hb5).mono ?_
     rintro e w6 ⟨rfl, hb6, -⟩
     refine hKx.out _ _ (HC.out _ hb6) (fun hHeld => ?_)
     clear hKx Kx
     try simp only [Act.put, putH]
     refine wpAnyH_ready (rs := [7]) (by kernel_rfl) (by simp) ?_
     refine AllReadyH.cons rfl (fun Kx hKx => ?_) AllReadyH.nil
     try rw [if_pos (by kernel_rfl)]
     go_simp
     refine hKx.out _ _ (HC.out _ (hb6.alloc hb6.size _)) (fun hHeld => ?_)
     clear hKx Kx
     try simp only [Act.put, putH]
     refine wpAnyH_strongP (S' := fun w' => (Below W1.heap.size W1 w' ∧ w'.cell? ⟨w.heap.size, 0, none⟩ = some (.int .i64 x.lv) ∧ w'.cell? ⟨w.heap.size, 1, none⟩ = some (.int .i64 x.co)) ∧ New3 w' w6.heap.size cl cc 1) (fun _ h => h.1) _ _ _ _ ?_
     have hHeldB := And.intro hHeld (show New3 _ w6.heap.size cl cc 1 from New3.new w6 cl cc 1)
     refine tkH (i := 8) (v := .string kc) rfl hKp (fun w hSw => by obtain ⟨⟨-, c0, c1⟩, c3⟩ := hSw; have hcw := HCV.out w6.heap.size _ c3; go_simp) (by assumption) ?_
     simp only [Act.put, putH]
     refine tkH (i := 12) (v := .string (kc ++ pd)) rfl hKp (fun w hSw => by obtain ⟨⟨-, c0, c1⟩, c3⟩ := hSw; go_simp) (by assumption) ?_
     simp only [Act.put, putH]
     refine tkH (i := 16) (v := .string (kc ++ pd ++ ps)) rfl hKp (fun w hSw => by obtain ⟨⟨-, c0, c1⟩, c3⟩ := hSw; go_simp) (by assumption) ?_
     simp only [Act.put, putH]
     refine tkH (i := 17) (v := .string (kc ++ pd ++ ps)) rfl hKp (fun w hSw => by obtain ⟨⟨-, c0, c1⟩, c3⟩ := hSw; go_simp) (by assumption) ?_
     simp only [Act.put, putH]
     refine wpAnyH_done (by kernel_rfl) ?_ _
     generalize w6.heap.size = u0
     exact hfin u0 _ hHeldB.1
  rintro u0 w9 ⟨hb9, -, -⟩
  go_wp2_with fail
  go_ret
  exact ⟨by rw [← HRW.out]; rfl, HB.out _ hb9⟩
end Go.Proofs.YtgjifikahlmioaaGreatDoor

namespace Go.Proofs.YtgjifikahlmioaaGreatDoor
open Go Go.RowKit

theorem cat_snocE (l : List ByteArray) (x : ByteArray) : catW (l ++ [x]) = catW l ++ x := by
 show ofL ((l ++ [x]).flatMap bL) = ofL (l.flatMap bL) ++ x
 rw [List.flatMap_append, ← ofL_append, show ([x].flatMap bL) = bs x by simp [bs, bL], ofL_bs]
/-- Rows gone into a row of the call's own. -/
structure ApE (Wa wr : World) (v : Value) (L : List ByteArray) : Prop where
 own : wr.ownsRow Wa.heap.size 9 1 v L.length (strsW L)
 bel : Below Wa.heap.size Wa wr
theorem ApE.start (Wa : World) : ApE Wa Wa (.slice none 0 0) [] := ⟨World.ownsRow_nil _ _ _ _, Below.refl _ _⟩
theorem ApE.below {Wa wr wr' : World} {v : Value} {L : List ByteArray} (h : ApE Wa wr v L) (hb : Below wr.heap.size wr wr') : ApE Wa wr' v L := ⟨own_belowW h.own hb, h.bel.trans (hb.mono h.bel.size)⟩
theorem ApE.push {Wa wr w2 : World} {v v' : Value} {L : List ByteArray} {o : Obj} {x : ByteArray} (h : ApE Wa wr v L) (hg : (wr.alloc o).grownBy w2 v.ownBlock)
  (h1 : w2.ownsRow Wa.heap.size 9 1 v' (L.length + 1) (strsW L ++ [.string x])) : ApE Wa w2 v' (L ++ [x]) := by
 refine ⟨by rw [List.length_append, strsW_append]; exact h1, ?_⟩
 have hs := h.bel.size
 exact (h.bel.alloc h.bel.size o).grown hg (by simp; omega) (fun r e => (h.own.lt r e).1)
theorem dup_isE (im : Im) {k : Nat} (hk : k ≠ 2) : dupN im k = (badW (kyN k) (sortW (rowsN im k))).isSome := by
 rcases k with _ | _ | _ | k
 ·rfl
 ·rfl
 ·exact absurd rfl hk
 ·rfl
theorem dup_four {im : Im} (h0 : dupN im 0 = false) (h1 : dupN im 1 = false) (h3 : dupN im 3 = false) : ∀ j, j < 4 → dupN im j = false := fun j hj => by
 rcases four j hj with rfl | rfl | rfl | rfl
 ·exact h0
 ·exact h1
 ·rfl
 ·exact h3
theorem dup_three {im : Im} (h0 : dupN im 0 = false) (h1 : dupN im 1 = false) : ∀ j, j < 3 → dupN im j = false := fun j hj => by
 rcases (show j = 0 ∨ j = 1 ∨ j = 2 by omega) with rfl | rfl | rfl
 ·exact h0
 ·exact h1
 ·rfl
theorem dup_one {im : Im} (h0 : dupN im 0 = false) : ∀ j, j < 1 → dupN im j = false := fun j hj => by
 obtain rfl : j = 0 := by omega
 exact h0
theorem twice_dup (im : Im) {k : Nat} (hk : k ≠ 2) : twiceX (kyN k) (rowsN im k) = dupN im k := by
 have h := dup_keysZ im k hk
 unfold twiceX
 cases hd : dupN im k with
 | false => rw [decide_eq_true (h.1 hd)]; rfl
 | true => rw [decide_eq_false (fun e => by rw [h.2 e] at hd; cases hd)]; rfl
theorem rise_part (im : Im) {k : Nat} (hk : k = 0 ∨ k = 1 ∨ k = 3) (h : dupN im k = false) : catW (riseX (kyN k) (rowsN im k)) = partB im k := by
 have e : badW (kyN k) (sortW (rowsN im k)) = none := by
  rw [dup_isE im (by omega)] at h
  cases hh : badW (kyN k) (sortW (rowsN im k)) with
  | none => rfl
  | some y => rw [hh] at h; cases h
 have hw : 0 < kyN k ∧ kyN k ≤ wdR k := by rcases hk with rfl | rfl | rfl <;> decide
 rw [← rise_same hw.1 (fun x hx => by rw [rowsN_size im k x hx]; exact hw.2) e]
 rcases hk with rfl | rfl | rfl <;> rfl
theorem max4E {a b c d : Int} (ha : a ≤ 1000) (hb : b ≤ 1000) (hc : c ≤ 1000) (hd : d ≤ 1000) : ∃ m : Int, ¬ 4000 < m ∧ ∀ w : World, (Builtin.max_ #[3, 3, 3, 3] 3 #[.int .i64 a, .int .i64 b, .int .i64 c, .int .i64 d]).run Tryz.prog w = .ok (.int .i64 m) w := by
 refine ⟨if d > (if c > (if b > a then b else a) then c else (if b > a then b else a)) then d else (if c > (if b > a then b else a) then c else (if b > a then b else a)), ?_, fun w => ?_⟩
 ·split <;> split <;> split <;> omega
 ·simp [Builtin.max_, Builtin.max2]
theorem cellN {W : World} {B : Nat} {t : TypeId} (n : Nat → Nat) (h : W.heap[B]? = some (.cells #[.int .i64 (n 0 : Int), .int .i64 (n 1 : Int), .int .i64 (n 2 : Int), .int .i64 (n 3 : Int)] t (0, 0))) (k : Nat) (hk : k < 4) : W.cell? ⟨B, k, none⟩ = some (.int .i64 (n k : Int)) := by
 rcases four k hk with rfl | rfl | rfl | rfl <;> simp [World.cell?, h]
theorem conv_twoE (a b : UInt8) (W : World) : (convert 97 9 (.slice (some ⟨W.heap.size, 0, none⟩) 2 2)).run Tryz.prog (W.alloc (.cells #[.int .u8 (a.toNat : Int), .int .u8 (b.toNat : Int)] 5)) = .ok (.string (ofL [a, b])) (W.alloc (.cells #[.int .u8 (a.toNat : Int), .int .u8 (b.toNat : Int)] 5)) :=
 run_convert_bytes_back (P := Tryz.prog) _ 97 9 5 ⟨W.heap.size, 0, none⟩ 2 [a, b] Tryz.underlying97 Tryz.underlying5 Tryz.underlying9 (fun j hj => by
  rw [Addr.add_lit]
  rcases j with _ | _ | j
  ·exact cellAtY (World.alloc_heap_new W _) 0 _ rfl
  ·exact cellAtY (World.alloc_heap_new W _) 1 _ rfl
  ·simp at hj; omega)

set_option maxRecDepth 1000000 in
set_option maxHeartbeats 40000000 in
theorem encodeD_ref (a1 a2 a3 a4 : Option Addr) (c1 c2 c3 c4 : Nat) (im : Im) (w : World) (hi : ImR w (.slice a1 (cntN im 0) c1) (.slice a2 (cntN im 1) c2) (.slice a3 (cntN im 2) c3) (.slice a4 (cntN im 3) c4) im) (hs : ImS im) (hn : ∀ k, cntN im k ≤ 1000) :
  Calls Tryz.prog 18 #[.agg #[.slice a1 (cntN im 0) c1, .slice a2 (cntN im 1) c2, .slice a3 (cntN im 2) c3, .slice a4 (cntN im 3) c4, .int .i64 im.th, .int .i64 im.de]] w fun e w' => e = .returned (gotZ (encB im) (encE im)) ∧ Below w.heap.size w w' := by
 obtain ⟨i0, hii, iz0, iz1, iz2⟩ := info_parts stringInfo
 obtain ⟨W1, hW1⟩ : ∃ W1, w.alloc (.cells #[.slice a1 (cntN im 0) c1, .slice a2 (cntN im 1) c2, .slice a3 (cntN im 2) c3, .slice a4 (cntN im 3) c4, .int .i64 im.th, .int .i64 im.de] 33) = W1 := ⟨_, rfl⟩
 obtain ⟨W2, hW2⟩ : ∃ W2, W1.alloc (.cells #[.string ⟨#[]⟩, .int .i64 0, .int .i64 0, .string ⟨#[]⟩] 57) = W2 := ⟨_, rfl⟩
 have hs1 : W1.heap.size = w.heap.size + 1 := by rw [← hW1]; simp
 have hb1 : Below w.heap.size w W1 := by rw [← hW1]; exact (Below.refl _ w).alloc (Nat.le_refl _) _
 have hb2 : Below W1.heap.size W1 W2 := by rw [← hW2]; exact (Below.refl _ _).alloc (Nat.le_refl _) _
 have hh1 : W1.heap[w.heap.size]? = some (.cells #[.slice a1 (cntN im 0) c1, .slice a2 (cntN im 1) c2, .slice a3 (cntN im 2) c3, .slice a4 (cntN im 3) c4, .int .i64 im.th, .int .i64 im.de] 33 (0, 0)) := by rw [← hW1]; exact World.alloc_heap_new w _
 have hh2 : W2.heap[w.heap.size + 1]? = some (.cells #[.string ⟨#[]⟩, .int .i64 0, .int .i64 0, .string ⟨#[]⟩] 57 (0, 0)) := by rw [← hW2, ← hs1]; exact World.alloc_heap_new W1 _
 have HS := Lib.hid (show FirI W1 W2 w.heap.size im a1 a2 a3 a4 c1 c2 c3 c4 from ⟨(hb2.block _ (lt_of_block hh1)).trans hh1, hh2, hb2⟩)
 have hi1 := hi.below hb1
 have L0 := Lib.hid hi1.a.openF
 have L1 := Lib.hid hi1.l.openF
 have L2 := Lib.hid hi1.r.openF
 have L3 := Lib.hid hi1.m.openF
 have HF := Lib.hid (fun w' (h : Below W1.heap.size W1 w') => first_ref a1 a2 a3 a4 c1 c2 c3 c4 im w' (hi1.below h) hs (fun k => Nat.le_trans (hn k) (by decide)))
 have F0 := Lib.hid (fun (x : Al) (hm : x ∈ im.als) (hr : rightA x = true) w' => row_ref x w' (alZ_of (hs.als x hm) (by have := right_kind hr; omega)))
 have F1 := Lib.hid (fun (x : Lk) (hm : x ∈ im.lks) w' => likelyRow_ref x w' (hs.lks x hm))
 have F2 := Lib.hid (fun (x : Rl) (hm : x ∈ im.rls) w' => ruleRow_ref x w' (hs.rls x hm).z)
 have F3 := Lib.hid (fun (x : Mb) (hm : x ∈ im.mbs) w' => memberRow_ref x w' (fun t ht => by
  simp only [mbT, List.mem_cons, List.not_mem_nil, or_false] at ht
  rcases ht with rfl | rfl
  ·exact (hs.mbs x hm).st
  ·exact (hs.mbs x hm).rg))
 have HB := Lib.hid (fun w' (h : Below W1.heap.size W1 w') => hb1.trans (h.mono hb1.size))
 have HW1 := Lib.hid hW1
 have HW2 := Lib.hid hW2
 have HSZ := Lib.hid hs1
 have HN := Lib.hid (⟨rfl, rfl, rfl, rfl⟩ : im.als.length = cntN im 0 ∧ im.lks.length = cntN im 1 ∧ im.rls.length = cntN im 2 ∧ im.mbs.length = cntN im 3)
 have HMN := Lib.hid (manyB_none (im := im) (fun k _ => Nat.le_trans (hn k) (by decide)))
 have hm0 := hn 0
 have hm1 := hn 1
 have hm2 := hn 2
 have hm3 := hn 3
 obtain ⟨mx, hmx, hmr⟩ := max4E (a := (cntN im 0 : Int)) (b := (cntN im 1 : Int)) (c := (cntN im 2 : Int)) (d := (cntN im 3 : Int)) (by omega) (by omega) (by omega) (by omega)
 have HNN := Lib.hid hn
 clear hW1 hW2 hs1 hb1 hb2 hh1 hh2 hi1 hi hs hn
 go_enter Tryz.func18, Tryz.ntmps18
 go_upto_region 1 with fail
 try rw [HW1.out]
 try rw [HW2.out]
 obtain ⟨i0', i1, i2, i3, i4, i5⟩ := cells6 HS.out.img
 have HBL := Lib.hid HS.out.bel
 obtain ⟨⟨z0, z1, z2, z3⟩, y0, y1, y2, y3⟩ := cells4F HS.out.res
 by_cases g1 : im.th < 0
 ·have HE := Lib.hid (show encE im = some (1, 0, IMAGE) from encE_arg HMN.out (decide_eq_true (by omega)))
  have HST := Lib.hid (store4F HS.out.res (.string ⟨#[]⟩) (.int .i64 1) (.int .i64 0) (.string { data := #[105, 109, 97, 103, 101] }))
  go_wp2_with fail
  refine bodyPost_ret (results_cell_row rfl _ _ (w.heap.size + 1) 57 _ (0, 0) _ rfl HST.out.1 Tryz.underlying57 rfl sizeGot) rfl ?_
  exact ⟨by rw [HE.out]; rfl, (HB.out _ HBL.out).trans (HST.out.2 w.heap.size (Nat.le_succ _))⟩
 by_cases g2 : 255 < im.th
 ·have HE := Lib.hid (show encE im = some (1, 0, IMAGE) from encE_arg HMN.out (decide_eq_true (by omega)))
  have HST := Lib.hid (store4F HS.out.res (.string ⟨#[]⟩) (.int .i64 1) (.int .i64 0) (.string { data := #[105, 109, 97, 103, 101] }))
  go_wp2_with fail
  refine bodyPost_ret (results_cell_row rfl _ _ (w.heap.size + 1) 57 _ (0, 0) _ rfl HST.out.1 Tryz.underlying57 rfl sizeGot) rfl ?_
  exact ⟨by rw [HE.out]; rfl, (HB.out _ HBL.out).trans (HST.out.2 w.heap.size (Nat.le_succ _))⟩
 by_cases g3 : im.de < 0
 ·have HE := Lib.hid (show encE im = some (1, 0, IMAGE) from encE_arg HMN.out (decide_eq_true (by omega)))
  have HST := Lib.hid (store4F HS.out.res (.string ⟨#[]⟩) (.int .i64 1) (.int .i64 0) (.string { data := #[105, 109, 97, 103, 101] }))
  go_wp2_with fail
  refine bodyPost_ret (results_cell_row rfl _ _ (w.heap.size + 1) 57 _ (0, 0) _ rfl HST.out.1 Tryz.underlying57 rfl sizeGot) rfl ?_
  exact ⟨by rw [HE.out]; rfl, (HB.out _ HBL.out).trans (HST.out.2 w.heap.size (Nat.le_succ _))⟩
 by_cases g4 : 255 < im.de
 ·have HE := Lib.hid (show encE im = some (1, 0, IMAGE) from encE_arg HMN.out (decide_eq_true (by omega)))
  have HST := Lib.hid (store4F HS.out.res (.string ⟨#[]⟩) (.int .i64 1) (.int .i64 0) (.string { data := #[105, 109, 97, 103, 101] }))
  go_wp2_with fail
  refine bodyPost_ret (results_cell_row rfl _ _ (w.heap.size + 1) 57 _ (0, 0) _ rfl HST.out.1 Tryz.underlying57 rfl sizeGot) rfl ?_
  exact ⟨by rw [HE.out]; rfl, (HB.out _ HBL.out).trans (HST.out.2 w.heap.size (Nat.le_succ _))⟩
 have HAR := Lib.hid (show argB im = false from decide_eq_false (by omega))
 have HER := Lib.hid (encE_rest HMN.out HAR.out)
 cases hw : wrongZ im with
 | some e =>
  obtain ⟨ek, ep, es⟩ := e
  obtain rfl : ek = 12 := wrong_codeZ hw
  have HE := Lib.hid (show encE im = some (12, ep, es) by rw [HER.out, hw]; rfl)
  have HF2 := Lib.hid (show Calls Tryz.prog 39 #[.agg #[.slice a1 (cntN im 0) c1, .slice a2 (cntN im 1) c2, .slice a3 (cntN im 2) c3, .slice a4 (cntN im 3) c4, .int .i64 im.th, .int .i64 im.de]] W2 (fun e w' => e = .returned (.agg #[.string ⟨#[]⟩, .int .i64 12, .int .i64 ep, .string es]) ∧ Below W2.heap.size W2 w') from by have h := HF.out _ HBL.out; rw [hw] at h; exact h)
  clear hw
  go_upto_region 7 with (go_at_call 39; (with_reducible refine HF2.out.mono ?_); rintro e w5 ⟨rfl, hb5⟩)
  have hS5 := HS.out.below hb5
  obtain ⟨w6, hw6⟩ : ∃ w6, w5.alloc (.cells #[.string ⟨#[]⟩, .int .i64 12, .int .i64 ep, .string es] 57) = w6 := ⟨_, rfl⟩
  have hS6 := hS5.below (show Below w5.heap.size w5 w6 by rw [← hw6]; exact (Below.refl _ _).alloc (Nat.le_refl _) _)
  have h6 : w6.heap[w5.heap.size]? = some (.cells #[.string ⟨#[]⟩, .int .i64 12, .int .i64 ep, .string es] 57 (0, 0)) := by rw [← hw6]; exact World.alloc_heap_new _ _
  rw [hw6]
  clear hw6 hb5 z0 z1 z2 z3 y0 y1 y2 y3 i0' i1 i2 i3 i4 i5 hS5
  obtain ⟨⟨x0, x1, x2, x3⟩, -⟩ := cells4F h6
  obtain ⟨⟨z0, z1, z2, z3⟩, y0, y1, y2, y3⟩ := cells4F hS6.res
  have HBL6 := Lib.hid hS6.bel
  have HST := Lib.hid (store4F hS6.res (.string ⟨#[]⟩) (.int .i64 12) (.int .i64 ep) (.string es))
  go_wp2_with fail
  refine bodyPost_ret (results_cell_row rfl _ _ (w.heap.size + 1) 57 _ (0, 0) _ rfl HST.out.1 Tryz.underlying57 rfl sizeGot) rfl ?_
  exact ⟨by rw [HE.out]; rfl, (HB.out _ HBL6.out).trans (HST.out.2 w.heap.size (Nat.le_succ _))⟩
 | none =>
  obtain ⟨hq0, hq1, hq2, hq3⟩ := wrong_noneZ hw
  have HQ0 := Lib.hid (fun x (hm : x ∈ im.als) => badL_allZ.1 hq0 x hm)
  have HF2 := Lib.hid (show Calls Tryz.prog 39 #[.agg #[.slice a1 (cntN im 0) c1, .slice a2 (cntN im 1) c2, .slice a3 (cntN im 2) c3, .slice a4 (cntN im 3) c4, .int .i64 im.th, .int .i64 im.de]] W2 (fun e w' => e = .returned (.agg #[.string ⟨#[]⟩, .int .i64 0, .int .i64 0, .string ⟨#[]⟩]) ∧ Below W2.heap.size W2 w') from by have h := HF.out _ HBL.out; rw [hw] at h; exact h)
  rw [hw] at HER
  clear hw hq0 hq1 hq2 hq3
  go_upto_region 7 with (go_at_call 39; (with_reducible refine HF2.out.mono ?_); rintro e w5 ⟨rfl, hb5⟩)
  have hS5 := HS.out.below hb5
  obtain ⟨Wa, hw6⟩ : ∃ w6, w5.alloc (.cells #[.string ⟨#[]⟩, .int .i64 0, .int .i64 0, .string ⟨#[]⟩] 57) = w6 := ⟨_, rfl⟩
  have hS6 := hS5.below (show Below w5.heap.size w5 Wa by rw [← hw6]; exact (Below.refl _ _).alloc (Nat.le_refl _) _)
  have h6 : Wa.heap[w5.heap.size]? = some (.cells #[.string ⟨#[]⟩, .int .i64 0, .int .i64 0, .string ⟨#[]⟩] 57 (0, 0)) := by rw [← hw6]; exact World.alloc_heap_new _ _
  rw [hw6]
  clear hw6 hb5 z0 z1 z2 z3 y0 y1 y2 y3 i0' i1 i2 i3 i4 i5 hS5 HF HF2 g1 g2 g3 g4 hmx hmr
  obtain ⟨⟨x0, x1, x2, x3⟩, -⟩ := cells4F h6
  go_wp2_with fail
  have HSA := Lib.hid hS6
  clear h6 x0 x1 x2 x3 hS6
  go_loopw [5, 9] (fun v i wr => ∃ k : Nat, k ≤ cntN im 0 ∧ i = .int .i64 (k : Int) ∧ ApE Wa wr v ((rowsN im 0).take k)) (fun _ i _ => cntN im 0 - (intOf i).toNat)
  case atStart => exact ⟨0, Nat.zero_le _, rfl, ApE.start _⟩
  case round =>
   obtain ⟨k, hk, rfl, hP⟩ := hrel
   obtain ⟨v1, v2, v3, rfl⟩ := own_sliceZ hP.own
   have hbl := hP.bel
   have hbw := HSA.out.bel.trans (hbl.mono HSA.out.bel.size)
   obtain ⟨i0', i1, i2, i3, i4, i5⟩ := cells6 ((hbl.block _ (lt_of_block HSA.out.img)).trans HSA.out.img)
   by_cases hlt : k < cntN im 0
   ·have hki : (k : Int) < (cntN im 0 : Int) := by omega
    have hk0 : (0 : Int) ≤ (k : Int) := by omega
    obtain ⟨x, hx⟩ : ∃ x, im.als[k]? = some x := ⟨_, List.getElem?_eq_getElem (by rw [HN.out.1]; exact hlt)⟩
    obtain ⟨g, o, rfl, hcc⟩ := L0.out k x hx
    have e0 := show World.cell? _ ⟨g, o + k * 6, none⟩ = some (.int .i64 x.k) from hcc _ hbw 0 _ rfl
    have e1 := show World.cell? _ ⟨g, o + k * 6 + 1, none⟩ = some (.string x.a) from hcc _ hbw 1 _ rfl
    have e2 := show World.cell? _ ⟨g, o + k * 6 + 2, none⟩ = some (.string x.b) from hcc _ hbw 2 _ rfl
    have e3 := show World.cell? _ ⟨g, o + k * 6 + 3, none⟩ = some (.string x.l) from hcc _ hbw 3 _ rfl
    have e4 := show World.cell? _ ⟨g, o + k * 6 + 4, none⟩ = some (.string x.s) from hcc _ hbw 4 _ rfl
    have e5 := show World.cell? _ ⟨g, o + k * 6 + 5, none⟩ = some (.string x.r) from hcc _ hbw 5 _ rfl
    have HC := Lib.hid (fun w' => F0.out x (List.mem_of_getElem? hx) (HQ0.out x (List.mem_of_getElem? hx)) w')
    have HLN := Lib.hid (show (rowsN im 0).take (k + 1) = (rowsN im 0).take k ++ [rowB x] from take_nextW (by show (im.als.map rowB)[k]? = _; rw [List.getElem?_map, hx]; rfl))
    have hlen : ((rowsN im 0).take k).length ≤ 1000 := by rw [List.length_take]; omega
    clear hcc hx
    have HPE := Lib.hid hP
    clear hP hbl hbw
    generalize (rowsN im 0).take k = L at *
    generalize rowB x = fx at *
    go_wp2_with (first
     | (go_at_call 40; (with_reducible refine (HC.out _).mono ?_); rintro e w5 ⟨rfl, hb5⟩; have HP5 := Lib.hid (HPE.out.below hb5); have hs5 := HP5.out.bel.size)
     | (at_builtin; refine wpList_append_own _ rfl _ _ 67 rfl Wa.heap.size 9 i0 (.string ByteArray.empty) 1 16 Tryz.underlying67 hii iz0 iz1 iz2 rfl (by decide) _ _ _ rfl (HP5.out.own.alloc _) ⟨_, 0, none⟩ 1 1 [.string fx] rfl rfl (cell_oneW _ _ _) (by intro u hu; simp at hu; subst hu; rfl) (by unfold maxLen; omega) (by omega) (by simp; omega) ?_; intro v' w7 hown7 hgrow7 _; have HP7 := Lib.hid (HP5.out.push hgrow7 hown7)))
    go_roundw
    case rel => exact ⟨k + 1, by omega, by go_num, by rw [HLN.out]; exact HP7.out⟩
    case measure => simp [intOf]; omega
   ·obtain rfl : k = cntN im 0 := by omega
    have hki : ¬ (cntN im 0 : Int) < (cntN im 0 : Int) := by omega
    have HR0 := Lib.hid (show RowW wr (.slice v1 v2 v3) (rowsN im 0) by have h := RowW.of_own hP.own; rwa [List.take_of_length_le (Nat.le_of_eq (rowsN_len im 0))] at h)
    obtain rfl : v2 = cntN im 0 := by have h := own_lenW hP.own; rwa [List.length_take, rowsN_len, Nat.min_self] at h
    have HSB := Lib.hid (HSA.out.below hbl)
    clear HSA
    have HSA := HSB
    clear HSB hbw hk hlt hP
    go_wp2_with fail
    clear i0' i1 i2 i3 i4 i5 hki hbl
    generalize wr = Wb at *
    generalize v1 = s0 at *
    generalize v3 = t0 at *
    go_loopw [6, 10] (fun v i wr => ∃ k : Nat, k ≤ cntN im 1 ∧ i = .int .i64 (k : Int) ∧ ApE Wb wr v ((rowsN im 1).take k)) (fun _ i _ => cntN im 1 - (intOf i).toNat)
    case atStart => exact ⟨0, Nat.zero_le _, rfl, ApE.start _⟩
    case round =>
     obtain ⟨k, hk, rfl, hP⟩ := hrel
     obtain ⟨v1, v2, v3, rfl⟩ := own_sliceZ hP.own
     have hbl := hP.bel
     have hbw := HSA.out.bel.trans (hbl.mono HSA.out.bel.size)
     obtain ⟨i0', i1, i2, i3, i4, i5⟩ := cells6 ((hbl.block _ (lt_of_block HSA.out.img)).trans HSA.out.img)
     by_cases hlt : k < cntN im 1
     ·have hki : (k : Int) < (cntN im 1 : Int) := by omega
      have hk0 : (0 : Int) ≤ (k : Int) := by omega
      obtain ⟨x, hx⟩ : ∃ x, im.lks[k]? = some x := ⟨_, List.getElem?_eq_getElem (by rw [HN.out.2.1]; exact hlt)⟩
      obtain ⟨g, o, rfl, hcc⟩ := L1.out k x hx
      have e0 := show World.cell? _ ⟨g, o + k * 6, none⟩ = some (.string x.l) from hcc _ hbw 0 _ rfl
      have e1 := show World.cell? _ ⟨g, o + k * 6 + 1, none⟩ = some (.string x.s) from hcc _ hbw 1 _ rfl
      have e2 := show World.cell? _ ⟨g, o + k * 6 + 2, none⟩ = some (.string x.r) from hcc _ hbw 2 _ rfl
      have e3 := show World.cell? _ ⟨g, o + k * 6 + 3, none⟩ = some (.string x.tl) from hcc _ hbw 3 _ rfl
      have e4 := show World.cell? _ ⟨g, o + k * 6 + 4, none⟩ = some (.string x.ts) from hcc _ hbw 4 _ rfl
      have e5 := show World.cell? _ ⟨g, o + k * 6 + 5, none⟩ = some (.string x.tr) from hcc _ hbw 5 _ rfl
      have HC := Lib.hid (fun w' => F1.out x (List.mem_of_getElem? hx) w')
      have HLN := Lib.hid (show (rowsN im 1).take (k + 1) = (rowsN im 1).take k ++ [rowLk x] from take_nextW (by show (im.lks.map rowLk)[k]? = _; rw [List.getElem?_map, hx]; rfl))
      have hlen : ((rowsN im 1).take k).length ≤ 1000 := by rw [List.length_take]; omega
      clear hcc hx
      have HPE := Lib.hid hP
      clear hP hbl hbw
      generalize (rowsN im 1).take k = L at *
      generalize rowLk x = fx at *
      go_wp2_with (first
       | (go_at_call 41; (with_reducible refine (HC.out _).mono ?_); rintro e w5 ⟨rfl, hb5⟩; have HP5 := Lib.hid (HPE.out.below hb5); have hs5 := HP5.out.bel.size)
       | (at_builtin; refine wpList_append_own _ rfl _ _ 67 rfl Wb.heap.size 9 i0 (.string ByteArray.empty) 1 16 Tryz.underlying67 hii iz0 iz1 iz2 rfl (by decide) _ _ _ rfl (HP5.out.own.alloc _) ⟨_, 0, none⟩ 1 1 [.string fx] rfl rfl (cell_oneW _ _ _) (by intro u hu; simp at hu; subst hu; rfl) (by unfold maxLen; omega) (by omega) (by simp; omega) ?_; intro v' w7 hown7 hgrow7 _; have HP7 := Lib.hid (HP5.out.push hgrow7 hown7)))
      go_roundw
      case rel => exact ⟨k + 1, by omega, by go_num, by rw [HLN.out]; exact HP7.out⟩
      case measure => simp [intOf]; omega
     ·obtain rfl : k = cntN im 1 := by omega
      have hki : ¬ (cntN im 1 : Int) < (cntN im 1 : Int) := by omega
      have HR1 := Lib.hid (show RowW wr (.slice v1 v2 v3) (rowsN im 1) by have h := RowW.of_own hP.own; rwa [List.take_of_length_le (Nat.le_of_eq (rowsN_len im 1))] at h)
      obtain rfl : v2 = cntN im 1 := by have h := own_lenW hP.own; rwa [List.length_take, rowsN_len, Nat.min_self] at h
      have HSB := Lib.hid (HSA.out.below hbl)
      have HR0n := Lib.hid (HR0.out.below hbl)
      clear HR0
      have HR0 := HR0n
      clear HR0n
      clear HSA
      have HSA := HSB
      clear HSB hbw hk hlt hP
      go_wp2_with fail
      clear i0' i1 i2 i3 i4 i5 hki hbl
      generalize wr = Wc at *
      generalize v1 = s1 at *
      generalize v3 = t1 at *
      go_loopw [7, 11] (fun v i wr => ∃ k : Nat, k ≤ cntN im 3 ∧ i = .int .i64 (k : Int) ∧ ApE Wc wr v ((rowsN im 3).take k)) (fun _ i _ => cntN im 3 - (intOf i).toNat)
      case atStart => exact ⟨0, Nat.zero_le _, rfl, ApE.start _⟩
      case round =>
       obtain ⟨k, hk, rfl, hP⟩ := hrel
       obtain ⟨v1, v2, v3, rfl⟩ := own_sliceZ hP.own
       have hbl := hP.bel
       have hbw := HSA.out.bel.trans (hbl.mono HSA.out.bel.size)
       obtain ⟨i0', i1, i2, i3, i4, i5⟩ := cells6 ((hbl.block _ (lt_of_block HSA.out.img)).trans HSA.out.img)
       by_cases hlt : k < cntN im 3
       ·have hki : (k : Int) < (cntN im 3 : Int) := by omega
        have hk0 : (0 : Int) ≤ (k : Int) := by omega
        obtain ⟨x, hx⟩ : ∃ x, im.mbs[k]? = some x := ⟨_, List.getElem?_eq_getElem (by rw [HN.out.2.2.2]; exact hlt)⟩
        obtain ⟨g, o, rfl, hcc⟩ := L3.out k x hx
        have e0 := show World.cell? _ ⟨g, o + k * 2, none⟩ = some (.string x.st) from hcc _ hbw 0 _ rfl
        have e1 := show World.cell? _ ⟨g, o + k * 2 + 1, none⟩ = some (.string x.rg) from hcc _ hbw 1 _ rfl
        have HC := Lib.hid (fun w' => F3.out x (List.mem_of_getElem? hx) w')
        have HLN := Lib.hid (show (rowsN im 3).take (k + 1) = (rowsN im 3).take k ++ [rowMb x] from take_nextW (by show (im.mbs.map rowMb)[k]? = _; rw [List.getElem?_map, hx]; rfl))
        have hlen : ((rowsN im 3).take k).length ≤ 1000 := by rw [List.length_take]; omega
        clear hcc hx
        have HPE := Lib.hid hP
        clear hP hbl hbw
        generalize (rowsN im 3).take k = L at *
        generalize rowMb x = fx at *
        go_wp2_with (first
         | (go_at_call 42; (with_reducible refine (HC.out _).mono ?_); rintro e w5 ⟨rfl, hb5⟩; have HP5 := Lib.hid (HPE.out.below hb5); have hs5 := HP5.out.bel.size)
         | (at_builtin; refine wpList_append_own _ rfl _ _ 67 rfl Wc.heap.size 9 i0 (.string ByteArray.empty) 1 16 Tryz.underlying67 hii iz0 iz1 iz2 rfl (by decide) _ _ _ rfl (HP5.out.own.alloc _) ⟨_, 0, none⟩ 1 1 [.string fx] rfl rfl (cell_oneW _ _ _) (by intro u hu; simp at hu; subst hu; rfl) (by unfold maxLen; omega) (by omega) (by simp; omega) ?_; intro v' w7 hown7 hgrow7 _; have HP7 := Lib.hid (HP5.out.push hgrow7 hown7)))
        go_roundw
        case rel => exact ⟨k + 1, by omega, by go_num, by rw [HLN.out]; exact HP7.out⟩
        case measure => simp [intOf]; omega
       ·obtain rfl : k = cntN im 3 := by omega
        have hki : ¬ (cntN im 3 : Int) < (cntN im 3 : Int) := by omega
        have HR3 := Lib.hid (show RowW wr (.slice v1 v2 v3) (rowsN im 3) by have h := RowW.of_own hP.own; rwa [List.take_of_length_le (Nat.le_of_eq (rowsN_len im 3))] at h)
        obtain rfl : v2 = cntN im 3 := by have h := own_lenW hP.own; rwa [List.length_take, rowsN_len, Nat.min_self] at h
        have HSB := Lib.hid (HSA.out.below hbl)
        have HR0n := Lib.hid (HR0.out.below hbl)
        clear HR0
        have HR0 := HR0n
        clear HR0n
        have HR1n := Lib.hid (HR1.out.below hbl)
        clear HR1
        have HR1 := HR1n
        clear HR1n
        clear HSA
        have HSA := HSB
        clear HSB hbw hk hlt hP
        go_wp2_with fail
        clear i0' i1 i2 i3 i4 i5 hki hbl
        generalize wr = Wd at *
        generalize v1 = s3 at *
        generalize v3 = t3 at *
        go_loopw [8, 12] (fun v i wr => ∃ k : Nat, k ≤ cntN im 2 ∧ i = .int .i64 (k : Int) ∧ v = .string (catW ((rowsN im 2).take k)) ∧ Below Wd.heap.size Wd wr) (fun _ i _ => cntN im 2 - (intOf i).toNat)
        case atStart => exact ⟨0, Nat.zero_le _, rfl, rfl, Below.refl _ _⟩
        case round =>
         obtain ⟨k, hk, rfl, rfl, hbl⟩ := hrel
         have hbw := HSA.out.bel.trans (hbl.mono HSA.out.bel.size)
         obtain ⟨i0', i1, i2, i3, i4, i5⟩ := cells6 ((hbl.block _ (lt_of_block HSA.out.img)).trans HSA.out.img)
         by_cases hlt : k < cntN im 2
         ·have hki : (k : Int) < (cntN im 2 : Int) := by omega
          have hk0 : (0 : Int) ≤ (k : Int) := by omega
          obtain ⟨x, hx⟩ : ∃ x, im.rls[k]? = some x := ⟨_, List.getElem?_eq_getElem (by rw [HN.out.2.2.1]; exact hlt)⟩
          obtain ⟨g, o, rfl, hcc⟩ := L2.out k x hx
          have e0 := show World.cell? _ ⟨g, o + k * 9, none⟩ = some (.int .i64 x.lv) from hcc _ hbw 0 _ rfl
          have e1 := show World.cell? _ ⟨g, o + k * 9 + 1, none⟩ = some (.int .i64 x.co) from hcc _ hbw 1 _ rfl
          have e2 := show World.cell? _ ⟨g, o + k * 9 + 2, none⟩ = some (.bool x.ow) from hcc _ hbw 2 _ rfl
          have e3 := show World.cell? _ ⟨g, o + k * 9 + 3, none⟩ = some (.string x.d0) from hcc _ hbw 3 _ rfl
          have e4 := show World.cell? _ ⟨g, o + k * 9 + 4, none⟩ = some (.string x.d1) from hcc _ hbw 4 _ rfl
          have e5 := show World.cell? _ ⟨g, o + k * 9 + 5, none⟩ = some (.string x.d2) from hcc _ hbw 5 _ rfl
          have e6 := show World.cell? _ ⟨g, o + k * 9 + 6, none⟩ = some (.string x.s0) from hcc _ hbw 6 _ rfl
          have e7 := show World.cell? _ ⟨g, o + k * 9 + 7, none⟩ = some (.string x.s1) from hcc _ hbw 7 _ rfl
          have e8 := show World.cell? _ ⟨g, o + k * 9 + 8, none⟩ = some (.string x.s2) from hcc _ hbw 8 _ rfl
          have HC := Lib.hid (fun w' => F2.out x (List.mem_of_getElem? hx) w')
          have HLN := Lib.hid (show (rowsN im 2).take (k + 1) = (rowsN im 2).take k ++ [rowRl x] from take_nextW (by show (im.rls.map rowRl)[k]? = _; rw [List.getElem?_map, hx]; rfl))
          have hlen : ((rowsN im 2).take k).length ≤ 1000 := by rw [List.length_take]; omega
          have HCT := Lib.hid (show catW ((rowsN im 2).take (k + 1)) = catW ((rowsN im 2).take k) ++ rowRl x by rw [HLN.out, cat_snocE])
          have hz1 : (catW ((rowsN im 2).take k)).size ≤ 51000 := by rw [cat_size (W := 51) (fun y hy => rowsN_size im 2 y (List.mem_of_mem_take hy))]; omega
          have hz2 : (rowRl x).size = 51 := rowsN_size im 2 _ (List.mem_map.2 ⟨x, List.mem_of_getElem? hx, rfl⟩)
          have hnf : ¬ 9223372036854775807 < (catW ((rowsN im 2).take k)).size + (rowRl x).size := by omega
          have HBX := Lib.hid hbl
          clear hcc hx hlen hbl hbw hz1 hz2 HLN
          generalize catW ((rowsN im 2).take k) = L at *
          generalize rowRl x = fx at *
          go_wp2_with (go_at_call 43; (with_reducible refine (HC.out _).mono ?_); rintro e w5 ⟨rfl, hb5⟩)
          go_roundw
          case rel => exact ⟨k + 1, by omega, by go_num, by rw [HCT.out], HBX.out.trans (hb5.mono HBX.out.size)⟩
          case measure => simp [intOf]; omega
         ·obtain rfl : k = cntN im 2 := by omega
          have hki : ¬ (cntN im 2 : Int) < (cntN im 2 : Int) := by omega
          rw [List.take_of_length_le (Nat.le_of_eq (rowsN_len im 2))]
          have HSB := Lib.hid (HSA.out.below hbl)
          have HR0n := Lib.hid (HR0.out.below hbl)
          clear HR0
          have HR0 := HR0n
          clear HR0n
          have HR1n := Lib.hid (HR1.out.below hbl)
          clear HR1
          have HR1 := HR1n
          clear HR1n
          have HR3n := Lib.hid (HR3.out.below hbl)
          clear HR3
          have HR3 := HR3n
          clear HR3n
          clear HSA
          have HSA := HSB
          clear HSB hbw hk hlt
          clear hbl
          generalize wr = We at *
          have T0 := Lib.hid (fun w' (h : Below We.heap.size We w') => show Calls Tryz.prog 44 #[.slice s0 (cntN im 0) t0, .int .i64 17] w' (fun e w'' => e = .returned (.bool (dupN im 0)) ∧ Below We.heap.size We w'') from by rw [← twice_dup im (k := 0) (by decide)]; exact (twice_ref 17 _ _ w' (HR0.out.below h) (by rw [rowsN_len]; omega) (fun x hx => by rw [rowsN_size im 0 x hx]; decide)).mono fun e w'' ⟨p, q⟩ => ⟨p, h.trans (q.mono h.size)⟩)
          have T1 := Lib.hid (fun w' (h : Below We.heap.size We w') => show Calls Tryz.prog 44 #[.slice s1 (cntN im 1) t1, .int .i64 24] w' (fun e w'' => e = .returned (.bool (dupN im 1)) ∧ Below We.heap.size We w'') from by rw [← twice_dup im (k := 1) (by decide)]; exact (twice_ref 24 _ _ w' (HR1.out.below h) (by rw [rowsN_len]; omega) (fun x hx => by rw [rowsN_size im 1 x hx]; decide)).mono fun e w'' ⟨p, q⟩ => ⟨p, h.trans (q.mono h.size)⟩)
          have T3 := Lib.hid (fun w' (h : Below We.heap.size We w') => show Calls Tryz.prog 44 #[.slice s3 (cntN im 3) t3, .int .i64 16] w' (fun e w'' => e = .returned (.bool (dupN im 3)) ∧ Below We.heap.size We w'') from by rw [← twice_dup im (k := 3) (by decide)]; exact (twice_ref 16 _ _ w' (HR3.out.below h) (by rw [rowsN_len]; omega) (fun x hx => by rw [rowsN_size im 3 x hx]; decide)).mono fun e w'' ⟨p, q⟩ => ⟨p, h.trans (q.mono h.size)⟩)
          have HD := Lib.hid (fun (h0 : dupN im 0 = false) (h1 : dupN im 1 = false) (h3 : dupN im 3 = false) => show encE im = none by rw [HER.out, dupZ_none (dup_four h0 h1 h3)]; rfl)
          have HD0 := Lib.hid (fun (h0 : dupN im 0 = true) => show encE im = some (13, 0, whN 0) by rw [HER.out, dupZ_at (k := 0) (by decide) (fun j hj => absurd hj (Nat.not_lt_zero _)) h0]; rfl)
          have HD1 := Lib.hid (fun (h0 : dupN im 0 = false) (h1 : dupN im 1 = true) => show encE im = some (13, 0, whN 1) by rw [HER.out, dupZ_at (k := 1) (by decide) (dup_one h0) h1]; rfl)
          have HD3 := Lib.hid (fun (h0 : dupN im 0 = false) (h1 : dupN im 1 = false) (h3 : dupN im 3 = true) => show encE im = some (13, 0, whN 3) by rw [HER.out, dupZ_at (k := 3) (by decide) (dup_three h0 h1) h3]; rfl)
          have R0 := Lib.hid (fun (hd : dupN im 0 = false) w' (h : Below We.heap.size We w') => show Calls Tryz.prog 46 #[.slice s0 (cntN im 0) t0, .int .i64 17] w' (fun e w'' => e = .returned (.string (partB im 0)) ∧ Below We.heap.size We w'') from by rw [← rise_part im (k := 0) (by decide) hd]; exact (rising_ref 17 41 _ _ w' (HR0.out.below h) (by rw [rowsN_len]; omega) (by decide) (by decide) (by decide) (rowsN_size im 0)).mono fun e w'' ⟨p, q⟩ => ⟨p, h.trans (q.mono h.size)⟩)
          have R1 := Lib.hid (fun (hd : dupN im 1 = false) w' (h : Below We.heap.size We w') => show Calls Tryz.prog 46 #[.slice s1 (cntN im 1) t1, .int .i64 24] w' (fun e w'' => e = .returned (.string (partB im 1)) ∧ Below We.heap.size We w'') from by rw [← rise_part im (k := 1) (by decide) hd]; exact (rising_ref 24 48 _ _ w' (HR1.out.below h) (by rw [rowsN_len]; omega) (by decide) (by decide) (by decide) (rowsN_size im 1)).mono fun e w'' ⟨p, q⟩ => ⟨p, h.trans (q.mono h.size)⟩)
          have R3 := Lib.hid (fun (hd : dupN im 3 = false) w' (h : Below We.heap.size We w') => show Calls Tryz.prog 46 #[.slice s3 (cntN im 3) t3, .int .i64 16] w' (fun e w'' => e = .returned (.string (partB im 3)) ∧ Below We.heap.size We w'') from by rw [← rise_part im (k := 3) (by decide) hd]; exact (rising_ref 16 16 _ _ w' (HR3.out.below h) (by rw [rowsN_len]; omega) (by decide) (by decide) (by decide) (rowsN_size im 3)).mono fun e w'' ⟨p, q⟩ => ⟨p, h.trans (q.mono h.size)⟩)
          have HBE := Lib.hid HSA.out.bel
          obtain ⟨d0, hd0⟩ : ∃ d, dupN im 0 = d := ⟨_, rfl⟩
          obtain ⟨d1, hd1⟩ : ∃ d, dupN im 1 = d := ⟨_, rfl⟩
          obtain ⟨d3, hd3⟩ : ∃ d, dupN im 3 = d := ⟨_, rfl⟩
          rw [hd0] at T0
          rw [hd1] at T1
          rw [hd3] at T3
          have HDD := Lib.hid (⟨hd0, hd1, hd3⟩ : dupN im 0 = d0 ∧ dupN im 1 = d1 ∧ dupN im 3 = d3)
          clear hd0 hd1 hd3 L0 L1 L2 L3 F0 F1 F2 F3 HQ0 HN HR0 HR1 HR3 HER HAR
          obtain ⟨pr, hpr⟩ : ∃ s, catW (rowsN im 2) = s := ⟨_, rfl⟩
          have hpz : pr.size ≤ 51000 := by rw [← hpr, cat_size (W := 51) (rowsN_size im 2), rowsN_len]; omega
          have HPR := Lib.hid (show partB im 2 = pr from hpr)
          rw [hpr]
          clear hpr
          go_upto_region 32 with (first| (go_at_call 44; (with_reducible refine (T0.out _ (Below.refl _ _)).mono ?_); rintro e w5 ⟨rfl, hb5⟩) | (go_at_call 44; (with_reducible refine (T1.out _ hb5).mono ?_); rintro e w6 ⟨rfl, hb6⟩) | (go_at_call 44; (with_reducible refine (T3.out _ hb6).mono ?_); rintro e w7 ⟨rfl, hb7⟩))
          have HS7 := Lib.hid (HSA.out.below hb7)
          have HB7 := Lib.hid hb7
          have HBL7 := Lib.hid HS7.out.bel
          clear i0' i1 i2 i3 i4 i5 hki
          obtain ⟨i0', i1, i2, i3, i4, i5⟩ := cells6 HS7.out.img
          clear T0 T1 T3 hb5 hb6 hb7
          cases d0 with
          | true =>
           obtain ⟨⟨z0, z1, z2, z3⟩, y0, y1, y2, y3⟩ := cells4F HS7.out.res
           have HE := Lib.hid (HD0.out HDD.out.1)
           have HST := Lib.hid (store4F HS7.out.res (.string ⟨#[]⟩) (.int .i64 13) (.int .i64 0) (.string { data := #[97, 108, 105, 97, 115] }))
           go_wp2_with fail
           refine bodyPost_ret (results_cell_row rfl _ _ (w.heap.size + 1) 57 _ (0, 0) _ rfl HST.out.1 Tryz.underlying57 rfl sizeGot) rfl ?_
           exact ⟨by rw [HE.out]; rfl, (HB.out _ HBL7.out).trans (HST.out.2 w.heap.size (Nat.le_succ _))⟩
          | false =>
           cases d1 with
           | true =>
            obtain ⟨⟨z0, z1, z2, z3⟩, y0, y1, y2, y3⟩ := cells4F HS7.out.res
            have HE := Lib.hid (HD1.out HDD.out.1 HDD.out.2.1)
            have HST := Lib.hid (store4F HS7.out.res (.string ⟨#[]⟩) (.int .i64 13) (.int .i64 0) (.string { data := #[108, 105, 107, 101, 108, 121] }))
            go_wp2_with fail
            refine bodyPost_ret (results_cell_row rfl _ _ (w.heap.size + 1) 57 _ (0, 0) _ rfl HST.out.1 Tryz.underlying57 rfl sizeGot) rfl ?_
            exact ⟨by rw [HE.out]; rfl, (HB.out _ HBL7.out).trans (HST.out.2 w.heap.size (Nat.le_succ _))⟩
           | false =>
            cases d3 with
            | true =>
             obtain ⟨⟨z0, z1, z2, z3⟩, y0, y1, y2, y3⟩ := cells4F HS7.out.res
             have HE := Lib.hid (HD3.out HDD.out.1 HDD.out.2.1 HDD.out.2.2)
             have HST := Lib.hid (store4F HS7.out.res (.string ⟨#[]⟩) (.int .i64 13) (.int .i64 0) (.string { data := #[109, 101, 109, 98, 101, 114] }))
             go_wp2_with fail
             refine bodyPost_ret (results_cell_row rfl _ _ (w.heap.size + 1) 57 _ (0, 0) _ rfl HST.out.1 Tryz.underlying57 rfl sizeGot) rfl ?_
             exact ⟨by rw [HE.out]; rfl, (HB.out _ HBL7.out).trans (HST.out.2 w.heap.size (Nat.le_succ _))⟩
            | false =>
             have HE := Lib.hid (HD.out HDD.out.1 HDD.out.2.1 HDD.out.2.2)
             clear HD HD0 HD1 HD3
             go_upto_region 40 with fail
             obtain ⟨Wg, hwg⟩ : ∃ W, w7.alloc (.cells #[.int .i64 (cntN im 0 : Int), .int .i64 (cntN im 1 : Int), .int .i64 (cntN im 2 : Int), .int .i64 (cntN im 3 : Int)] 94) = W := ⟨_, rfl⟩
             have hbg : Below w7.heap.size w7 Wg := by rw [← hwg]; exact (Below.refl _ _).alloc (Nat.le_refl _) _
             have hhg : Wg.heap[w7.heap.size]? = some (.cells #[.int .i64 (cntN im 0 : Int), .int .i64 (cntN im 1 : Int), .int .i64 (cntN im 2 : Int), .int .i64 (cntN im 3 : Int)] 94 (0, 0)) := by rw [← hwg]; exact World.alloc_heap_new _ _
             have HSG := Lib.hid (HS7.out.below hbg)
             have HBG := Lib.hid (HB7.out.trans (hbg.mono HB7.out.size))
             have HIX := Lib.hid (fun w' (h : Below Wg.heap.size Wg w') k (hk : k < 4) => cellN (cntN im) ((h.block _ (lt_of_block hhg)).trans hhg) k hk)
             rw [hwg]
             clear hwg hbg hhg i0' i1 i2 i3 i4 i5
             go_wp2_with fail
             go_loopw [16, 18] (fun s i wr => ∃ k : Nat, k ≤ 4 ∧ i = .int .i64 (k : Int) ∧ s = .string (headUp im k) ∧ Below Wg.heap.size Wg wr) (fun _ i _ => 4 - (intOf i).toNat)
             case atStart => exact ⟨0, Nat.zero_le _, rfl, rfl, Below.refl _ _⟩
             case round =>
              obtain ⟨k, hk, rfl, rfl, hR⟩ := hrel
              by_cases hlt : k < 4
              ·have hlt' : (k : Int) < 4 := by omega
               have hk0 : (0 : Int) ≤ (k : Int) := by omega
               have hck := HNN.out k
               have hix := HIX.out _ hR k hlt
               have HSTP := Lib.hid (show headUp im k ++ ofL (putL (cntN im k) 2) = headUp im (k + 1) from rfl)
               obtain ⟨c, hc⟩ : ∃ c, cntN im k = c := ⟨_, rfl⟩
               have hsz := headUp_size im k
               have hs2 : (ofL (putL c 2)).size = 2 := by rw [size_ofL, length_putL]
               rw [hc] at HSTP hck hix
               have hwr : IntKind.u64.wrap (c : Int) = (c : Int) := u64_wrap_id _ (by omega) (by omega)
               have HP := Lib.hid (fun w' => putR2_any c w' (by omega))
               generalize headUp im k = hu at *
               generalize ofL (putL c 2) = p2 at *
               have hnf : ¬ (9223372036854775807 < hu.size + p2.size) := by omega
               clear hc hsz hs2 hck
               go_wp2_with (go_at_call 45; (with_reducible refine (HP.out _).mono ?_); rintro e w9 ⟨rfl, hb9⟩)
               go_roundw
               case rel => exact ⟨k + 1, by omega, by go_num, by rw [HSTP.out], hR.trans (hb9.mono hR.size)⟩
               case measure => simp [intOf]; omega
              ·obtain rfl : k = 4 := by omega
               have HSH := Lib.hid (HSG.out.below hR)
               have HBH := Lib.hid (HBG.out.trans (hR.mono HBG.out.size))
               generalize wr = Wh at *
               obtain ⟨i0', i1, i2, i3, i4, i5⟩ := cells6 HSH.out.img
               obtain ⟨ba, hba⟩ : ∃ c, UInt8.ofNat (u64N im.th) = c := ⟨_, rfl⟩
               obtain ⟨bb, hbb⟩ : ∃ c, UInt8.ofNat (u64N im.de) = c := ⟨_, rfl⟩
               have hwa : IntKind.u8.wrap im.th = (ba.toNat : Int) := by rw [u8_wrapP, hba]
               have hwb : IntKind.u8.wrap im.de = (bb.toNat : Int) := by rw [u8_wrapP, hbb]
               have hcv := conv_twoE ba bb Wh
               have HHB := Lib.hid (show headUp im 4 ++ ofL [ba, bb] = headB im by unfold headB; rw [byteZ_eqP, byteZ_eqP, hba, hbb, ByteArray.append_assoc, ofL_append]; rfl)
               have hsz := headUp_size im 4
               have hs2 : (ofL [ba, bb]).size = 2 := by rw [size_ofL]; rfl
               have hsB := headB_size im
               have R0' := Lib.hid (R0.out HDD.out.1)
               have R1' := Lib.hid (R1.out HDD.out.2.1)
               have R3' := Lib.hid (R3.out HDD.out.2.2)
               have q0 : (partB im 0).size ≤ 51000 := by rw [partB_size]; exact Nat.mul_le_mul hm0 (show 41 ≤ 51 by decide)
               have q1 : (partB im 1).size ≤ 51000 := by rw [partB_size]; exact Nat.mul_le_mul hm1 (show 48 ≤ 51 by decide)
               have q3 : (partB im 3).size ≤ 51000 := by rw [partB_size]; exact Nat.mul_le_mul hm3 (show 16 ≤ 51 by decide)
               have HOUT := Lib.hid (show encB im = headB im ++ partB im 0 ++ partB im 1 ++ pr ++ partB im 3 by rw [encB_none HE.out, ← HPR.out]; rfl)
               generalize headUp im 4 = hu at *
               generalize hof : ofL [ba, bb] = p2 at *
               generalize headB im = hB at *
               generalize partB im 0 = p0 at *
               generalize partB im 1 = p1 at *
               generalize partB im 3 = p3 at *
               have n0 : ¬ (9223372036854775807 < hu.size + p2.size) := by omega
               clear hba hbb hof hsz hs2 R0 R1 R3
               go_upto_region 45 with fail
               rw [HHB.out]
               have n1 : ¬ (9223372036854775807 < hB.size + p0.size) := by omega
               have n2 : ¬ (9223372036854775807 < hB.size + p0.size + p1.size) := by omega
               have n3 : ¬ (9223372036854775807 < hB.size + p0.size + p1.size + pr.size) := by omega
               have n4 : ¬ (9223372036854775807 < hB.size + p0.size + p1.size + pr.size + p3.size) := by omega
               have n2' : ¬ (9223372036854775807 < (hB ++ p0).size + p1.size) := by rw [ByteArray.size_append]; omega
               have n3' : ¬ (9223372036854775807 < (hB ++ p0 ++ p1).size + pr.size) := by rw [ByteArray.size_append, ByteArray.size_append]; omega
               have n4' : ¬ (9223372036854775807 < (hB ++ p0 ++ p1 ++ pr).size + p3.size) := by rw [ByteArray.size_append, ByteArray.size_append, ByteArray.size_append]; omega
               clear hsB q0 q1 q3 hpz n0 hcv hwa hwb i0' i1 i2 i3 i4 i5
               have HBI := Lib.hid (show Below We.heap.size We (Wh.alloc (.cells #[.int .u8 (ba.toNat : Int), .int .u8 (bb.toNat : Int)] 5)) from HBH.out.alloc HBH.out.size _)
               generalize Wh.alloc (.cells #[.int .u8 (ba.toNat : Int), .int .u8 (bb.toNat : Int)] 5) = Wi at *
               go_wp2_with (first| (go_at_call 46; (with_reducible refine (R0'.out _ HBI.out).mono ?_); rintro e u5 ⟨rfl, hb5⟩) | (go_at_call 46; (with_reducible refine (R1'.out _ hb5).mono ?_); rintro e u6 ⟨rfl, hb6⟩) | (go_at_call 46; (with_reducible refine (R3'.out _ hb6).mono ?_); rintro e u7 ⟨rfl, hb7⟩; have HSZ7 := Lib.hid (HSA.out.below hb7); have HBL9 := Lib.hid HSZ7.out.bel; obtain ⟨⟨z0, z1, z2, z3⟩, y0, y1, y2, y3⟩ := cells4F HSZ7.out.res; have HST := Lib.hid (store4F HSZ7.out.res (.string (hB ++ p0 ++ p1 ++ pr ++ p3)) (.int .i64 0) (.int .i64 0) (.string ⟨#[]⟩))))
               refine bodyPost_ret (results_cell_row rfl _ _ (w.heap.size + 1) 57 _ (0, 0) _ rfl HST.out.1 Tryz.underlying57 rfl sizeGot) rfl ?_
               exact ⟨by rw [HE.out, HOUT.out]; rfl, (HB.out _ HBL9.out).trans (HST.out.2 w.heap.size (Nat.le_succ _))⟩
end Go.Proofs.YtgjifikahlmioaaGreatDoor
