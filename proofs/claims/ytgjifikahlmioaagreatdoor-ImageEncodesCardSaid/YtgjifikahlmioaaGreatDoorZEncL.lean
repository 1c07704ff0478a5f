/-
  Several texts in one: ZManyLaw:chainZ, ZEncs, ZEncsLaw. (Printed by wip/mergetpl.py.)
-/
import Derived.Test.YtgjifikahlmioaaGreatDoorZEnc
import Derived.Test.YtgjifikahlmioaaGreatDoorZEncM
import Derived.Test.YtgjifikahlmioaaGreatDoorZPerm
import Derived.Test.YtgjifikahlmioaaGreatDoorZMade
import Derived.Test.YtgjifikahlmioaaGreatDoorZMany
import Derived.Test.YtgjifikahlmioaaGreatDoorWApp
import Derived.Deep.RegionHeld3

namespace Go.Proofs.YtgjifikahlmioaaGreatDoor
open Go Go.RowKit

theorem chainZ {W : World} {b : Nat} {k p : Int} {s : ByteArray} (h : W.heap[b]? = some (faultObj p s (.iface 42 (.int .i64 k)))) : Chain W (b + 1) (.iface 104 (.pointer (some ⟨b, 0, none⟩))) [.fault b p s, .num k] := ⟨rfl, Nat.lt_succ_self _, _, h, rfl, rfl⟩

end Go.Proofs.YtgjifikahlmioaaGreatDoor

namespace Go.Proofs.YtgjifikahlmioaaGreatDoor
open Go Go.RowKit

theorem enc_codeE {im : Im} {k p : Int} {s : ByteArray} (h : encE im = some (k, p, s)) : k ≠ 0 := by
  unfold encE at h
  split at h
  · injection h with h; injection h with h; omega
  · split at h
    · injection h with h; injection h with h; omega
    · cases hw : wrongZ im with
      | some e =>
        rw [hw] at h
        have h2 := wrong_codeZ hw
        rw [show (some e).or (dupZ im) = some e from rfl] at h
        injection h with h
        rw [h] at h2
        dsimp only at h2
        omega
      | none =>
        rw [hw] at h
        rw [show (none : Option ErrT).or (dupZ im) = dupZ im from rfl] at h
        unfold dupZ at h
        obtain ⟨j, _, hj⟩ := List.exists_of_findSome?_eq_some h
        split at hj
        · injection hj with hj; injection hj with hj; omega
        · cases hj
theorem whatsE {k p : Int} {s : ByteArray} (w : World) {b : Nat} (hv : w.heap[b]? = some (faultObj p s (.iface 42 (.int .i64 k)))) :
    Calls Tryz.prog 26 #[.iface 104 (.pointer (some ⟨b, 0, none⟩))] w fun e w' => ∃ g c, e = .returned (.slice (some ⟨g, 0, none⟩) 1 c) ∧ (w'.cell? ⟨g, 0, none⟩ = some (.string s) ∧ Below w.heap.size w w') := by
  refine (whats_chain w (by simp) (lt_of_block hv) (chainZ hv)).mono fun e w' ⟨u, h1, ho, hb'⟩ => ?_
  have ho' : w'.ownsRow (w.heap.size + 2) 9 1 u 1 [.string s] := ho
  rcases ho'.2 with ⟨_, h0⟩ | ⟨g, cap, _, rfl, _⟩
  · omega
  · refine ⟨g, cap, h1, ?_, hb'⟩
    have := ho'.cells rfl 0 (.string s) rfl
    rwa [Addr.add_lit] at this
set_option maxRecDepth 1000000 in
set_option maxHeartbeats 16000000 in
theorem encodes_any (a1 a2 a3 a4 : Option Addr) (c1 c2 c3 c4 : Nat) (im : Im) (w : World) (hi : ImR w (.slice a1 (cntN im 0) c1) (.slice a2 (cntN im 1) c2) (.slice a3 (cntN im 2) c3) (.slice a4 (cntN im 3) c4) im) (hs : ImS im) (hn : ∀ k, cntN im k ≤ 1000) (hL : TypeLaid w ∧ GL w) :
    Calls Tryz.prog 8 #[.agg #[.slice a1 (cntN im 0) c1, .slice a2 (cntN im 1) c2, .slice a3 (cntN im 2) c3, .slice a4 (cntN im 3) c4, .int .i64 im.th, .int .i64 im.de]] w fun e w' => e = .returned (.bool true) ∧ Below w.heap.size w w' := by
  obtain ⟨hT, hg⟩ := hL
  obtain ⟨W1, hW1⟩ : ∃ W1, w.alloc (.cells #[.slice a1 (cntN im 0) c1, .slice a2 (cntN im 1) c2, .slice a3 (cntN im 2) c3, .slice a4 (cntN im 3) c4, .int .i64 im.th, .int .i64 im.de] 33) = W1 := ⟨_, rfl⟩
  have hb1 : Below w.heap.size w W1 := by rw [← hW1]; exact (Below.refl _ w).alloc (Nat.le_refl _) _
  have hh1 : W1.heap[w.heap.size]? = some (.cells #[.slice a1 (cntN im 0) c1, .slice a2 (cntN im 1) c2, .slice a3 (cntN im 2) c3, .slice a4 (cntN im 3) c4, .int .i64 im.th, .int .i64 im.de] 33 (0, 0)) := by rw [← hW1]; exact World.alloc_heap_new w _
  have hi1 := hi.below hb1
  have HI := Lib.hid (fun w' (h : Below W1.heap.size W1 w') => cells6 ((h.block _ (lt_of_block hh1)).trans hh1))
  have HE0 := Lib.hid (encode_im a1 a2 a3 a4 c1 c2 c3 c4 im W1 hi1 hs (hg.below hb1 hg.size))
  have HD0 := Lib.hid (fun w' (h : Below W1.heap.size W1 w') => encodeD_ref a1 a2 a3 a4 c1 c2 c3 c4 im w' (hi1.below h) hs hn)
  have HT := Lib.hid (fun w' (h : Below W1.heap.size W1 w') => hT.below (hb1.trans (h.mono hb1.size)) hT.size)
  have HB := Lib.hid (fun w' (h : Below W1.heap.size W1 w') => hb1.trans (h.mono hb1.size))
  have HW1 := Lib.hid hW1
  clear hW1 hb1 hh1 hi1 hi hs hn hT hg
  obtain ⟨i0, i1, i2, i3, i4, i5⟩ := HI.out _ (Below.refl _ _)
  cases he : encE im with
  | none =>
    have HE := Lib.hid (show Calls Tryz.prog 9 #[.agg #[.slice a1 (cntN im 0) c1, .slice a2 (cntN im 1) c2, .slice a3 (cntN im 2) c3, .slice a4 (cntN im 3) c4, .int .i64 im.th, .int .i64 im.de]] W1 (fun e w' => e = .returned (.tuple #[.string (outN im 4), .nilIface]) ∧ Below W1.heap.size W1 w') from HE0.out.mono fun e w' ⟨v, p, q, r⟩ => by
      rw [he] at q
      rw [encB_none he] at p
      obtain rfl : v = .nilIface := q
      exact ⟨p, r⟩)
    have HD := Lib.hid (fun w' (h : Below W1.heap.size W1 w') => show Calls Tryz.prog 18 #[.agg #[.slice a1 (cntN im 0) c1, .slice a2 (cntN im 1) c2, .slice a3 (cntN im 2) c3, .slice a4 (cntN im 3) c4, .int .i64 im.th, .int .i64 im.de]] w' (fun e w'' => e = .returned (.agg #[.string (outN im 4), .int .i64 0, .int .i64 0, .string ⟨#[]⟩]) ∧ Below W1.heap.size W1 w'') from (HD0.out w' h).mono fun e w'' ⟨p, q⟩ => by
      rw [he, encB_none he] at p
      exact ⟨p, h.trans (q.mono h.size)⟩)
    have HK := Lib.hid (fun w' (h : Below W1.heap.size W1 w') => (kind_nil w').mono (R' := fun e w'' => e = .returned (.int .i64 0) ∧ Below W1.heap.size W1 w'') fun e w'' ⟨p, q⟩ => ⟨p, h.trans (q.mono h.size)⟩)
    generalize outN im 4 = out at *
    clear HE0 HD0 he
    go_enter Tryz.func8, Tryz.ntmps8
    go_upto_region 1 with fail
    rw [HW1.out]
    go_upto_region 2 with (go_at_call 9; (with_reducible refine HE.out.mono ?_); rintro e w5 ⟨rfl, hb5⟩)
    clear i0 i1 i2 i3 i4 i5
    obtain ⟨i0, i1, i2, i3, i4, i5⟩ := HI.out _ hb5
    go_upto_region 3 with (go_at_call 18; (with_reducible refine (HD.out _ hb5).mono ?_); rintro e w6 ⟨rfl, hb6⟩)
    obtain ⟨W7, hW7⟩ : ∃ W, w6.alloc (.cells #[.string out, .int .i64 0, .int .i64 0, .string ⟨#[]⟩] 57) = W := ⟨_, rfl⟩
    have hb7 : Below W1.heap.size W1 W7 := by rw [← hW7]; exact hb6.alloc hb6.size _
    have hh7 : W7.heap[w6.heap.size]? = some (.cells #[.string out, .int .i64 0, .int .i64 0, .string ⟨#[]⟩] 57 (0, 0)) := by rw [← hW7]; exact World.alloc_heap_new _ _
    have HC := Lib.hid (fun w' (h : Below W7.heap.size W7 w') => show Below W7.heap.size W7 w' ∧ w'.cell? ⟨w6.heap.size, 0, none⟩ = some (.string out) ∧ w'.cell? ⟨w6.heap.size, 1, none⟩ = some (.int .i64 0) from ⟨h, by
      obtain ⟨⟨q0, q1, -, -⟩, -⟩ := cells4F ((h.block _ (lt_of_block hh7)).trans hh7)
      exact ⟨q0, q1⟩⟩)
    have HK7 := Lib.hid (fun w' (h : Below W7.heap.size W7 w') => (kind_nil w').mono (R' := fun e w'' => e = .returned (.int .i64 0) ∧ Below W7.heap.size W7 w'') fun e w'' ⟨p, q⟩ => ⟨p, h.trans (q.mono h.size)⟩)
    have HB7 := Lib.hid hb7
    have hd : Below W7.heap.size W7 W7.drew := Below.drew (Below.refl _ _)
    rw [hW7]
    clear hW7 hb7 hh7 hb5 hb6 i0 i1 i2 i3 i4 i5 HK HD HE
    go_region_held3 (fun w' => Below W7.heap.size W7 w' ∧ w'.cell? ⟨w6.heap.size, 0, none⟩ = some (.string out) ∧ w'.cell? ⟨w6.heap.size, 1, none⟩ = some (.int .i64 0))
      (exact HC.out _ (by assumption))
      (first | (go_at_call 11; (with_reducible refine (HK7.out _ (by assumption)).mono ?_); rintro e w8 ⟨rfl, hb8⟩))
    all_goals (have hc8 := HC.out _ hb8; obtain ⟨-, q0, q1⟩ := hc8)
    all_goals go_wp2_with fail
    all_goals go_ret
    all_goals exact ⟨rfl, HB.out _ (HB7.out.trans (hb8.mono HB7.out.size))⟩
  | some e =>
    obtain ⟨ek, ep, es⟩ := e
    have hne := enc_codeE he
    have HE := Lib.hid (show Calls Tryz.prog 9 #[.agg #[.slice a1 (cntN im 0) c1, .slice a2 (cntN im 1) c2, .slice a3 (cntN im 2) c3, .slice a4 (cntN im 3) c4, .int .i64 im.th, .int .i64 im.de]] W1 (fun e w' => ∃ bf, e = .returned (.tuple #[.string ⟨#[]⟩, .iface 104 (.pointer (some ⟨bf, 0, none⟩))]) ∧ w'.heap[bf]? = some (faultObj ep es (.iface 42 (.int .i64 ek))) ∧ Below W1.heap.size W1 w') from HE0.out.mono fun e w' ⟨v, p, q, r⟩ => by
      rw [he] at q
      rw [encB_some he] at p
      obtain ⟨bf, rfl, hbf⟩ := q
      exact ⟨bf, p, hbf, r⟩)
    have HD := Lib.hid (fun w' (h : Below W1.heap.size W1 w') => show Calls Tryz.prog 18 #[.agg #[.slice a1 (cntN im 0) c1, .slice a2 (cntN im 1) c2, .slice a3 (cntN im 2) c3, .slice a4 (cntN im 3) c4, .int .i64 im.th, .int .i64 im.de]] w' (fun e w'' => e = .returned (.agg #[.string ⟨#[]⟩, .int .i64 ek, .int .i64 ep, .string es]) ∧ Below w'.heap.size w' w'') from (HD0.out w' h).mono fun e w'' ⟨p, q⟩ => by
      rw [he] at p
      exact ⟨p, q⟩)
    clear HE0 HD0 he
    go_enter Tryz.func8, Tryz.ntmps8
    go_upto_region 1 with fail
    rw [HW1.out]
    go_upto_region 2 with (go_at_call 9; (with_reducible refine HE.out.mono ?_); rintro e w5 ⟨bf, rfl, hbf, hb5⟩)
    clear i0 i1 i2 i3 i4 i5
    obtain ⟨i0, i1, i2, i3, i4, i5⟩ := HI.out _ hb5
    have HBF := Lib.hid hbf
    clear hbf
    go_upto_region 3 with (go_at_call 18; (with_reducible refine (HD.out _ hb5).mono ?_); rintro e w6 ⟨rfl, hb6⟩)
    obtain ⟨W7, hW7⟩ : ∃ W, w6.alloc (.cells #[.string ⟨#[]⟩, .int .i64 ek, .int .i64 ep, .string es] 57) = W := ⟨_, rfl⟩
    have hb56 : Below w5.heap.size w5 W7 := by rw [← hW7]; exact hb6.alloc hb6.size _
    have hb7 : Below W1.heap.size W1 W7 := hb5.trans (hb56.mono hb5.size)
    have hh7 : W7.heap[w6.heap.size]? = some (.cells #[.string ⟨#[]⟩, .int .i64 ek, .int .i64 ep, .string es] 57 (0, 0)) := by rw [← hW7]; exact World.alloc_heap_new _ _
    have hf7 := (hb56.block _ (lt_of_block HBF.out)).trans HBF.out
    have hT7 := HT.out _ hb7
    have HC := Lib.hid (fun w' (h : Below W7.heap.size W7 w') => (cells4F ((h.block _ (lt_of_block hh7)).trans hh7)).1)
    have HS := Lib.hid (fun w' (h : Below W7.heap.size W7 w') => show Below W7.heap.size W7 w' ∧ w'.cell? ⟨w6.heap.size, 0, none⟩ = some (.string ⟨#[]⟩) ∧ w'.cell? ⟨w6.heap.size, 1, none⟩ = some (.int .i64 ek) from ⟨h, (HC.out w' h).1, (HC.out w' h).2.1⟩)
    have HK := Lib.hid (fun w' (h : Below W7.heap.size W7 w') => (kind_chain w' (by simp) (Nat.le_trans (lt_of_block hf7) h.size) (chainZ ((h.block _ (lt_of_block hf7)).trans hf7)) (hT7.below h hT7.size)).mono (R' := fun e w'' => e = .returned (.int .i64 ek) ∧ Below W7.heap.size W7 w'') fun e w'' ⟨p, q⟩ => ⟨p, h.trans (q.mono h.size)⟩)
    have HWH := Lib.hid (fun w' (h : Below W7.heap.size W7 w') => whatsE w' ((h.block _ (lt_of_block hf7)).trans hf7))
    have HPL := Lib.hid (fun w' (h : Below W7.heap.size W7 w') => (place_chain w' (by simp) (Nat.le_trans (lt_of_block hf7) h.size) (chainZ ((h.block _ (lt_of_block hf7)).trans hf7))).mono (R' := fun e w'' => e = .returned (.int .i64 ep) ∧ Below w'.heap.size w' w'') fun e w'' ⟨p, q⟩ => ⟨p, q⟩)
    have HB7 := Lib.hid hb7
    have hd : Below W7.heap.size W7 W7.drew := Below.drew (Below.refl _ _)
    rw [hW7]
    clear hW7 hb7 hh7 hb5 hb6 hb56 hf7 hT7 i0 i1 i2 i3 i4 i5 HD HE HBF
    go_region_held3 (fun w' => Below W7.heap.size W7 w' ∧ w'.cell? ⟨w6.heap.size, 0, none⟩ = some (.string ⟨#[]⟩) ∧ w'.cell? ⟨w6.heap.size, 1, none⟩ = some (.int .i64 ek))
      (exact HS.out _ (by assumption))
      (first | (go_at_call 11; (with_reducible refine (HK.out _ (by assumption)).mono ?_); rintro e w8 ⟨rfl, hb8⟩))
    obtain ⟨q0, q1, q2, q3⟩ := HC.out _ hb8
    have hek : (ek == 0) = false := by rw [beq_eq_false_iff_ne]; exact hne
    go_upto_region 8 with (go_at_call 26; (with_reducible refine (HWH.out _ hb8).mono ?_); rintro e w9 ⟨g, c, rfl, hcell, hb9⟩)
    have hb79 : Below W7.heap.size W7 w9 := hb8.trans (hb9.mono hb8.size)
    have HCL := Lib.hid hcell
    have HS9 := Lib.hid (fun w' (h : Below w9.heap.size w9 w') => show Below w9.heap.size w9 w' ∧ w'.cell? ⟨w6.heap.size, 2, none⟩ = some (.int .i64 ep) ∧ w'.cell? ⟨w6.heap.size, 3, none⟩ = some (.string es) ∧ w'.cell? ⟨g, 0, none⟩ = some (.string es) from ⟨h, (HC.out w' (hb79.trans (h.mono hb79.size))).2.2.1, (HC.out w' (hb79.trans (h.mono hb79.size))).2.2.2, (h.cell (p := ⟨g, 0, none⟩) (lt_cellZ HCL.out)).trans HCL.out⟩)
    have HPL9 := Lib.hid (fun w' (h : Below w9.heap.size w9 w') => (HPL.out w' (hb79.trans (h.mono hb79.size))).mono (R' := fun e w'' => e = .returned (.int .i64 ep) ∧ Below w9.heap.size w9 w'') fun e w'' ⟨p, q⟩ => ⟨p, h.trans (q.mono h.size)⟩)
    have HB9 := Lib.hid (HB.out _ (HB7.out.trans (hb79.mono HB7.out.size)))
    have hd9 : Below w9.heap.size w9 w9.drew := Below.drew (Below.refl _ _)
    clear q0 q1 q2 q3 hb8 hb9 hb79 hcell hd
    go_region_held3 (fun w' => Below w9.heap.size w9 w' ∧ w'.cell? ⟨w6.heap.size, 2, none⟩ = some (.int .i64 ep) ∧ w'.cell? ⟨w6.heap.size, 3, none⟩ = some (.string es) ∧ w'.cell? ⟨g, 0, none⟩ = some (.string es))
      (exact HS9.out _ (by assumption))
      (first | (go_at_call 27; (with_reducible refine (HPL9.out _ (by assumption)).mono ?_); rintro e w8 ⟨rfl, hb8⟩))
    all_goals go_wp2_with fail
    all_goals go_ret
    all_goals exact ⟨rfl, HB9.out.trans (hb8.mono HB9.out.size)⟩
end Go.Proofs.YtgjifikahlmioaaGreatDoor

namespace Go.Proofs.YtgjifikahlmioaaGreatDoor
open Go Go.RowKit

set_option maxRecDepth 1000000 in
set_option maxHeartbeats 16000000 in
theorem imageEncodes_law (S : SeedZ) (va0 vl0 vr0 vm0 : Value) (q0 q1 : Int) (w : World) (hS : SdR w va0 vl0 vr0 vm0 S) (hL : TypeLaid w ∧ GL w) :
    Calls Tryz.prog 3 #[.agg #[va0, vl0, vr0, vm0, .int .i64 S.th, .int .i64 S.de, .int .i64 S.odd], .agg #[.int .i64 q0, .int .i64 q1]] w fun e w' => e = .returned (.bool true) ∧ Below w.heap.size w w' := by
  obtain ⟨hT, hg⟩ := hL
  obtain ⟨W0, hW0⟩ : ∃ W0, w.alloc (.cells #[va0, vl0, vr0, vm0, .int .i64 S.th, .int .i64 S.de, .int .i64 S.odd] 25) = W0 := ⟨_, rfl⟩
  obtain ⟨W1, hW1⟩ : ∃ W1, W0.alloc (.cells #[.int .i64 q0, .int .i64 q1] 26) = W1 := ⟨_, rfl⟩
  have hs0 : W0.heap.size = w.heap.size + 1 := by rw [← hW0]; simp
  have hb0 : Below w.heap.size w W0 := by rw [← hW0]; exact (Below.refl _ w).alloc (Nat.le_refl _) _
  have hb1 : Below w.heap.size w W1 := by rw [← hW1]; exact hb0.alloc hb0.size _
  have hA : W1.heap[w.heap.size]? = some (.cells #[va0, vl0, vr0, vm0, .int .i64 S.th, .int .i64 S.de, .int .i64 S.odd] 25 (0, 0)) := by rw [← hW1]; refine (Below.heap_alloc _ _ _ (by omega)).trans ?_; rw [← hW0]; exact World.alloc_heap_new w _
  have hQ : W1.heap[w.heap.size + 1]? = some (.cells #[.int .i64 q0, .int .i64 q1] 26 (0, 0)) := by rw [← hW1, ← hs0]; exact World.alloc_heap_new W0 _
  have HAW := Lib.hid (awake13_any W1 (hg.below hb1 hg.size))
  have HMD := Lib.hid (fun w' (h : Below w.heap.size w w') => made13_any S va0 vl0 vr0 vm0 w' ⟨hS.a.below h, hS.l.below h, hS.r.below h, hS.m.below h⟩)
  have HGL := Lib.hid (fun w' (h : Below w.heap.size w w') => And.intro (hT.below h hT.size) (hg.below h hg.size))
  have HB1 := Lib.hid hb1
  have HW1 := Lib.hid (And.intro hW0 (And.intro hW1 hs0))
  have HA := Lib.hid hA
  have HQ := Lib.hid hQ
  clear hW0 hW1 hA hQ hb0 hb1 hS hg hT hs0
  go_enter Tryz.func3, Tryz.ntmps3
  go_upto_region 1 with fail
  try rw [HW1.out.1]
  try rw [HW1.out.2.1]
  try rw [HW1.out.2.2]
  go_upto_region 2 with (go_at_call 6; (with_reducible refine HAW.out.mono ?_); rintro e w2 ⟨rfl, hb2⟩)
  have hA2 := (hb2.block _ (lt_of_block HA.out)).trans HA.out
  have hQ2 := (hb2.block _ (lt_of_block HQ.out)).trans HQ.out
  have hB2 := HB1.out.trans (hb2.mono HB1.out.size)
  obtain ⟨d0, d1, d2, d3, d4, d5, d6⟩ := cells7 hA2
  have HM2 := Lib.hid (HMD.out _ hB2)
  go_upto_region 3 with (go_at_call 7; (with_reducible refine HM2.out.mono ?_); intro e w5 hE; unfold MdE ImO at hE; obtain ⟨im0, hBI, va, vl, vr, vm, rfl, hO5, hb5⟩ := hE; obtain ⟨a1, c1, a2, c2, a3, c3, a4, c4, h1, h2, h3, h4⟩ := hO5.rows.slices; subst h1 h2 h3 h4)
  have hFW := hBI.few (restV S.odd 12)
  generalize spI im0 (restV S.odd 12) = im at *
  have HCN := Lib.hid (show ∀ k, cntN im k ≤ 1000 from fun k => by
    have h1 := hFW.a; have h2 := hFW.l; have h3 := hFW.r; have h4 := hFW.m
    rcases k with _ | _ | _ | k
    · show im.als.length ≤ 1000; omega
    · show im.lks.length ≤ 1000; omega
    · show im.rls.length ≤ 1000; omega
    · show im.mbs.length ≤ 1000; omega)
  have HRW := Lib.hid hO5.rows
  have HIS := Lib.hid hO5.s
  have hB5 := hB2.trans (hb5.mono hB2.size)
  have hQ5 := (hb5.block _ (lt_of_block hQ2)).trans hQ2
  obtain ⟨W6, hW6⟩ : ∃ W6, w5.alloc (.cells #[.slice a1 (cntN im 0) c1, .slice a2 (cntN im 1) c2, .slice a3 (cntN im 2) c3, .slice a4 (cntN im 3) c4, .int .i64 im.th, .int .i64 im.de] 33) = W6 := ⟨_, rfl⟩
  have hI6 : W6.heap[w5.heap.size]? = some (.cells #[.slice a1 (cntN im 0) c1, .slice a2 (cntN im 1) c2, .slice a3 (cntN im 2) c3, .slice a4 (cntN im 3) c4, .int .i64 im.th, .int .i64 im.de] 33 (0, 0)) := by rw [← hW6]; exact World.alloc_heap_new _ _
  have hb6 : Below w5.heap.size w5 W6 := by rw [← hW6]; exact (Below.refl _ _).alloc (Nat.le_refl _) _
  have hs6 : W6.heap.size = w5.heap.size + 1 := by rw [← hW6]; simp
  rw [hW6]
  clear hW6 d0 d1 d2 d3 d4 d5 d6 HM2 HMD hA2 hBI hFW hO5 HAW HA HW1 HQ HB1
  obtain ⟨z0, z1, z2, z3, z4, z5⟩ := cells6 hI6
  go_upto_region 4 with fail
  obtain ⟨W8, hW8⟩ : ∃ W8, W6.alloc (.cells #[.slice a1 (cntN im 0) c1, .slice a2 (cntN im 1) c2, .slice a3 (cntN im 2) c3, .slice a4 (cntN im 3) c4, .int .i64 im.th, .int .i64 im.de] 33) = W8 := ⟨_, rfl⟩
  have hX8 : W8.heap[W6.heap.size]? = some (.cells #[.slice a1 (cntN im 0) c1, .slice a2 (cntN im 1) c2, .slice a3 (cntN im 2) c3, .slice a4 (cntN im 3) c4, .int .i64 im.th, .int .i64 im.de] 33 (0, 0)) := by rw [← hW8]; exact World.alloc_heap_new _ _
  have hb8 : Below w5.heap.size w5 W8 := by rw [← hW8]; exact hb6.alloc hb6.size _
  have hb68 : Below W6.heap.size W6 W8 := by rw [← hW8]; exact (Below.refl _ _).alloc (Nat.le_refl _) _
  have hI8 := (hb68.block _ (lt_of_block hI6)).trans hI6
  have hQ8 := (hb8.block _ (lt_of_block hQ5)).trans hQ5
  have hql := lt_of_block hQ5
  rw [hW8]
  clear hW8 z0 z1 z2 z3 z4 z5 hb68
  obtain ⟨x0, x1, x2, x3, x4, x5⟩ := cells6 hX8
  have f4 := frozenY hX8 4
  obtain ⟨y0, y1⟩ := cells2Z hQ8
  obtain ⟨nX, hnX⟩ : ∃ n, w5.heap.size + 1 = n := ⟨_, rfl⟩
  rw [hs6, hnX] at hX8 x0 x1 x2 x3 x4 x5 f4
  rw [hnX]
  have hX9 := setY (k := 4) hX8 (.int .i64 q0)
  have hI9 := (heap_setCellZ (W := W8) (g := nX) (k := 4) (v := .int .i64 q0) (j := w5.heap.size) (by omega)).trans hI8
  have hQ9 := (heap_setCellZ (W := W8) (g := nX) (k := 4) (v := .int .i64 q0) (j := w.heap.size + 1) (by omega)).trans hQ8
  have hb9 : Below w5.heap.size w5 (W8.setCell ⟨nX, 4, none⟩ (.int .i64 q0)) := hb8.setCell (p := ⟨nX, 4, none⟩) (by show w5.heap.size ≤ nX; omega) _
  go_upto_region 5 with fail
  clear x0 x1 x2 x3 x4 x5 f4 y0 y1
  generalize W8.setCell ⟨nX, 4, none⟩ (.int .i64 q0) = W9 at *
  have hX9 : W9.heap[nX]? = some (.cells #[.slice a1 (cntN im 0) c1, .slice a2 (cntN im 1) c2, .slice a3 (cntN im 2) c3, .slice a4 (cntN im 3) c4, .int .i64 q0, .int .i64 im.de] 33 (0, 0)) := hX9
  obtain ⟨x0, x1, x2, x3, x4, x5⟩ := cells6 hX9
  have f5 := frozenY hX9 5
  obtain ⟨y0, y1⟩ := cells2Z hQ9
  have hX10 := setY (k := 5) hX9 (.int .i64 q1)
  have hI10 := (heap_setCellZ (W := W9) (g := nX) (k := 5) (v := .int .i64 q1) (j := w5.heap.size) (by omega)).trans hI9
  have hb10 : Below w5.heap.size w5 (W9.setCell ⟨nX, 5, none⟩ (.int .i64 q1)) := hb9.setCell (p := ⟨nX, 5, none⟩) (by show w5.heap.size ≤ nX; omega) _
  go_upto_region 6 with fail
  clear x0 x1 x2 x3 x4 x5 f5 y0 y1
  generalize W9.setCell ⟨nX, 5, none⟩ (.int .i64 q1) = W10 at *
  have hX10 : W10.heap[nX]? = some (.cells #[.slice a1 (cntN im 0) c1, .slice a2 (cntN im 1) c2, .slice a3 (cntN im 2) c3, .slice a4 (cntN im 3) c4, .int .i64 q0, .int .i64 q1] 33 (0, 0)) := hX10
  have HX := Lib.hid (fun w' (h : Below W10.heap.size W10 w') => cells6 ((h.block _ (lt_of_block hX10)).trans hX10))
  have HI := Lib.hid (fun w' (h : Below W10.heap.size W10 w') => cells6 ((h.block _ (lt_of_block hI10)).trans hI10))
  have HB10 := Lib.hid (hB5.trans (hb10.mono hB5.size))
  have hr10 := HRW.out.below hb10
  have E1 := Lib.hid (fun w' (h : Below W10.heap.size W10 w') => show Calls Tryz.prog 8 #[.agg #[.slice a1 (cntN im 0) c1, .slice a2 (cntN im 1) c2, .slice a3 (cntN im 2) c3, .slice a4 (cntN im 3) c4, .int .i64 im.th, .int .i64 im.de]] w' (fun e w'' => e = .returned (.bool true) ∧ Below W10.heap.size W10 w'') from (encodes_any a1 a2 a3 a4 c1 c2 c3 c4 im w' (hr10.below h) HIS.out HCN.out (HGL.out _ (HB10.out.trans (h.mono HB10.out.size)))).mono fun e w'' ⟨p, q⟩ => ⟨p, h.trans (q.mono h.size)⟩)
  have E2 := Lib.hid (fun w' (h : Below W10.heap.size W10 w') => show Calls Tryz.prog 8 #[.agg #[.slice a1 (cntN im 0) c1, .slice a2 (cntN im 1) c2, .slice a3 (cntN im 2) c3, .slice a4 (cntN im 3) c4, .int .i64 q0, .int .i64 q1]] w' (fun e w'' => e = .returned (.bool true) ∧ Below W10.heap.size W10 w'') from (encodes_any a1 a2 a3 a4 c1 c2 c3 c4 { im with th := q0, de := q1 } w' ⟨(hr10.below h).a, (hr10.below h).l, (hr10.below h).r, (hr10.below h).m⟩ ⟨HIS.out.als, HIS.out.lks, HIS.out.rls, HIS.out.mbs⟩ (fun k => by have := HCN.out k; rcases k with _ | _ | _ | k <;> exact this) (HGL.out _ (HB10.out.trans (h.mono HB10.out.size)))).mono fun e w'' ⟨p, q⟩ => ⟨p, h.trans (q.mono h.size)⟩)
  have E3 := Lib.hid (fun w' (h : Below W10.heap.size W10 w') => show Calls Tryz.prog 8 #[.agg #[.slice none 0 0, .slice none 0 0, .slice none 0 0, .slice none 0 0, .int .i64 0, .int .i64 0]] w' (fun e w'' => e = .returned (.bool true) ∧ Below W10.heap.size W10 w'') from (encodes_any none none none none 0 0 0 0 (imR [] 0 0) w' ⟨RowC.nil _ _ _, RowC.nil _ _ _, RowC.nil _ _ _, RowC.nil _ _ _⟩ (imS_nil 0 0) (fun k => by rcases k with _ | _ | _ | k <;> exact Nat.zero_le _) (HGL.out _ (HB10.out.trans (h.mono HB10.out.size)))).mono fun e w'' ⟨p, q⟩ => ⟨p, h.trans (q.mono h.size)⟩)
  clear hX10 hI10 hr10 hb10 hX9 hI9 hQ9 hb9 hX8 hI8 hQ8 hb8 hI6 hb6 hQ5 hQ2 hb2 hb5 hB2 hB5 HRW HIS HCN HGL
  obtain ⟨x0, x1, x2, x3, x4, x5⟩ := HX.out _ (Below.refl _ _)
  obtain ⟨i0, i1, i2, i3, i4, i5⟩ := HI.out _ (Below.refl _ _)
  go_wp2_with (first
    | (go_at_call 8; (with_reducible refine (E1.out _ (Below.refl _ _)).mono ?_); rintro e w11 ⟨rfl, hb11⟩; clear x0 x1 x2 x3 x4 x5 i0 i1 i2 i3 i4 i5; obtain ⟨x0, x1, x2, x3, x4, x5⟩ := HX.out _ hb11)
    | (go_at_call 8; (with_reducible refine (E2.out _ hb11).mono ?_); rintro e w12 ⟨rfl, hb12⟩; clear x0 x1 x2 x3 x4 x5)
    | (go_at_call 8; (with_reducible refine (E3.out _ hb12).mono ?_); rintro e w13 ⟨rfl, hb13⟩))
  go_ret
  exact ⟨rfl, HB10.out.trans (hb13.mono HB10.out.size)⟩
end Go.Proofs.YtgjifikahlmioaaGreatDoor
