/-
  tag.Right over tags with longer rows.
-/
import Derived.Test.YtggfdmhfcpabdaaGreatDoorKTags
import Derived.Test.YtggfdmhfcpabdaaGreatDoorNRules
import Derived.Deep.RegionHeld3
import Derived.Test.YtggfdmhfcpabdaaGreatDoorNRow
import Derived.Test.YtggfdmhfcpabdaaGreatDoorLSubtags
import Derived.Test.YtggfdmhfcpabdaaGreatDoorDJoin
import Derived.Test.YtggfdmhfcpabdaaGreatDoorPieceR
import Derived.Test.YtggfdmhfcpabdaaGreatDoorFRight

namespace Go.Proofs.YtggfdmhfcpabdaaGreatDoor
open Go Go.RowKit

structure TagMid (T : TagM) : Prop where
  e : T.extl.length ≤ 100
  v : T.vars.length ≤ 100
  x : T.exts.length ≤ 100
  p : T.priv.length ≤ 100
  sl : T.lang.size ≤ 1000
  ss : T.script.size ≤ 1000
  sr : T.region.size ≤ 1000
  sg : T.grand.size ≤ 100
  se : ∀ x ∈ T.extl, x.size ≤ 1000
  sv : ∀ x ∈ T.vars, x.size ≤ 1000
  sp : ∀ x ∈ T.priv, x.size ≤ 1000
  sx : ∀ x ∈ T.exts, x.1.size ≤ 1000 ∧ x.2.length ≤ 100 ∧ ∀ y ∈ x.2, y.size ≤ 1000
  n : (subtagsT T).length ≤ 1000
theorem mid_len {T : TagM} (h : TagMid T) : (subtagsT T).length ≤ 1000 := h.n
theorem mid_sizes {T : TagM} (h : TagMid T) : ∀ x ∈ subtagsT T, x.size ≤ 1000 := by
  intro x hx
  unfold subtagsT at hx
  split at hx
  · simp only [List.mem_append] at hx
    rcases hx with (((((hx | hx) | hx) | hx) | hx) | hx) | hx
    · rw [oneT_mem hx]; exact h.sl
    · exact h.se x hx
    · rw [oneT_mem hx]; exact h.ss
    · rw [oneT_mem hx]; exact h.sr
    · exact h.sv x hx
    · obtain ⟨y, hy, hm⟩ := List.mem_flatMap.1 hx
      rcases List.mem_cons.1 hm with rfl | hm
      · exact (h.sx y hy).1
      · exact (h.sx y hy).2.2 x hm
    · unfold privT at hx
      split at hx
      · simp at hx
      · rcases List.mem_cons.1 hx with rfl | hx
        · decide
        · exact h.sp x hx
  · have := splS_size T.grand x hx
    have := h.sg
    omega
theorem TagMid.fits {T : TagM} (h : TagMid T) : TagFits T := ⟨by have := h.e; omega, by have := h.v; omega, by have := h.x; omega, fun x hx => by have := (h.sx x hx).2.1; omega, by have := h.p; omega, h.sg⟩
end Go.Proofs.YtggfdmhfcpabdaaGreatDoor

namespace Go.Proofs.YtggfdmhfcpabdaaGreatDoor
open Go Go.RowKit

set_option maxRecDepth 100000 in
set_option maxHeartbeats 2000000 in
theorem r_grandM (b : Nat) (T : TagM) (w : World) (hR : RuleAt w b T) (hF : TagMid T) (hg : GL w) :
    Calls Tryz.prog 111 #[.pointer (some ⟨b, 0, none⟩)] w fun e w' => e = .returned (.bool ((findV T.grand).isSome)) ∧ Below w.heap.size w w' := by
  obtain ⟨a1, p1, a2, p2, a3, p3, a4, p4, hh, hT⟩ := hR
  obtain ⟨R1, R2, R3, R4⟩ := RuleAt.rows (b := b) hT rfl
  obtain ⟨q0, q1, q2, q3, q4, q5, q6, q7⟩ := tag_cells hh
  have H := Lib.hid (old_own T.grand w (by have := hF.sg; unfold maxLen; omega) hg)
  clear hg
  clear hh hT R1 R2 R3 R4 hF
  go_enter Tryz.func111, Tryz.ntmps111
  go_wp2_with (go_at_call 147; (with_reducible refine H.out.mono ?_); rintro e w1 ⟨rfl, hb⟩)
  go_ret
  exact ⟨rfl, hb⟩
set_option maxRecDepth 100000 in
set_option maxHeartbeats 2000000 in
theorem r_langM (b : Nat) (T : TagM) (w : World) (hR : RuleAt w b T) (hF : TagMid T) :
    Calls Tryz.prog 116 #[.pointer (some ⟨b, 0, none⟩)] w fun e w' => e = .returned (.bool (languageS T.lang)) ∧ Below w.heap.size w w' := by
  obtain ⟨a1, p1, a2, p2, a3, p3, a4, p4, hh, hT⟩ := hR
  obtain ⟨R1, R2, R3, R4⟩ := RuleAt.rows (b := b) hT rfl
  obtain ⟨q0, q1, q2, q3, q4, q5, q6, q7⟩ := tag_cells hh
  have H := Lib.hid (language_own T.lang w (by have := hF.sl; unfold maxLen; omega))
  clear hh hT R1 R2 R3 R4 hF
  go_enter Tryz.func116, Tryz.ntmps116
  go_wp2_with (go_at_call 134; (with_reducible refine H.out.mono ?_); rintro e w1 ⟨rfl, hb⟩)
  go_ret
  exact ⟨rfl, hb⟩
set_option maxRecDepth 100000 in
set_option maxHeartbeats 2000000 in
theorem r_privatesM (b : Nat) (T : TagM) (w : World) (hR : RuleAt w b T) (hF : TagMid T) :
    Calls Tryz.prog 114 #[.pointer (some ⟨b, 0, none⟩)] w fun e w' => e = .returned (.bool (T.priv.all okS)) ∧ Below w.heap.size w w' := by
  obtain ⟨a1, p1, a2, p2, a3, p3, a4, p4, hh, hT⟩ := hR
  obtain ⟨R1, R2, R3, R4⟩ := RuleAt.rows (b := b) hT rfl
  obtain ⟨q0, q1, q2, q3, q4, q5, q6, q7⟩ := tag_cells hh
  have H := Lib.hid (every_any 148 _ T.priv okS w R4 (by have := hF.p; omega) (asks_of _ _ _ _ (Go.Proofs.enters_of Tryz.func148 (by kernel_rfl) rfl) fun x hx w5 => subtag_own x w5 (by have := hF.sp x hx; unfold maxLen; omega)))
  clear hh hT R1 R2 R3 R4 hF
  go_enter Tryz.func114, Tryz.ntmps114
  go_wp2_with (go_at_call 106; (with_reducible refine H.out.mono ?_); rintro e w1 ⟨rfl, hb⟩)
  go_ret
  exact ⟨rfl, hb⟩
set_option maxRecDepth 100000 in
set_option maxHeartbeats 2000000 in
theorem r_someM (b : Nat) (T : TagM) (w : World) (hR : RuleAt w b T) (_hF : TagMid T) :
    Calls Tryz.prog 113 #[.pointer (some ⟨b, 0, none⟩)] w fun e w' => e = .returned (.bool (decide (0 < T.priv.length))) ∧ Below w.heap.size w w' := by
  obtain ⟨a1, p1, a2, p2, a3, p3, a4, p4, hh, hT⟩ := hR
  obtain ⟨R1, R2, R3, R4⟩ := RuleAt.rows (b := b) hT rfl
  obtain ⟨q0, q1, q2, q3, q4, q5, q6, q7⟩ := tag_cells hh
  clear hh hT R1 R2 R3 R4
  go_enter Tryz.func113, Tryz.ntmps113
  go_wp2_with fail
  go_ret
  exact ⟨rfl, Below.refl _ _⟩
set_option maxRecDepth 100000 in
set_option maxHeartbeats 2000000 in
theorem r_nograndM (b : Nat) (T : TagM) (w : World) (hR : RuleAt w b T) (_hF : TagMid T) :
    Calls Tryz.prog 115 #[.pointer (some ⟨b, 0, none⟩)] w fun e w' => e = .returned (.bool (decide (T.grand.size = 0))) ∧ Below w.heap.size w w' := by
  obtain ⟨a1, p1, a2, p2, a3, p3, a4, p4, hh, hT⟩ := hR
  obtain ⟨R1, R2, R3, R4⟩ := RuleAt.rows (b := b) hT rfl
  obtain ⟨q0, q1, q2, q3, q4, q5, q6, q7⟩ := tag_cells hh
  by_cases h : T.grand.size = 0
  · have hi := empty_true h
    have HE := Lib.hid (decide_eq_true h)
    clear hh hT R1 R2 R3 R4 h
    go_enter Tryz.func115, Tryz.ntmps115
    go_wp2_with fail
    go_ret
    exact ⟨ret_bool HE.out.symm, Below.refl _ _⟩
  · have hi := empty_false (s := T.grand) (by omega)
    have HE := Lib.hid (decide_eq_false h)
    clear hh hT R1 R2 R3 R4 h
    go_enter Tryz.func115, Tryz.ntmps115
    go_wp2_with fail
    go_ret
    exact ⟨ret_bool HE.out.symm, Below.refl _ _⟩
set_option maxRecDepth 100000 in
set_option maxHeartbeats 2000000 in
theorem r_scriptM (b : Nat) (T : TagM) (w : World) (hR : RuleAt w b T) (hF : TagMid T) :
    Calls Tryz.prog 118 #[.pointer (some ⟨b, 0, none⟩)] w fun e w' => e = .returned (.bool (decide (T.script.size = 0) || scriptS T.script)) ∧ Below w.heap.size w w' := by
  obtain ⟨a1, p1, a2, p2, a3, p3, a4, p4, hh, hT⟩ := hR
  obtain ⟨R1, R2, R3, R4⟩ := RuleAt.rows (b := b) hT rfl
  obtain ⟨q0, q1, q2, q3, q4, q5, q6, q7⟩ := tag_cells hh
  have H := Lib.hid (script_own T.script w (by have := hF.ss; unfold maxLen; omega))
  by_cases h : T.script.size = 0
  · have hi := empty_true h
    have HE := Lib.hid (decide_eq_true h)
    clear hh hT R1 R2 R3 R4 hF h
    go_enter Tryz.func118, Tryz.ntmps118
    go_wp2_with fail
    go_ret
    exact ⟨ret_bool (by rw [HE.out]; rfl), Below.refl _ _⟩
  · have hi := empty_false (s := T.script) (by omega)
    have HE := Lib.hid (decide_eq_false h)
    clear hh hT R1 R2 R3 R4 hF h
    go_enter Tryz.func118, Tryz.ntmps118
    go_wp2_with (go_at_call 150; (with_reducible refine H.out.mono ?_); rintro e w1 ⟨rfl, hb⟩)
    go_ret
    exact ⟨ret_bool (by rw [HE.out]; rfl), hb⟩
set_option maxRecDepth 100000 in
set_option maxHeartbeats 2000000 in
theorem r_regionM (b : Nat) (T : TagM) (w : World) (hR : RuleAt w b T) (hF : TagMid T) :
    Calls Tryz.prog 119 #[.pointer (some ⟨b, 0, none⟩)] w fun e w' => e = .returned (.bool (decide (T.region.size = 0) || regionS T.region)) ∧ Below w.heap.size w w' := by
  obtain ⟨a1, p1, a2, p2, a3, p3, a4, p4, hh, hT⟩ := hR
  obtain ⟨R1, R2, R3, R4⟩ := RuleAt.rows (b := b) hT rfl
  obtain ⟨q0, q1, q2, q3, q4, q5, q6, q7⟩ := tag_cells hh
  have H := Lib.hid (region_own T.region w (by have := hF.sr; unfold maxLen; omega))
  by_cases h : T.region.size = 0
  · have hi := empty_true h
    have HE := Lib.hid (decide_eq_true h)
    clear hh hT R1 R2 R3 R4 hF h
    go_enter Tryz.func119, Tryz.ntmps119
    go_wp2_with fail
    go_ret
    exact ⟨ret_bool (by rw [HE.out]; rfl), Below.refl _ _⟩
  · have hi := empty_false (s := T.region) (by omega)
    have HE := Lib.hid (decide_eq_false h)
    clear hh hT R1 R2 R3 R4 hF h
    go_enter Tryz.func119, Tryz.ntmps119
    go_wp2_with (go_at_call 151; (with_reducible refine H.out.mono ?_); rintro e w1 ⟨rfl, hb⟩)
    go_ret
    exact ⟨ret_bool (by rw [HE.out]; rfl), hb⟩
set_option maxRecDepth 100000 in
set_option maxHeartbeats 2000000 in
theorem r_extlM (b : Nat) (T : TagM) (w : World) (hR : RuleAt w b T) (hF : TagMid T) :
    Calls Tryz.prog 117 #[.pointer (some ⟨b, 0, none⟩)] w fun e w' => e = .returned (.bool (extlB T)) ∧ Below w.heap.size w w' := by
  obtain ⟨a1, p1, a2, p2, a3, p3, a4, p4, hh, hT⟩ := hR
  obtain ⟨R1, R2, R3, R4⟩ := RuleAt.rows (b := b) hT rfl
  obtain ⟨q0, q1, q2, q3, q4, q5, q6, q7⟩ := tag_cells hh
  have H := Lib.hid (every_any 149 _ T.extl extlangS w R1 (by have := hF.e; omega) (asks_of _ _ _ _ (Go.Proofs.enters_of Tryz.func149 (by kernel_rfl) rfl) fun x hx w5 => extlang_own x w5 (by have := hF.se x hx; unfold maxLen; omega)))
  by_cases h0 : T.extl.length = 0
  · have hi : ((T.extl.length : Int) == 0) = true := by rw [beq_iff_eq]; omega
    have HE := Lib.hid (show extlB T = true by unfold extlB; rw [if_pos h0])
    clear hh hT R1 R2 R3 R4 hF h0
    go_enter Tryz.func117, Tryz.ntmps117
    go_wp2_with fail
    go_ret
    exact ⟨ret_bool HE.out.symm, Below.refl _ _⟩
  have hi : ((T.extl.length : Int) == 0) = false := by rw [beq_eq_false_iff_ne]; omega
  by_cases h1 : T.extl.length ≤ 3
  rotate_left 1
  · have h1i : ¬ (T.extl.length : Int) ≤ 3 := by omega
    have HE := Lib.hid (show extlB T = false by unfold extlB; rw [if_neg h0, decide_eq_false h1]; rfl)
    clear hh hT R1 R2 R3 R4 hF h0 h1
    go_enter Tryz.func117, Tryz.ntmps117
    go_wp2_with fail
    go_ret
    exact ⟨ret_bool HE.out.symm, Below.refl _ _⟩
  have h1i : (T.extl.length : Int) ≤ 3 := by omega
  by_cases h2 : T.lang.size ≤ 3
  · have h2i : (T.lang.size : Int) ≤ 3 := by omega
    have HE := Lib.hid (show extlB T = T.extl.all extlangS by unfold extlB; rw [if_neg h0, decide_eq_true h1, decide_eq_true h2]; rfl)
    clear hh hT R1 R2 R3 R4 hF h0 h1 h2
    go_enter Tryz.func117, Tryz.ntmps117
    go_wp2_with (go_at_call 106; (with_reducible refine H.out.mono ?_); rintro e w1 ⟨rfl, hb⟩)
    go_ret
    exact ⟨ret_bool HE.out.symm, hb⟩
  · have h2i : ¬ (T.lang.size : Int) ≤ 3 := by omega
    have HE := Lib.hid (show extlB T = false by unfold extlB; rw [if_neg h0, decide_eq_true h1, decide_eq_false h2]; rfl)
    clear hh hT R1 R2 R3 R4 hF h0 h1 h2
    go_enter Tryz.func117, Tryz.ntmps117
    go_wp2_with fail
    go_ret
    exact ⟨ret_bool HE.out.symm, Below.refl _ _⟩
set_option maxRecDepth 100000 in
set_option maxHeartbeats 2000000 in
theorem r_varsM (b : Nat) (T : TagM) (w : World) (hR : RuleAt w b T) (hF : TagMid T) :
    Calls Tryz.prog 120 #[.pointer (some ⟨b, 0, none⟩)] w fun e w' => e = .returned (.bool (T.vars.all variantS && decide (Maps.size (setD T.vars) = T.vars.length))) ∧ Below w.heap.size w w' := by
  obtain ⟨a1, p1, a2, p2, a3, p3, a4, p4, hh, hT⟩ := hR
  obtain ⟨R1, R2, R3, R4⟩ := RuleAt.rows (b := b) hT rfl
  obtain ⟨q0, q1, q2, q3, q4, q5, q6, q7⟩ := tag_cells hh
  have H := Lib.hid (every_any 152 _ T.vars variantS w R2 (by have := hF.v; omega) (asks_of _ _ _ _ (Go.Proofs.enters_of Tryz.func152 (by kernel_rfl) rfl) fun x hx w5 => variant_own x w5 (by have := hF.sv x hx; unfold maxLen; omega)))
  have HD := Lib.hid (fun w5 (hb : Below w.heap.size w w5) => distinct_own _ T.vars w5 (R2.below hb) (by have := hF.v; omega) (fun x hx => by have := hF.sv x hx; unfold maxLen; omega))
  have HQ := Lib.hid (fun w5 (hb : Below w.heap.size w w5) => tag_cells ((hb.block _ (lt_of_heapJ hh)).trans hh))
  generalize decide (Maps.size (setD T.vars) = T.vars.length) = dd at *
  obtain ⟨va, hva⟩ : ∃ va, T.vars.all variantS = va := ⟨_, rfl⟩
  rw [hva] at H
  have HV := Lib.hid hva
  clear hh hT R1 R2 R3 R4 hF hva
  cases va with
  | true =>
    go_enter Tryz.func120, Tryz.ntmps120
    go_wp2_with (first | (go_at_call 106; (with_reducible refine H.out.mono ?_); rintro e w1 ⟨rfl, hb⟩; obtain ⟨z0, z1, z2, z3, z4, z5, z6, z7⟩ := HQ.out _ hb) | (go_at_call 153; (with_reducible refine (HD.out _ hb).mono ?_); rintro e w2 ⟨rfl, hb2⟩))
    go_ret
    exact ⟨ret_bool (by rw [HV.out]; rfl), hb.trans (hb2.mono hb.size)⟩
  | false =>
    go_enter Tryz.func120, Tryz.ntmps120
    go_wp2_with (go_at_call 106; (with_reducible refine H.out.mono ?_); rintro e w1 ⟨rfl, hb⟩)
    go_ret
    exact ⟨ret_bool (by rw [HV.out]; rfl), hb⟩
set_option maxRecDepth 100000 in
set_option maxHeartbeats 4000000 in
theorem r_onlyGM (b : Nat) (T : TagM) (w : World) (hR : RuleAt w b T) (hF : TagMid T) :
    Calls Tryz.prog 110 #[.pointer (some ⟨b, 0, none⟩)] w fun e w' => e = .returned (.bool (sameT T (onlyG T))) ∧ Below w.heap.size w w' := by
  obtain ⟨a1, p1, a2, p2, a3, p3, a4, p4, hh, hT⟩ := hR
  obtain ⟨R1, R2, R3, R4⟩ := RuleAt.rows (b := b) hT rfl
  have SM := Lib.hid (fun w5 (hb : Below w.heap.size w w5) => (same_own _ _ T (onlyG T) w5 (hT.below hb) (onlyG_is T w5) hF.fits).mono (R' := fun e w7 => e = .returned (.bool (sameT T (onlyG T))) ∧ Below w.heap.size w w7) fun e w7 ⟨p, q⟩ => ⟨p, hb.trans (q.mono hb.size)⟩)
  have HQ := Lib.hid (fun w5 (hb : Below w.heap.size w w5) => tag_cells ((hb.block _ (lt_of_heapJ hh)).trans hh))
  obtain ⟨q0, q1, q2, q3, q4, q5, q6, q7⟩ := HQ.out w.drew (Below.drew (Below.refl _ _))
  have hb0 : Below w.heap.size w w.drew := Below.drew (Below.refl _ _)
  generalize sameT T (onlyG T) = bb at *
  clear hh hT R1 R2 R3 R4 hF
  go_enter Tryz.func110, Tryz.ntmps110
  go_upto_region 1 with fail
  go_region_held3 (fun w' => Below w.heap.size w w' ∧ w'.cell? ⟨b, 0, none⟩ = some (.string T.lang) ∧ w'.cell? ⟨b, 1, none⟩ = some (.slice a1 T.extl.length p1) ∧ w'.cell? ⟨b, 2, none⟩ = some (.string T.script) ∧ w'.cell? ⟨b, 3, none⟩ = some (.string T.region) ∧ w'.cell? ⟨b, 4, none⟩ = some (.slice a2 T.vars.length p2) ∧ w'.cell? ⟨b, 5, none⟩ = some (.slice a3 T.exts.length p3) ∧ w'.cell? ⟨b, 6, none⟩ = some (.slice a4 T.priv.length p4) ∧ w'.cell? ⟨b, 7, none⟩ = some (.string T.grand))
    (first | exact ⟨by assumption, by assumption, by assumption, by assumption, by assumption, by assumption, by assumption, by assumption, by assumption⟩ | exact ⟨hb9, HQ.out _ hb9⟩)
    (first | (go_at_call 146; (with_reducible refine (SM.out _ hb0).mono ?_); rintro e w9 ⟨rfl, hb9⟩))
  all_goals (try go_wp2_with fail)
  go_ret
  exact ⟨rfl, hb9⟩
set_option maxRecDepth 100000 in
set_option maxHeartbeats 4000000 in
theorem r_onlyPM (b : Nat) (T : TagM) (w : World) (hR : RuleAt w b T) (hF : TagMid T) :
    Calls Tryz.prog 112 #[.pointer (some ⟨b, 0, none⟩)] w fun e w' => e = .returned (.bool (sameT T (onlyP T))) ∧ Below w.heap.size w w' := by
  obtain ⟨a1, p1, a2, p2, a3, p3, a4, p4, hh, hT⟩ := hR
  obtain ⟨R1, R2, R3, R4⟩ := RuleAt.rows (b := b) hT rfl
  have SM := Lib.hid (fun w5 (hb : Below w.heap.size w w5) => (same_own _ _ T (onlyP T) w5 (hT.below hb) (onlyP_is T w5 _ (R4.below hb)) hF.fits).mono (R' := fun e w7 => e = .returned (.bool (sameT T (onlyP T))) ∧ Below w.heap.size w w7) fun e w7 ⟨p, q⟩ => ⟨p, hb.trans (q.mono hb.size)⟩)
  have HQ := Lib.hid (fun w5 (hb : Below w.heap.size w w5) => tag_cells ((hb.block _ (lt_of_heapJ hh)).trans hh))
  obtain ⟨q0, q1, q2, q3, q4, q5, q6, q7⟩ := HQ.out w.drew (Below.drew (Below.refl _ _))
  have hb0 : Below w.heap.size w w.drew := Below.drew (Below.refl _ _)
  generalize sameT T (onlyP T) = bb at *
  clear hh hT R1 R2 R3 R4 hF
  go_enter Tryz.func112, Tryz.ntmps112
  go_upto_region 1 with fail
  go_region_held3 (fun w' => Below w.heap.size w w' ∧ w'.cell? ⟨b, 0, none⟩ = some (.string T.lang) ∧ w'.cell? ⟨b, 1, none⟩ = some (.slice a1 T.extl.length p1) ∧ w'.cell? ⟨b, 2, none⟩ = some (.string T.script) ∧ w'.cell? ⟨b, 3, none⟩ = some (.string T.region) ∧ w'.cell? ⟨b, 4, none⟩ = some (.slice a2 T.vars.length p2) ∧ w'.cell? ⟨b, 5, none⟩ = some (.slice a3 T.exts.length p3) ∧ w'.cell? ⟨b, 6, none⟩ = some (.slice a4 T.priv.length p4) ∧ w'.cell? ⟨b, 7, none⟩ = some (.string T.grand))
    (first | exact ⟨by assumption, by assumption, by assumption, by assumption, by assumption, by assumption, by assumption, by assumption, by assumption⟩ | exact ⟨hb9, HQ.out _ hb9⟩)
    (first | (go_at_call 146; (with_reducible refine (SM.out _ hb0).mono ?_); rintro e w9 ⟨rfl, hb9⟩))
  all_goals (try go_wp2_with fail)
  go_ret
  exact ⟨rfl, hb9⟩
set_option maxRecDepth 100000 in
set_option maxHeartbeats 8000000 in
theorem r_extsM (b : Nat) (T : TagM) (w : World) (hR : RuleAt w b T) (hF : TagMid T) :
    Calls Tryz.prog 121 #[.pointer (some ⟨b, 0, none⟩)] w fun e w' => e = .returned (.bool (extsB T)) ∧ Below w.heap.size w w' := by
  obtain ⟨i0, hi, hz0, hz1, hz2⟩ := info_parts stringInfo
  obtain ⟨a1, p1, a2, p2, a3, p3, a4, p4, hh, hT⟩ := hR
  obtain ⟨R1, R2, ⟨ao, cp, hao, K3⟩, R4⟩ := RuleAt.rows (b := b) hT rfl
  cases hao
  obtain ⟨q0, q1, q2, q3, q4, q5, q6, q7⟩ := tag_cells hh
  have HK3 := Lib.hid K3
  have HSX := Lib.hid hF.sx
  have hlen : T.exts.length ≤ 100 := hF.x
  have HEB := Lib.hid (show extsB T = (T.exts.all pX && decide (Maps.size (setD (keysT T)) = (keysT T).length)) from rfl)
  clear hh hT R1 R2 R4 hF K3
  go_enter Tryz.func121, Tryz.ntmps121
  go_wp2_with fail
  go_loopw [3, 12] (fun u i wr => ∃ k : Nat, k ≤ T.exts.length ∧ i = .int .i64 (k : Int) ∧ Acc w ((T.exts.take k).map (·.1)) u wr ∧ (T.exts.take k).all pX = true) (fun _ i _ => T.exts.length - (intOf i).toNat)
  case atStart => exact ⟨0, Nat.zero_le _, rfl, Acc.start w, rfl⟩
  case round =>
    obtain ⟨k, hk, rfl, HA, hall⟩ := hrel
    have hsz := HA.2.size
    by_cases hlt : k < T.exts.length
    · have hki : (k : Int) < (T.exts.length : Int) := by omega
      have hk0 : (0 : Int) ≤ (k : Int) := by omega
      obtain ⟨x, hx⟩ : ∃ x, T.exts[k]? = some x := ⟨_, List.getElem?_eq_getElem hlt⟩
      obtain ⟨g, vs, hg, hcx, hcy, hrow⟩ := HK3.out k x hx
      cases hg
      have c1 := (HA.2.cell (p := ⟨g, k * 2, none⟩) (lt_of_cellF hcx)).trans hcx
      have c2 := (HA.2.cell (p := ⟨g, k * 2 + 1, none⟩) (lt_of_cellF hcy)).trans hcy
      obtain ⟨s1, s2, s3⟩ := HSX.out x (List.mem_of_getElem? hx)
      obtain ⟨W5, hW5⟩ : ∃ W5, wr.alloc (.cells #[.string x.1, vs] 48) = W5 := ⟨_, rfl⟩
      have hb5 : Below wr.heap.size wr W5 := by rw [← hW5]; exact (Below.refl _ wr).alloc (Nat.le_refl _) _
      have hX5 : W5.heap[wr.heap.size]? = some (.cells #[.string x.1, vs] 48 (0, 0)) := by rw [← hW5]; exact World.alloc_heap_new wr _
      have HA5 := Lib.hid (HA.below hb5)
      have HC5 := Lib.hid (fun w6 (hb : Below W5.heap.size W5 w6) => And.intro (cell_row2 0 ((hb.block _ (lt_of_heapJ hX5)).trans hX5) rfl) (cell_row2 1 ((hb.block _ (lt_of_heapJ hX5)).trans hX5) rfl))
      have SG := Lib.hid (singleton_own x.1 W5 (by unfold maxLen; omega))
      have EV := Lib.hid (fun w6 (hb : Below W5.heap.size W5 w6) => (every_any 155 _ x.2 (fun s => okS s && decide (2 ≤ s.size)) w6 (hrow.below ((HA.2.trans (hb5.mono HA.2.size)).trans (hb.mono (HA.2.trans (hb5.mono HA.2.size)).size))) (by omega) (asks_of _ _ _ _ (Go.Proofs.enters_of Tryz.func155 (by kernel_rfl) rfl) fun y hy w7 => extended_own y w7 (by have := s3 y hy; unfold maxLen; omega))).mono (R' := fun e w8 => e = .returned (.bool (x.2.all fun s => okS s && decide (2 ≤ s.size))) ∧ Below W5.heap.size W5 w8) fun e w8 ⟨p, q⟩ => ⟨p, hb.trans (q.mono hb.size)⟩)
      have HN := Lib.hid (show (T.exts.take (k + 1)).all pX = pX x by rw [take_next hx, List.all_append, hall]; simp)
      have HM := Lib.hid (show (T.exts.take (k + 1)).map (·.1) = (T.exts.take k).map (·.1) ++ [x.1] by rw [take_next hx, List.map_append]; rfl)
      have HBAD := Lib.hid (fun (h : pX x = false) => show extsB T = false by rw [HEB.out, show T.exts.all pX = false by rw [List.all_eq_false]; exact ⟨x, List.mem_of_getElem? hx, by rw [h]; simp⟩]; rfl)
      have HPX := Lib.hid (show pX x = (singletonS x.1 && (decide (x.2.length ≠ 0) && x.2.all fun s => okS s && decide (2 ≤ s.size))) from rfl)
      have hlm : ((T.exts.take k).map (·.1)).length ≤ 100 := by rw [List.length_map, List.length_take]; omega
      have HX5 := Lib.hid hX5
      obtain ⟨va, vc, rfl, -⟩ := hrow
      obtain ⟨d0, d1⟩ := HC5.out W5 (Below.refl _ _)
      generalize pX x = px at *
      generalize (T.exts.take k).map (·.1) = L at *
      generalize (x.2.all fun s => okS s && decide (2 ≤ s.size)) = ev at *
      generalize singletonS x.1 = sg at *
      have hend : ∀ w6, Below W5.heap.size W5 w6 → Below w.heap.size w w6 := fun w6 hb => (HA5.out.below hb).2
      have HEND := Lib.hid hend
      clear hcx hcy HA hall hx hb5 hX5 s1 s3 hend
      cases sg with
      | false =>
        go_wp2_with (go_at_call 154; (with_reducible refine SG.out.mono ?_); rintro e w6 ⟨rfl, hb6⟩)
        go_ret
        exact ⟨ret_bool (HBAD.out (by rw [HPX.out]; rfl)).symm, HEND.out _ hb6⟩
      | true =>
        by_cases hl0 : x.2.length = 0
        · have hl1 : ((x.2.length : Int) == 0) = true := by rw [beq_iff_eq]; omega
          have HL0 := Lib.hid hl0
          clear hl0
          go_wp2_with (go_at_call 154; (with_reducible refine SG.out.mono ?_); rintro e w6 ⟨rfl, hb6⟩; obtain ⟨e0, e1⟩ := HC5.out _ hb6)
          go_ret
          exact ⟨ret_bool (HBAD.out (by rw [HPX.out, decide_eq_false (fun h => h HL0.out)]; rfl)).symm, HEND.out _ hb6⟩
        · have hl1 : ((x.2.length : Int) == 0) = false := by rw [beq_eq_false_iff_ne]; omega
          cases ev with
          | false =>
            go_wp2_with (first | (go_at_call 154; (with_reducible refine SG.out.mono ?_); rintro e w6 ⟨rfl, hb6⟩; obtain ⟨e0, e1⟩ := HC5.out _ hb6) | (go_at_call 106; (with_reducible refine (EV.out _ hb6).mono ?_); rintro e w7 ⟨rfl, hb7⟩; obtain ⟨f0, f1⟩ := HC5.out _ hb7))
            go_ret
            exact ⟨ret_bool (HBAD.out (by rw [HPX.out]; simp)).symm, HEND.out _ hb7⟩
          | true =>
            have HT := Lib.hid (show px = true by rw [HPX.out, decide_eq_true hl0]; rfl)
            go_wp2_with (first | (go_at_call 154; (with_reducible refine SG.out.mono ?_); rintro e w6 ⟨rfl, hb6⟩; obtain ⟨e0, e1⟩ := HC5.out _ hb6) | (go_at_call 106; (with_reducible refine (EV.out _ hb6).mono ?_); rintro e w7 ⟨rfl, hb7⟩; obtain ⟨f0, f1⟩ := HC5.out _ hb7; have HA7 := HA5.out.below hb7; have hs7 := HA7.2.size) | (at_builtin; refine wpList_append_own _ rfl _ _ 28 rfl w.heap.size 9 i0 (.string ByteArray.empty) 1 16 Tryz.underlying28 hi hz0 hz1 hz2 rfl (by decide) _ _ _ rfl (HA7.1.alloc _) ⟨_, 0, none⟩ 1 1 [.string x.1] rfl rfl (cell_one_new _ _ _) (by intro u hu; simp at hu; subst hu; rfl) (by unfold maxLen; omega) (by omega) (by simp; omega) ?_; intro v' w8 hown1 hgrow _))
            go_roundw
            case rel => exact ⟨k + 1, by omega, by go_num, by rw [HM.out]; exact HA7.push hown1 hgrow, by rw [HN.out]; exact HT.out⟩
            case measure => simp [intOf]; omega
    · obtain rfl : k = T.exts.length := by omega
      have hki : ¬ (T.exts.length : Int) < (T.exts.length : Int) := by omega
      rw [List.take_of_length_le (Nat.le_refl _)] at HA hall
      have HA : Acc w (keysT T) u3 wr := HA
      have DI := Lib.hid (fun (v : Value) (hv : Row wr v (keysT T)) => distinct_own v (keysT T) wr hv (by show (T.exts.map (·.1)).length ≤ _; rw [List.length_map]; omega) (fun y hy => by obtain ⟨z, hz, rfl⟩ := List.mem_map.1 hy; have := (HSX.out z hz).1; unfold maxLen; omega))
      have hrw : Row wr u3 (keysT T) := Row.of_own HA.1
      obtain ⟨ka, kc, rfl, -⟩ := Row.of_own HA.1
      have DI2 := Lib.hid (DI.out _ hrw)
      have HE := Lib.hid (show extsB T = decide (Maps.size (setD (keysT T)) = (keysT T).length) by rw [HEB.out, hall]; rfl)
      have HB := Lib.hid HA.2
      generalize decide (Maps.size (setD (keysT T)) = (keysT T).length) = dd at *
      clear HA hrw hall
      go_wp2_with (go_at_call 153; (with_reducible refine DI2.out.mono ?_); rintro e w9 ⟨rfl, hb9⟩)
      go_ret
      exact ⟨ret_bool HE.out.symm, HB.out.trans (hb9.mono HB.out.size)⟩
end Go.Proofs.YtggfdmhfcpabdaaGreatDoor

namespace Go.Proofs.YtggfdmhfcpabdaaGreatDoor
open Go Go.RowKit

def smallBM (T : TagM) : Bool := (subtagsT T).all fun s => decide (s = lowS s)
set_option maxRecDepth 100000 in
set_option maxHeartbeats 4000000 in
theorem r_smallM (b : Nat) (T : TagM) (w : World) (hR : RuleAt w b T) (hF : TagMid T) :
    Calls Tryz.prog 83 #[.pointer (some ⟨b, 0, none⟩)] w fun e w' => e = .returned (.bool (smallBM T)) ∧ Below w.heap.size w w' := by
  obtain ⟨a1, p1, a2, p2, a3, p3, a4, p4, hh, hT⟩ := hR
  have SU := Lib.hid ((subtags_own _ T w hT hF.fits).mono (R' := fun e w7 => ∃ u, e = .returned u ∧ Row w7 u (subtagsT T) ∧ Below w.heap.size w w7) fun e w7 ⟨u, p, q, r⟩ => ⟨u, p, Row.of_own q, r⟩)
  obtain ⟨q0, q1, q2, q3, q4, q5, q6, q7⟩ := tag_cells hh
  have EV := Lib.hid (fun w6 u (hr : Row w6 u (subtagsT T)) => every_any 108 u (subtagsT T) (fun s => decide (s = lowS s)) w6 hr (by have := mid_len hF; omega) (asks_of _ _ _ _ (Go.Proofs.enters_of Tryz.func108 (by kernel_rfl) rfl) fun x hx w7 => smallOne_own x w7 (by have := mid_sizes hF x hx; omega)))
  have HE := Lib.hid (show smallBM T = (subtagsT T).all (fun s => decide (s = lowS s)) from rfl)
  generalize ((subtagsT T).all fun s => decide (s = lowS s)) = lb at *
  clear hh hT hF
  go_enter Tryz.func83, Tryz.ntmps83
  go_wp2_with (first | (go_at_call 107; (with_reducible refine SU.out.mono ?_); rintro e w1 ⟨u, rfl, hr, hb1⟩; have hu := hr; obtain ⟨j1, j2, rfl, -⟩ := hu; have HR1 := Lib.hid hr; clear hr) | (go_at_call 106; (with_reducible refine (EV.out _ _ HR1.out).mono ?_); rintro e w2 ⟨rfl, hb2⟩))
  go_ret
  exact ⟨ret_bool HE.out.symm, hb1.trans (hb2.mono hb1.size)⟩
theorem join_ownM (u : Value) (l : List ByteArray) (w : World) (base : Nat) (h : w.ownsRow base 9 1 u l.length (strs l)) (hl : l.length ≤ 1000) (hs : ∀ x ∈ l, x.size ≤ 1000) :
    Calls Tryz.prog 156 #[u] w fun e w' => e = .returned (.string (joinS l)) ∧ Below w.heap.size w w' := by
  rcases owned_cases h with ⟨rfl, h0⟩ | ⟨g, cap, rfl⟩
  · obtain rfl : l = [] := List.eq_nil_of_length_eq_zero h0
    exact (join_none w).mono fun e w' ⟨p, q⟩ => ⟨p, by rw [← q]; exact Below.refl _ _⟩
  · exact join_row w rfl (own_cap h) (by omega) (h.lt g rfl).2 (own_cell h) (by have := joinS_size 1000 l hs; omega)
set_option maxRecDepth 100000 in
set_option maxHeartbeats 4000000 in
theorem r_notgrandM (b : Nat) (T : TagM) (w : World) (hR : RuleAt w b T) (hF : TagMid T) (hg : GL w) :
    Calls Tryz.prog 122 #[.pointer (some ⟨b, 0, none⟩)] w fun e w' => e = .returned (.bool (!(findV (joinS (subtagsT T))).isSome)) ∧ Below w.heap.size w w' := by
  obtain ⟨a1, p1, a2, p2, a3, p3, a4, p4, hh, hT⟩ := hR
  have SU := Lib.hid (subtags_own _ T w hT hF.fits)
  obtain ⟨q0, q1, q2, q3, q4, q5, q6, q7⟩ := tag_cells hh
  have JN := Lib.hid (fun w6 u (hr : w6.ownsRow w.heap.size 9 1 u (subtagsT T).length (strs (subtagsT T))) => join_ownM u (subtagsT T) w6 w.heap.size hr (by have := mid_len hF; omega) (mid_sizes hF))
  have HJ := Lib.hid (show (joinS (subtagsT T)).size ≤ maxLen by have := joinS_size 1000 (subtagsT T) (mid_sizes hF); have := mid_len hF; unfold maxLen; omega)
  have OL := Lib.hid (fun w6 (hb : Below w.heap.size w w6) => old_own (joinS (subtagsT T)) w6 HJ.out (hg.below hb hg.size))
  generalize (findV (joinS (subtagsT T))).isSome = fb at *
  generalize joinS (subtagsT T) = J at *
  clear hh hT hF hg
  go_enter Tryz.func122, Tryz.ntmps122
  go_wp2_with (first | (go_at_call 107; (with_reducible refine SU.out.mono ?_); rintro e w1 ⟨u, rfl, hr, hb1⟩; have hu := Row.of_own hr; obtain ⟨j1, j2, rfl, -⟩ := hu; have HR1 := Lib.hid hr; clear hr) | (go_at_call 156; (with_reducible refine (JN.out _ _ HR1.out).mono ?_); rintro e w2 ⟨rfl, hb2⟩; have hb3 := hb1.trans (hb2.mono hb1.size)) | (go_at_call 147; (with_reducible refine (OL.out _ hb3).mono ?_); rintro e w4 ⟨rfl, hb4⟩))
  go_ret
  exact ⟨rfl, hb3.trans (hb4.mono hb3.size)⟩
set_option maxRecDepth 100000 in
theorem k_onlyGM (b : Nat) (T : TagM) (w : World) (hR : RuleAt w b T) (hF : TagMid T) : Keeps w (.func (.func 110) #[.pointer (some ⟨b, 0, none⟩)] #[]) (sameT T (onlyG T)) := by
  intro w5 hb5
  have H := Lib.hid (r_onlyGM b T w5 (hR.below hb5) hF)
  clear hR hF
  generalize (sameT T (onlyG T)) = rr at *
  go_enter Tryz.func124, Tryz.ntmps124
  go_wp2_with (go_at_call 110; (with_reducible refine H.out.mono ?_); rintro e w1 ⟨rfl, hb⟩)
  go_ret
  exact ⟨rfl, hb⟩
set_option maxRecDepth 100000 in
theorem k_grandM (b : Nat) (T : TagM) (w : World) (hR : RuleAt w b T) (hF : TagMid T) (hg : GL w) : Keeps w (.func (.func 111) #[.pointer (some ⟨b, 0, none⟩)] #[]) ((findV T.grand).isSome) := by
  intro w5 hb5
  have H := Lib.hid (r_grandM b T w5 (hR.below hb5) hF (hg.below hb5 hg.size))
  clear hR hF hg
  generalize ((findV T.grand).isSome) = rr at *
  go_enter Tryz.func124, Tryz.ntmps124
  go_wp2_with (go_at_call 111; (with_reducible refine H.out.mono ?_); rintro e w1 ⟨rfl, hb⟩)
  go_ret
  exact ⟨rfl, hb⟩
set_option maxRecDepth 100000 in
theorem k_onlyPM (b : Nat) (T : TagM) (w : World) (hR : RuleAt w b T) (hF : TagMid T) : Keeps w (.func (.func 112) #[.pointer (some ⟨b, 0, none⟩)] #[]) (sameT T (onlyP T)) := by
  intro w5 hb5
  have H := Lib.hid (r_onlyPM b T w5 (hR.below hb5) hF)
  clear hR hF
  generalize (sameT T (onlyP T)) = rr at *
  go_enter Tryz.func124, Tryz.ntmps124
  go_wp2_with (go_at_call 112; (with_reducible refine H.out.mono ?_); rintro e w1 ⟨rfl, hb⟩)
  go_ret
  exact ⟨rfl, hb⟩
set_option maxRecDepth 100000 in
theorem k_someM (b : Nat) (T : TagM) (w : World) (hR : RuleAt w b T) (hF : TagMid T) : Keeps w (.func (.func 113) #[.pointer (some ⟨b, 0, none⟩)] #[]) (decide (0 < T.priv.length)) := by
  intro w5 hb5
  have H := Lib.hid (r_someM b T w5 (hR.below hb5) hF)
  clear hR hF
  generalize (decide (0 < T.priv.length)) = rr at *
  go_enter Tryz.func124, Tryz.ntmps124
  go_wp2_with (go_at_call 113; (with_reducible refine H.out.mono ?_); rintro e w1 ⟨rfl, hb⟩)
  go_ret
  exact ⟨rfl, hb⟩
set_option maxRecDepth 100000 in
theorem k_privatesM (b : Nat) (T : TagM) (w : World) (hR : RuleAt w b T) (hF : TagMid T) : Keeps w (.func (.func 114) #[.pointer (some ⟨b, 0, none⟩)] #[]) (T.priv.all okS) := by
  intro w5 hb5
  have H := Lib.hid (r_privatesM b T w5 (hR.below hb5) hF)
  clear hR hF
  generalize (T.priv.all okS) = rr at *
  go_enter Tryz.func124, Tryz.ntmps124
  go_wp2_with (go_at_call 114; (with_reducible refine H.out.mono ?_); rintro e w1 ⟨rfl, hb⟩)
  go_ret
  exact ⟨rfl, hb⟩
set_option maxRecDepth 100000 in
theorem k_nograndM (b : Nat) (T : TagM) (w : World) (hR : RuleAt w b T) (hF : TagMid T) : Keeps w (.func (.func 115) #[.pointer (some ⟨b, 0, none⟩)] #[]) (decide (T.grand.size = 0)) := by
  intro w5 hb5
  have H := Lib.hid (r_nograndM b T w5 (hR.below hb5) hF)
  clear hR hF
  generalize (decide (T.grand.size = 0)) = rr at *
  go_enter Tryz.func124, Tryz.ntmps124
  go_wp2_with (go_at_call 115; (with_reducible refine H.out.mono ?_); rintro e w1 ⟨rfl, hb⟩)
  go_ret
  exact ⟨rfl, hb⟩
set_option maxRecDepth 100000 in
theorem k_langM (b : Nat) (T : TagM) (w : World) (hR : RuleAt w b T) (hF : TagMid T) : Keeps w (.func (.func 116) #[.pointer (some ⟨b, 0, none⟩)] #[]) (languageS T.lang) := by
  intro w5 hb5
  have H := Lib.hid (r_langM b T w5 (hR.below hb5) hF)
  clear hR hF
  generalize (languageS T.lang) = rr at *
  go_enter Tryz.func124, Tryz.ntmps124
  go_wp2_with (go_at_call 116; (with_reducible refine H.out.mono ?_); rintro e w1 ⟨rfl, hb⟩)
  go_ret
  exact ⟨rfl, hb⟩
set_option maxRecDepth 100000 in
theorem k_extlM (b : Nat) (T : TagM) (w : World) (hR : RuleAt w b T) (hF : TagMid T) : Keeps w (.func (.func 117) #[.pointer (some ⟨b, 0, none⟩)] #[]) (extlB T) := by
  intro w5 hb5
  have H := Lib.hid (r_extlM b T w5 (hR.below hb5) hF)
  clear hR hF
  generalize (extlB T) = rr at *
  go_enter Tryz.func124, Tryz.ntmps124
  go_wp2_with (go_at_call 117; (with_reducible refine H.out.mono ?_); rintro e w1 ⟨rfl, hb⟩)
  go_ret
  exact ⟨rfl, hb⟩
set_option maxRecDepth 100000 in
theorem k_scriptM (b : Nat) (T : TagM) (w : World) (hR : RuleAt w b T) (hF : TagMid T) : Keeps w (.func (.func 118) #[.pointer (some ⟨b, 0, none⟩)] #[]) (decide (T.script.size = 0) || scriptS T.script) := by
  intro w5 hb5
  have H := Lib.hid (r_scriptM b T w5 (hR.below hb5) hF)
  clear hR hF
  generalize (decide (T.script.size = 0) || scriptS T.script) = rr at *
  go_enter Tryz.func124, Tryz.ntmps124
  go_wp2_with (go_at_call 118; (with_reducible refine H.out.mono ?_); rintro e w1 ⟨rfl, hb⟩)
  go_ret
  exact ⟨rfl, hb⟩
set_option maxRecDepth 100000 in
theorem k_regionM (b : Nat) (T : TagM) (w : World) (hR : RuleAt w b T) (hF : TagMid T) : Keeps w (.func (.func 119) #[.pointer (some ⟨b, 0, none⟩)] #[]) (decide (T.region.size = 0) || regionS T.region) := by
  intro w5 hb5
  have H := Lib.hid (r_regionM b T w5 (hR.below hb5) hF)
  clear hR hF
  generalize (decide (T.region.size = 0) || regionS T.region) = rr at *
  go_enter Tryz.func124, Tryz.ntmps124
  go_wp2_with (go_at_call 119; (with_reducible refine H.out.mono ?_); rintro e w1 ⟨rfl, hb⟩)
  go_ret
  exact ⟨rfl, hb⟩
set_option maxRecDepth 100000 in
theorem k_varsM (b : Nat) (T : TagM) (w : World) (hR : RuleAt w b T) (hF : TagMid T) : Keeps w (.func (.func 120) #[.pointer (some ⟨b, 0, none⟩)] #[]) (T.vars.all variantS && decide (Maps.size (setD T.vars) = T.vars.length)) := by
  intro w5 hb5
  have H := Lib.hid (r_varsM b T w5 (hR.below hb5) hF)
  clear hR hF
  generalize (T.vars.all variantS && decide (Maps.size (setD T.vars) = T.vars.length)) = rr at *
  go_enter Tryz.func124, Tryz.ntmps124
  go_wp2_with (go_at_call 120; (with_reducible refine H.out.mono ?_); rintro e w1 ⟨rfl, hb⟩)
  go_ret
  exact ⟨rfl, hb⟩
set_option maxRecDepth 100000 in
theorem k_extsM (b : Nat) (T : TagM) (w : World) (hR : RuleAt w b T) (hF : TagMid T) : Keeps w (.func (.func 121) #[.pointer (some ⟨b, 0, none⟩)] #[]) (extsB T) := by
  intro w5 hb5
  have H := Lib.hid (r_extsM b T w5 (hR.below hb5) hF)
  clear hR hF
  generalize (extsB T) = rr at *
  go_enter Tryz.func124, Tryz.ntmps124
  go_wp2_with (go_at_call 121; (with_reducible refine H.out.mono ?_); rintro e w1 ⟨rfl, hb⟩)
  go_ret
  exact ⟨rfl, hb⟩
set_option maxRecDepth 100000 in
theorem k_notgrandM (b : Nat) (T : TagM) (w : World) (hR : RuleAt w b T) (hF : TagMid T) (hg : GL w) : Keeps w (.func (.func 122) #[.pointer (some ⟨b, 0, none⟩)] #[]) (!(findV (joinS (subtagsT T))).isSome) := by
  intro w5 hb5
  have H := Lib.hid (r_notgrandM b T w5 (hR.below hb5) hF (hg.below hb5 hg.size))
  clear hR hF hg
  generalize (!(findV (joinS (subtagsT T))).isSome) = rr at *
  go_enter Tryz.func124, Tryz.ntmps124
  go_wp2_with (go_at_call 122; (with_reducible refine H.out.mono ?_); rintro e w1 ⟨rfl, hb⟩)
  go_ret
  exact ⟨rfl, hb⟩
def mk1M (b : Nat) (T : TagM) : List (Value × Bool) := [(.func (.func 110) #[.pointer (some ⟨b, 0, none⟩)] #[], sameT T (onlyG T)), (.func (.func 111) #[.pointer (some ⟨b, 0, none⟩)] #[], (findV T.grand).isSome)]
def mk2M (b : Nat) (T : TagM) : List (Value × Bool) := [(.func (.func 112) #[.pointer (some ⟨b, 0, none⟩)] #[], sameT T (onlyP T)), (.func (.func 113) #[.pointer (some ⟨b, 0, none⟩)] #[], decide (0 < T.priv.length)), (.func (.func 114) #[.pointer (some ⟨b, 0, none⟩)] #[], T.priv.all okS)]
def mk3M (b : Nat) (T : TagM) : List (Value × Bool) := [(.func (.func 115) #[.pointer (some ⟨b, 0, none⟩)] #[], decide (T.grand.size = 0)), (.func (.func 116) #[.pointer (some ⟨b, 0, none⟩)] #[], languageS T.lang), (.func (.func 117) #[.pointer (some ⟨b, 0, none⟩)] #[], extlB T), (.func (.func 118) #[.pointer (some ⟨b, 0, none⟩)] #[], decide (T.script.size = 0) || scriptS T.script), (.func (.func 119) #[.pointer (some ⟨b, 0, none⟩)] #[], decide (T.region.size = 0) || regionS T.region), (.func (.func 120) #[.pointer (some ⟨b, 0, none⟩)] #[], T.vars.all variantS && decide (Maps.size (setD T.vars) = T.vars.length)), (.func (.func 121) #[.pointer (some ⟨b, 0, none⟩)] #[], extsB T), (.func (.func 114) #[.pointer (some ⟨b, 0, none⟩)] #[], T.priv.all okS), (.func (.func 122) #[.pointer (some ⟨b, 0, none⟩)] #[], !(findV (joinS (subtagsT T))).isSome)]
theorem mk1_keepsM (b : Nat) (T : TagM) (w : World) (hR : RuleAt w b T) (hF : TagMid T) (hg : GL w) : ∀ x ∈ mk1M b T, Keeps w x.1 x.2 := by
  intro x hx
  unfold mk1M at hx
  simp only [List.mem_cons, List.not_mem_nil, or_false] at hx
  rcases hx with rfl | rfl
  · exact k_onlyGM b T w hR hF
  · exact k_grandM b T w hR hF hg
theorem mk2_keepsM (b : Nat) (T : TagM) (w : World) (hR : RuleAt w b T) (hF : TagMid T) : ∀ x ∈ mk2M b T, Keeps w x.1 x.2 := by
  intro x hx
  unfold mk2M at hx
  simp only [List.mem_cons, List.not_mem_nil, or_false] at hx
  rcases hx with rfl | rfl | rfl
  · exact k_onlyPM b T w hR hF
  · exact k_someM b T w hR hF
  · exact k_privatesM b T w hR hF
theorem mk3_keepsM (b : Nat) (T : TagM) (w : World) (hR : RuleAt w b T) (hF : TagMid T) (hg : GL w) : ∀ x ∈ mk3M b T, Keeps w x.1 x.2 := by
  intro x hx
  unfold mk3M at hx
  simp only [List.mem_cons, List.not_mem_nil, or_false] at hx
  rcases hx with rfl | rfl | rfl | rfl | rfl | rfl | rfl | rfl | rfl
  · exact k_nograndM b T w hR hF
  · exact k_langM b T w hR hF
  · exact k_extlM b T w hR hF
  · exact k_scriptM b T w hR hF
  · exact k_regionM b T w hR hF
  · exact k_varsM b T w hR hF
  · exact k_extsM b T w hR hF
  · exact k_privatesM b T w hR hF
  · exact k_notgrandM b T w hR hF hg
set_option maxRecDepth 100000 in
set_option maxHeartbeats 4000000 in
theorem makes_ownM (b : Nat) (w : World) :
    Calls Tryz.prog 85 #[.pointer (some ⟨b, 0, none⟩)] w fun e w' => e = .returned (.slice (some ⟨w.heap.size + 3, 0, none⟩) 3 3) ∧
      w' = (((w.alloc (.cells #[.func (.func 110) #[.pointer (some ⟨b, 0, none⟩)] #[], .func (.func 111) #[.pointer (some ⟨b, 0, none⟩)] #[]] 146)).alloc (.cells #[.func (.func 112) #[.pointer (some ⟨b, 0, none⟩)] #[], .func (.func 113) #[.pointer (some ⟨b, 0, none⟩)] #[], .func (.func 114) #[.pointer (some ⟨b, 0, none⟩)] #[]] 146)).alloc (.cells #[.func (.func 115) #[.pointer (some ⟨b, 0, none⟩)] #[], .func (.func 116) #[.pointer (some ⟨b, 0, none⟩)] #[], .func (.func 117) #[.pointer (some ⟨b, 0, none⟩)] #[], .func (.func 118) #[.pointer (some ⟨b, 0, none⟩)] #[], .func (.func 119) #[.pointer (some ⟨b, 0, none⟩)] #[], .func (.func 120) #[.pointer (some ⟨b, 0, none⟩)] #[], .func (.func 121) #[.pointer (some ⟨b, 0, none⟩)] #[], .func (.func 114) #[.pointer (some ⟨b, 0, none⟩)] #[], .func (.func 122) #[.pointer (some ⟨b, 0, none⟩)] #[]] 146)).alloc (.cells #[.slice (some ⟨w.heap.size, 0, none⟩) 2 2, .slice (some ⟨w.heap.size + 1, 0, none⟩) 3 3, .slice (some ⟨w.heap.size + 2, 0, none⟩) 9 9] 126) := by
  have hmf : ∀ (fn : Fn) (first cap : Array Value) (w : World), (Instr.makeFunc fn first cap).run Tryz.prog w = .ok (.func fn first cap) w := fun _ _ _ _ => rfl
  go_enter Tryz.func85, Tryz.ntmps85
  go_wp2_with fail
  go_ret
  exact ⟨rfl, rfl⟩
def rightBM (T : TagM) : Bool := smallBM T && ((mk1M 0 T).all (·.2) || ((mk2M 0 T).all (·.2) || (mk3M 0 T).all (·.2)))
set_option maxRecDepth 100000 in
set_option maxHeartbeats 4000000 in
theorem rightB_ownM (v : Value) (T : TagM) (w : World) (hT : TagIs w v T) (hF : TagMid T) (hg : GL w) :
    Calls Tryz.prog 54 #[v] w fun e w' => e = .returned (.bool (rightBM T)) ∧ Below w.heap.size w w' := by
  have hT' := hT
  obtain ⟨ve, vv, vx, vp, rfl, R1, R2, R3, R4⟩ := hT
  obtain ⟨a1, p1, rfl, -⟩ := R1
  obtain ⟨a2, p2, rfl, -⟩ := R2
  obtain ⟨a3, p3, rfl, -⟩ := R3
  obtain ⟨a4, p4, rfl, -⟩ := R4
  obtain ⟨W0, hW0⟩ : ∃ W0, (w.alloc (.cells #[.string T.lang, .slice a1 T.extl.length p1, .string T.script, .string T.region, .slice a2 T.vars.length p2, .slice a3 T.exts.length p3, .slice a4 T.priv.length p4, .string T.grand] 31)).alloc (.cells #[.string T.lang, .slice a1 T.extl.length p1, .string T.script, .string T.region, .slice a2 T.vars.length p2, .slice a3 T.exts.length p3, .slice a4 T.priv.length p4, .string T.grand] 123) = W0 := ⟨_, rfl⟩
  have hb0 : Below w.heap.size w W0 := by rw [← hW0]; exact ((Below.refl _ w).alloc (Nat.le_refl _) _).alloc (by simp) _
  have hR0 : RuleAt W0 (w.heap.size + 1) T := ⟨a1, p1, a2, p2, a3, p3, a4, p4, by rw [← hW0]; exact heap_alloc2_new w _ _, hT'.below hb0⟩
  have hg0 := hg.below hb0 hg.size
  have SM := Lib.hid (r_smallM (w.heap.size + 1) T W0 hR0 hF)
  have MK := Lib.hid (fun w5 => makes_ownM (w.heap.size + 1) w5)
  have HR0 := Lib.hid hR0
  have HG0 := Lib.hid hg0
  have HB0 := Lib.hid hb0
  have HF := Lib.hid hF
  have HRB := Lib.hid (show rightBM T = (smallBM T && ((mk1M 0 T).all (·.2) || ((mk2M 0 T).all (·.2) || (mk3M 0 T).all (·.2)))) from rfl)
  clear hT' hR0 hg0 hb0 hF hg
  go_enter Tryz.func54, Tryz.ntmps54
  go_upto_region 2 with fail
  clear hW0
  cases hs : smallBM T with
  | false =>
    rw [hs] at SM
    have HE := Lib.hid (show rightBM T = false by rw [HRB.out, hs]; rfl)
    clear hs
    go_wp2_with (go_at_call 83; (with_reducible refine SM.out.mono ?_); rintro e w1 ⟨rfl, hb1⟩)
    go_ret
    exact ⟨ret_bool HE.out.symm, HB0.out.trans (hb1.mono HB0.out.size)⟩
  | true =>
    rw [hs] at SM
    have HE := Lib.hid (show rightBM T = ((mk1M 0 T).all (·.2) || ((mk2M 0 T).all (·.2) || (mk3M 0 T).all (·.2))) by rw [HRB.out, hs]; rfl)
    clear hs
    go_wp2_with fail
    refine SM.out.mono ?_
    rintro e w1 ⟨rfl, hb1⟩
    go_wp2_with fail
    refine (MK.out _).mono ?_
    rintro e w2 ⟨rfl, hw2⟩
    obtain ⟨b, hb⟩ : ∃ b, b = w.heap.size + 1 := ⟨_, rfl⟩
    rw [← hb] at hw2 HR0
    clear MK SM
    have hb2 : Below w1.heap.size w1 w2 := by
      rw [hw2]
      exact ((((Below.refl _ w1).alloc (Nat.le_refl _) _).alloc (by simp) _).alloc (by simp <;> omega) _).alloc (by simp <;> omega) _
    have hR2 := (HR0.out.below hb1).below hb2
    have hg2 := (HG0.out.below hb1 HG0.out.size).below hb2 (HG0.out.below hb1 HG0.out.size).size
    have c1 : w2.heap[w1.heap.size]? = some (.cells ((mk1M b T).map (·.1)).toArray 146 (0, 0)) := by
      rw [hw2, Below.heap_alloc _ _ _ (by simp <;> omega), Below.heap_alloc _ _ _ (by simp <;> omega), Below.heap_alloc _ _ _ (by simp)]
      exact World.alloc_heap_new w1 _
    have c2 : w2.heap[w1.heap.size + 1]? = some (.cells ((mk2M b T).map (·.1)).toArray 146 (0, 0)) := by
      rw [hw2, Below.heap_alloc _ _ _ (by simp <;> omega), Below.heap_alloc _ _ _ (by simp)]
      exact heap_alloc2_new w1 _ _
    have c3 : w2.heap[w1.heap.size + 2]? = some (.cells ((mk3M b T).map (·.1)).toArray 146 (0, 0)) := by
      rw [hw2, Below.heap_alloc _ _ _ (by simp)]
      have := World.alloc_heap_new ((w1.alloc (.cells ((mk1M b T).map (·.1)).toArray 146)).alloc (.cells ((mk2M b T).map (·.1)).toArray 146)) (.cells ((mk3M b T).map (·.1)).toArray 146)
      rw [World.size_alloc, World.size_alloc] at this
      exact this
    have c4 : w2.heap[w1.heap.size + 3]? = some (.cells #[.slice (some ⟨w1.heap.size, 0, none⟩) 2 2, .slice (some ⟨w1.heap.size + 1, 0, none⟩) 3 3, .slice (some ⟨w1.heap.size + 2, 0, none⟩) 9 9] 126 (0, 0)) := by
      rw [hw2]
      have := World.alloc_heap_new (((w1.alloc (.cells ((mk1M b T).map (·.1)).toArray 146)).alloc (.cells ((mk2M b T).map (·.1)).toArray 146)).alloc (.cells ((mk3M b T).map (·.1)).toArray 146)) (.cells #[.slice (some ⟨w1.heap.size, 0, none⟩) 2 2, .slice (some ⟨w1.heap.size + 1, 0, none⟩) 3 3, .slice (some ⟨w1.heap.size + 2, 0, none⟩) 9 9] 126)
      rw [World.size_alloc, World.size_alloc, World.size_alloc] at this
      exact this
    have fr : ∀ (g : Nat) (L : List (Value × Bool)) (t : TypeId) (cap : Nat), w2.heap[g]? = some (.cells (L.map (·.1)).toArray t (0, 0)) → FRow w2 (.slice (some ⟨g, 0, none⟩) L.length cap) L := fun g L t cap h =>
      ⟨_, _, rfl, fun i x hx => ⟨g, rfl, cell_row2 i h (by rw [List.getElem?_toArray, List.getElem?_map, hx]; rfl)⟩⟩
    have hLL : FRow w2 (.slice (some ⟨w1.heap.size + 3, 0, none⟩) 3 3) [(.slice (some ⟨w1.heap.size, 0, none⟩) 2 2, (mk1M b T).all (·.2)), (.slice (some ⟨w1.heap.size + 1, 0, none⟩) 3 3, (mk2M b T).all (·.2)), (.slice (some ⟨w1.heap.size + 2, 0, none⟩) 9 9, (mk3M b T).all (·.2))] := fr _ [(.slice (some ⟨w1.heap.size, 0, none⟩) 2 2, (mk1M b T).all (·.2)), (.slice (some ⟨w1.heap.size + 1, 0, none⟩) 3 3, (mk2M b T).all (·.2)), (.slice (some ⟨w1.heap.size + 2, 0, none⟩) 9 9, (mk3M b T).all (·.2))] _ _ c4
    have K1 : KeepsAll w2 (.slice (some ⟨w1.heap.size, 0, none⟩) 2 2) ((mk1M b T).all (·.2)) := allKept_any _ (mk1M b T) w2 (fr _ (mk1M b T) _ 2 c1) (show (2 : Nat) ≤ 1048576 by decide) (mk1_keepsM b T w2 hR2 HF.out hg2)
    have K2 : KeepsAll w2 (.slice (some ⟨w1.heap.size + 1, 0, none⟩) 3 3) ((mk2M b T).all (·.2)) := allKept_any _ (mk2M b T) w2 (fr _ (mk2M b T) _ 3 c2) (show (3 : Nat) ≤ 1048576 by decide) (mk2_keepsM b T w2 hR2 HF.out)
    have K3 : KeepsAll w2 (.slice (some ⟨w1.heap.size + 2, 0, none⟩) 9 9) ((mk3M b T).all (·.2)) := allKept_any _ (mk3M b T) w2 (fr _ (mk3M b T) _ 9 c3) (show (9 : Nat) ≤ 1048576 by decide) (mk3_keepsM b T w2 hR2 HF.out hg2)
    have CR := Lib.hid (containsRow_any _ _ w2 hLL (by simp) (fun x hx => by
      simp only [List.mem_cons, List.not_mem_nil, or_false] at hx
      rcases hx with rfl | rfl | rfl
      · exact K1
      · exact K2
      · exact K3))
    have HB2 := Lib.hid ((HB0.out.trans (hb1.mono HB0.out.size)).trans (hb2.mono (HB0.out.trans (hb1.mono HB0.out.size)).size))
    have HE2 := Lib.hid (show rightBM T = List.any [((.slice (some ⟨w1.heap.size, 0, none⟩) 2 2 : Value), (mk1M b T).all (·.2)), (.slice (some ⟨w1.heap.size + 1, 0, none⟩) 3 3, (mk2M b T).all (·.2)), (.slice (some ⟨w1.heap.size + 2, 0, none⟩) 9 9, (mk3M b T).all (·.2))] (fun x => x.2) by
      rw [HE.out]
      simp only [List.any_cons, List.any_nil, Bool.or_false]
      rfl)
    generalize (List.any [((.slice (some ⟨w1.heap.size, 0, none⟩) 2 2 : Value), (mk1M b T).all (·.2)), (.slice (some ⟨w1.heap.size + 1, 0, none⟩) 3 3, (mk2M b T).all (·.2)), (.slice (some ⟨w1.heap.size + 2, 0, none⟩) 9 9, (mk3M b T).all (·.2))] (fun x => x.2)) = rb at *
    clear hw2 hb2 hR2 hg2 c1 c2 c3 c4 fr hLL K1 K2 K3 hb hb1
    go_wp2_with fail
    refine CR.out.mono ?_
    rintro e w3 ⟨rfl, hb3⟩
    go_wp2_with fail
    go_ret
    exact ⟨ret_bool HE2.out.symm, HB2.out.trans (hb3.mono HB2.out.size)⟩
theorem eachN_andM {α : Type} (p : α → Bool) (q : List α → α → Bool) (l : List α) : ∀ n, n ≤ l.length → eachN (fun pre x => p x && q pre x) l n = ((l.take n).all p && eachN q l n)
  | 0, _ => by simp [eachN]
  | n + 1, h => by
    obtain ⟨x, hx⟩ : ∃ x, l[n]? = some x := ⟨_, List.getElem?_eq_getElem (by omega)⟩
    have ih := eachN_andM p q l n (by omega)
    have e : ∀ r : List α → α → Bool, eachN r l (n + 1) = (eachN r l n && r (l.take n) x) := fun r => by
      unfold eachN
      rw [List.range_succ, List.all_append]
      simp [hx]
    rw [e, e, ih, take_next hx, List.all_append]
    simp only [List.all_cons, List.all_nil, Bool.and_true]
    cases (l.take n).all p <;> cases eachN q l n <;> cases p x <;> simp
theorem full_eachM (l : List ByteArray) : decide (Maps.size (setD l) = l.length) = eachN diffT l l.length := by
  rw [size_full]
  unfold eachN
  congr 1
  funext i
  cases l[i]? <;> rfl
theorem vars_twoM (l : List ByteArray) : eachN pV l l.length = (l.all variantS && decide (Maps.size (setD l) = l.length)) := by
  have h := eachN_andM variantS diffT l l.length (Nat.le_refl _)
  rw [List.take_of_length_le (Nat.le_refl _)] at h
  rw [full_eachM]
  exact h
theorem key_mapM (pre : List (ByteArray × List ByteArray)) (k : ByteArray) : keyT pre k = diffT (pre.map (·.1)) k := by
  unfold keyT diffT
  rw [List.all_map]
  rfl
theorem exts_twoM (T : TagM) : eachN pE T.exts T.exts.length = extsB T := by
  have h := eachN_andM pX (fun pre x => keyT pre x.1) T.exts T.exts.length (Nat.le_refl _)
  rw [List.take_of_length_le (Nat.le_refl _)] at h
  have hp : pE = fun pre x => pX x && keyT pre x.1 := by
    funext pre x
    unfold pE pX subsT
    cases singletonS x.1 <;> cases keyT pre x.1 <;> cases (x.2.all fun s => okS s && decide (2 ≤ s.size)) <;> simp
  rw [hp, h]
  unfold extsB
  rw [size_full]
  congr 1
  unfold eachN keysT
  rw [List.length_map, Bool.eq_iff_iff, List.all_eq_true, List.all_eq_true]
  refine forall_congr' fun i => forall_congr' fun _ => ?_
  rw [List.getElem?_map]
  cases T.exts[i]? with
  | none => simp
  | some x => simp only [Option.map_some]; rw [key_mapM, List.map_take]
theorem ok_posM {s : ByteArray} (h : okS s = true) : 1 ≤ s.size := by
  rw [← sizedB_sub] at h
  unfold sizedB at h
  simp at h
  omega
theorem subs_oneM (l : List ByteArray) : subsT l 1 = l.all okS := by
  unfold subsT
  congr 1
  funext x
  cases h : okS x with
  | false => rfl
  | true => simp [ok_posM h]
theorem find_zeroM : findV ByteArray.empty = none := by
  cases h : findV ByteArray.empty with
  | none => rfl
  | some k =>
    have hk := findV_lt h
    have e := (findV_iff _ k hk).1 h
    have := (name_size k hk).1
    rw [← e, size_lowS] at this
    simp at this
theorem low_emptyM : ByteArray.empty = lowS ByteArray.empty := rfl
theorem size_zero_iffM {s : ByteArray} : s.size = 0 ↔ s = ByteArray.empty := by
  constructor
  · intro h
    apply ofL_ext
    exact List.eq_nil_of_length_eq_zero (by rw [size_bs]; exact h)
  · rintro rfl; rfl
theorem lowT_iffM (l : List ByteArray) : lowT l = true ↔ ∀ x ∈ l, x = lowS x := by unfold lowT; rw [List.all_eq_true]; simp
theorem lowL_appendM (a b : List UInt8) : (a ++ b).map lowB = a ++ b ↔ a.map lowB = a ∧ b.map lowB = b := by
  rw [List.map_append]
  constructor
  · intro h
    have h1 := congrArg (List.take a.length) h
    have h2 := congrArg (List.drop a.length) h
    rw [List.take_left' (by simp), List.take_left' rfl] at h1
    rw [List.drop_left' (by simp), List.drop_left' rfl] at h2
    exact ⟨h1, h2⟩
  · rintro ⟨h1, h2⟩; rw [h1, h2]
theorem low_iffM (s : ByteArray) : s = lowS s ↔ (bs s).map lowB = bs s := by
  constructor
  · intro h; rw [← low_bs, ← h]
  · intro h; apply ofL_ext; rw [low_bs, h]
theorem lowP_iffM : ∀ ps : List (List UInt8), (joinP ps).map lowB = joinP ps ↔ ∀ p ∈ ps, p.map lowB = p
  | [] => by simp [joinP_nil]
  | [p] => by simp [joinP_one]
  | p :: q :: r => by
    rw [joinP_cons p (by simp), lowL_appendM, show (45 :: joinP (q :: r)) = [45] ++ joinP (q :: r) from rfl, lowL_appendM, lowP_iffM (q :: r)]
    have h45 : ([45] : List UInt8).map lowB = [45] := by decide
    simp [h45]
theorem low_joinM (l : List ByteArray) : lowT l = decide (joinS l = lowS (joinS l)) := by
  rw [Bool.eq_iff_iff, lowT_iffM, decide_eq_true_iff, low_iffM]
  unfold joinS
  rw [bs_ofL, lowP_iffM]
  constructor
  · intro h p hp
    obtain ⟨x, hx, rfl⟩ := List.mem_map.1 hp
    exact (low_iffM x).1 (h x hx)
  · intro h x hx
    exact (low_iffM x).2 (h _ (List.mem_map.2 ⟨x, hx, rfl⟩))
theorem low_splitM (s : ByteArray) : lowT (splS s) = decide (s = lowS s) := by rw [low_joinM, join_split]
theorem len_zeroM {α : Type} (l : List α) : decide (l.length = 0) = l.isEmpty := by cases l <;> simp
theorem sameT_iffM (A B : TagM) : sameT A B = true ↔ A = B := by
  rw [sameT_order]
  simp only [Bool.and_eq_true, decide_eq_true_iff]
  constructor
  · rintro ⟨h1, h2, h3, h4, h5, h6, h7, h8⟩
    cases A; cases B; simp_all
  · rintro rfl; simp
theorem plain_iffM (T : TagM) : plainT T = true ↔ T.lang = ByteArray.empty ∧ T.extl = [] ∧ T.script = ByteArray.empty ∧ T.region = ByteArray.empty ∧ T.vars = [] ∧ T.exts = [] := by
  unfold plainT
  simp only [Bool.and_eq_true, decide_eq_true_iff, size_zero_iffM, List.length_eq_zero_iff]
theorem mk1_allM (T : TagM) : (mk1M 0 T).all (·.2) = (sameT T (onlyG T) && (findV T.grand).isSome) := by simp [mk1M]
theorem mk2_allM (T : TagM) : (mk2M 0 T).all (·.2) = (sameT T (onlyP T) && (decide (0 < T.priv.length) && T.priv.all okS)) := by simp [mk2M]
theorem mk3_allM (T : TagM) : (mk3M 0 T).all (·.2) = (decide (T.grand.size = 0) && (languageS T.lang && (extlB T && ((decide (T.script.size = 0) || scriptS T.script) && ((decide (T.region.size = 0) || regionS T.region) && ((T.vars.all variantS && decide (Maps.size (setD T.vars) = T.vars.length)) && (extsB T && (T.priv.all okS && !(findV (joinS (subtagsT T))).isSome)))))))) := by
  unfold mk3M
  simp only [List.all_cons, List.all_nil, Bool.and_true]
theorem language_posM {s : ByteArray} (h : s.size = 0) : languageS s = false := by
  unfold languageS lettersS
  simp [h]
theorem small_ofM (T : TagM) (h : T.grand.size = 0) : smallT T = smallBM T := by
  have hg : T.grand = ByteArray.empty := size_zero_iffM.1 h
  unfold smallT smallBM
  rw [hg, decide_eq_true low_emptyM, Bool.and_true]
  have e : lowT (subtagsT T ++ [T.lang, T.script, T.region]) = lowT (subtagsT T) := by
    rw [Bool.eq_iff_iff, lowT_iffM, lowT_iffM]
    constructor
    · exact fun h x hx => h x (List.mem_append_left _ hx)
    · intro h1 x hx
      rcases List.mem_append.1 hx with hx | hx
      · exact h1 x hx
      · have one : ∀ s : ByteArray, (∀ y ∈ oneT s, y ∈ subtagsT T) → s = lowS s := fun s hs => by
          by_cases h0 : s.size = 0
          · rw [size_zero_iffM.1 h0]; exact low_emptyM
          · exact h1 s (hs s (by unfold oneT; rw [if_neg h0]; simp))
        have hsub : subtagsT T = oneT T.lang ++ T.extl ++ oneT T.script ++ oneT T.region ++ T.vars ++ T.exts.flatMap extT ++ privT T.priv := by unfold subtagsT; rw [if_pos h]
        simp only [List.mem_cons, List.not_mem_nil, or_false] at hx
        rcases hx with rfl | rfl | rfl
        · exact one _ fun y hy => by rw [hsub]; simp [hy]
        · exact one _ fun y hy => by rw [hsub]; simp [hy]
        · exact one _ fun y hy => by rw [hsub]; simp [hy]
  exact e
theorem right_twoM (T : TagM) : rightBM T = rightT T := by
  unfold rightBM rightT
  rw [mk1_allM, mk2_allM, mk3_allM]
  by_cases hg : T.grand.size = 0
  · rw [small_ofM T hg, if_pos hg, decide_eq_true hg, Bool.true_and]
    have hge : T.grand = ByteArray.empty := size_zero_iffM.1 hg
    have h1 : (sameT T (onlyG T) && (findV T.grand).isSome) = false := by rw [hge, find_zeroM]; simp
    rw [h1, Bool.false_or]
    congr 1
    by_cases hl : T.lang.size = 0
    · rw [if_pos hl, language_posM hl, Bool.false_and, Bool.or_false, subs_oneM]
      have hs : sameT T (onlyP T) = plainT T := by
        rw [Bool.eq_iff_iff, sameT_iffM, plain_iffM]
        constructor
        · intro e
          rw [e]; exact ⟨rfl, rfl, rfl, rfl, rfl, rfl⟩
        · rintro ⟨e1, e2, e3, e4, e5, e6⟩
          unfold onlyP
          cases T
          simp_all
      rw [hs]
    · rw [if_neg hl]
      have h2 : sameT T (onlyP T) = false := by
        cases h : sameT T (onlyP T) with
        | false => rfl
        | true =>
          rw [sameT_iffM] at h
          exact absurd (by rw [h]; rfl) hl
      rw [h2, Bool.false_and, Bool.false_or]
      unfold wholeT rowsT
      rw [vars_twoM, exts_twoM, subs_oneM]
      have he : extlB T = ((decide (T.extl.length ≤ 3) && !(decide (0 < T.extl.length) && decide (3 < T.lang.size))) && T.extl.all extlangS) := by
        unfold extlB
        by_cases h0 : T.extl.length = 0
        · rw [if_pos h0, List.eq_nil_of_length_eq_zero h0]; simp
        · rw [if_neg h0]
          have a1 : decide (0 < T.extl.length) = true := decide_eq_true (by omega)
          have a2 : (!decide (3 < T.lang.size)) = decide (T.lang.size ≤ 3) := by
            by_cases h3 : 3 < T.lang.size
            · rw [decide_eq_true h3, decide_eq_false (by omega)]; rfl
            · rw [decide_eq_false h3, decide_eq_true (by omega)]; rfl
          rw [a1, Bool.true_and, a2, Bool.and_assoc]
      rw [he, ← Option.not_isSome]
      generalize decide (T.extl.length ≤ 3) = b1
      generalize (!(decide (0 < T.extl.length) && decide (3 < T.lang.size))) = b2
      generalize T.extl.all extlangS = b3
      generalize languageS T.lang = b4
      generalize (decide (T.script.size = 0) || scriptS T.script) = b5
      generalize (decide (T.region.size = 0) || regionS T.region) = b6
      generalize (T.vars.all variantS && decide (Maps.size (setD T.vars) = T.vars.length)) = b7
      generalize extsB T = b8
      generalize T.priv.all okS = b9
      generalize (!(findV (joinS (subtagsT T))).isSome) = b10
      cases b1 <;> cases b2 <;> cases b3 <;> cases b4 <;> cases b5 <;> cases b6 <;> cases b7 <;> cases b8 <;> simp
  · rw [if_neg hg, decide_eq_false hg, Bool.false_and, Bool.or_false]
    have h2 : sameT T (onlyP T) = false := by
      cases h : sameT T (onlyP T) with
      | false => rfl
      | true =>
        rw [sameT_iffM] at h
        exact absurd (by rw [h]; rfl) hg
    rw [h2, Bool.false_and, Bool.or_false]
    have hs : sameT T (onlyG T) = (plainT T && decide (T.priv.length = 0)) := by
      rw [Bool.eq_iff_iff, sameT_iffM, Bool.and_eq_true, plain_iffM, decide_eq_true_iff]
      constructor
      · intro e
        rw [e]; exact ⟨⟨rfl, rfl, rfl, rfl, rfl, rfl⟩, rfl⟩
      · rintro ⟨⟨e1, e2, e3, e4, e5, e6⟩, e7⟩
        have e7 := List.eq_nil_of_length_eq_zero e7
        unfold onlyG
        cases T
        simp_all
    rw [hs, Bool.and_assoc]
    cases hp : plainT T with
    | false => simp
    | true =>
      obtain ⟨e1, e2, e3, e4, e5, e6⟩ := (plain_iffM T).1 hp
      have hsub : subtagsT T = splS T.grand := by unfold subtagsT; rw [if_neg hg]
      have a1 : smallBM T = decide (T.grand = lowS T.grand) := by
        rw [← low_splitM, ← hsub]; rfl
      have a2 : smallT T = decide (T.grand = lowS T.grand) := by
        unfold smallT
        have : lowT (subtagsT T ++ [T.lang, T.script, T.region]) = lowT (subtagsT T) := by
          rw [Bool.eq_iff_iff, lowT_iffM, lowT_iffM, e1, e3, e4]
          constructor
          · exact fun h x hx => h x (List.mem_append_left _ hx)
          · intro h x hx
            rcases List.mem_append.1 hx with hx | hx
            · exact h x hx
            · simp only [List.mem_cons, List.not_mem_nil, or_false, or_self] at hx
              rw [hx]; exact low_emptyM
        rw [this, hsub, low_splitM, Bool.and_self]
      rw [a1, a2]
theorem right_ownM (v : Value) (T : TagM) (w : World) (hT : TagIs w v T) (hF : TagMid T) (hg : GL w) :
    Calls Tryz.prog 54 #[v] w fun e w' => e = .returned (.bool (rightT T)) ∧ Below w.heap.size w w' := by
  rw [← right_twoM]
  exact rightB_ownM v T w hT hF hg
end Go.Proofs.YtggfdmhfcpabdaaGreatDoor
