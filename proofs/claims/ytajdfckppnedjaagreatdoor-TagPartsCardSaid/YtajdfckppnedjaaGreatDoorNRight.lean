/-
  Package tag: Right. Package tag: Right, against the words. What is right, told in two ways: mathematics alone.
-/
import Derived.Test.YtajdfckppnedjaaGreatDoorNRules
import Derived.Test.YtajdfckppnedjaaGreatDoorNRow
import Derived.Test.YtajdfckppnedjaaGreatDoorLSubtags
import Derived.Test.YtajdfckppnedjaaGreatDoorDJoin
import Derived.Test.YtajdfckppnedjaaGreatDoorPieceR
import Derived.Test.YtajdfckppnedjaaGreatDoorFRight
/-! Package tag: Right. -/
namespace Go.Proofs.YtajdfckppnedjaaGreatDoor
open Go Go.RowKit

def smallB (T : TagM) : Bool := (subtagsT T).all fun s => decide (s = lowS s)
set_option maxRecDepth 100000 in
set_option maxHeartbeats 4000000 in
theorem r_small (b : Nat) (T : TagM) (w : World) (hR : RuleAt w b T) (hF : TagTiny T) :
    Calls Tryz.prog 51 #[.pointer (some ⟨b, 0, none⟩)] w fun e w' => e = .returned (.bool (smallB T)) ∧ Below w.heap.size w w' := by
  obtain ⟨a1, p1, a2, p2, a3, p3, a4, p4, hh, hT⟩ := hR
  have SU := Lib.hid ((subtags_own _ T w hT hF.fits).mono (R' := fun e w7 => ∃ u, e = .returned u ∧ Row w7 u (subtagsT T) ∧ Below w.heap.size w w7) fun e w7 ⟨u, p, q, r⟩ => ⟨u, p, Row.of_own q, r⟩)
  obtain ⟨q0, q1, q2, q3, q4, q5, q6, q7⟩ := tag_cells hh
  have EV := Lib.hid (fun w6 u (hr : Row w6 u (subtagsT T)) => every_any 92 u (subtagsT T) (fun s => decide (s = lowS s)) w6 hr (by have := tiny_len hF; omega) (asks_of _ _ _ _ (Go.Proofs.enters_of Tryz.func92 (by kernel_rfl) rfl) fun x hx w7 => smallOne_own x w7 (by have := tiny_sizes hF x hx; omega)))
  have HE := Lib.hid (show smallB T = (subtagsT T).all (fun s => decide (s = lowS s)) from rfl)
  generalize ((subtagsT T).all fun s => decide (s = lowS s)) = lb at *
  clear hh hT hF
  go_enter Tryz.func51, Tryz.ntmps51
  go_wp2_with (first | (go_at_call 17; (with_reducible refine SU.out.mono ?_); rintro e w1 ⟨u, rfl, hr, hb1⟩; have hu := hr; obtain ⟨j1, j2, rfl, -⟩ := hu; have HR1 := Lib.hid hr; clear hr) | (go_at_call 91; (with_reducible refine (EV.out _ _ HR1.out).mono ?_); rintro e w2 ⟨rfl, hb2⟩))
  go_ret
  exact ⟨ret_bool HE.out.symm, hb1.trans (hb2.mono hb1.size)⟩

theorem join_own (u : Value) (l : List ByteArray) (w : World) (base : Nat) (h : w.ownsRow base 9 1 u l.length (strs l)) (hl : l.length ≤ 1000) (hs : ∀ x ∈ l, x.size ≤ 100) :
    Calls Tryz.prog 158 #[u] w fun e w' => e = .returned (.string (joinS l)) ∧ Below w.heap.size w w' := by
  rcases owned_cases h with ⟨rfl, h0⟩ | ⟨g, cap, rfl⟩
  · obtain rfl : l = [] := List.eq_nil_of_length_eq_zero h0
    exact (join_none w).mono fun e w' ⟨p, q⟩ => ⟨p, by rw [← q]; exact Below.refl _ _⟩
  · exact join_row w rfl (own_cap h) (by omega) (h.lt g rfl).2 (own_cell h) (by have := joinS_size 100 l hs; omega)
set_option maxRecDepth 100000 in
set_option maxHeartbeats 4000000 in
theorem r_notgrand (b : Nat) (T : TagM) (w : World) (hR : RuleAt w b T) (hF : TagTiny T) (hg : GL w) :
    Calls Tryz.prog 106 #[.pointer (some ⟨b, 0, none⟩)] w fun e w' => e = .returned (.bool (!(findV (joinS (subtagsT T))).isSome)) ∧ Below w.heap.size w w' := by
  obtain ⟨a1, p1, a2, p2, a3, p3, a4, p4, hh, hT⟩ := hR
  have SU := Lib.hid (subtags_own _ T w hT hF.fits)
  obtain ⟨q0, q1, q2, q3, q4, q5, q6, q7⟩ := tag_cells hh
  have JN := Lib.hid (fun w6 u (hr : w6.ownsRow w.heap.size 9 1 u (subtagsT T).length (strs (subtagsT T))) => join_own u (subtagsT T) w6 w.heap.size hr (by have := tiny_len hF; omega) (tiny_sizes hF))
  have HJ := Lib.hid (show (joinS (subtagsT T)).size ≤ maxLen by have := joinS_size 100 (subtagsT T) (tiny_sizes hF); have := tiny_len hF; unfold maxLen; omega)
  have OL := Lib.hid (fun w6 (hb : Below w.heap.size w w6) => old_own (joinS (subtagsT T)) w6 HJ.out (hg.below hb hg.size))
  generalize (findV (joinS (subtagsT T))).isSome = fb at *
  generalize joinS (subtagsT T) = J at *
  clear hh hT hF hg
  go_enter Tryz.func106, Tryz.ntmps106
  go_wp2_with (first | (go_at_call 17; (with_reducible refine SU.out.mono ?_); rintro e w1 ⟨u, rfl, hr, hb1⟩; have hu := Row.of_own hr; obtain ⟨j1, j2, rfl, -⟩ := hu; have HR1 := Lib.hid hr; clear hr) | (go_at_call 158; (with_reducible refine (JN.out _ _ HR1.out).mono ?_); rintro e w2 ⟨rfl, hb2⟩; have hb3 := hb1.trans (hb2.mono hb1.size)) | (go_at_call 150; (with_reducible refine (OL.out _ hb3).mono ?_); rintro e w4 ⟨rfl, hb4⟩))
  go_ret
  exact ⟨rfl, hb3.trans (hb4.mono hb3.size)⟩
set_option maxRecDepth 100000 in
theorem k_onlyG (b : Nat) (T : TagM) (w : World) (hR : RuleAt w b T) (hF : TagTiny T) : Keeps w (.func (.func 94) #[.pointer (some ⟨b, 0, none⟩)] #[]) (sameT T (onlyG T)) := by
  intro w5 hb5
  have H := Lib.hid (r_onlyG b T w5 (hR.below hb5) hF)
  clear hR hF
  generalize (sameT T (onlyG T)) = rr at *
  go_enter Tryz.func108, Tryz.ntmps108
  go_wp2_with (go_at_call 94; (with_reducible refine H.out.mono ?_); rintro e w1 ⟨rfl, hb⟩)
  go_ret
  exact ⟨rfl, hb⟩
set_option maxRecDepth 100000 in
theorem k_grand (b : Nat) (T : TagM) (w : World) (hR : RuleAt w b T) (hF : TagTiny T) (hg : GL w) : Keeps w (.func (.func 95) #[.pointer (some ⟨b, 0, none⟩)] #[]) ((findV T.grand).isSome) := by
  intro w5 hb5
  have H := Lib.hid (r_grand b T w5 (hR.below hb5) hF (hg.below hb5 hg.size))
  clear hR hF hg
  generalize ((findV T.grand).isSome) = rr at *
  go_enter Tryz.func108, Tryz.ntmps108
  go_wp2_with (go_at_call 95; (with_reducible refine H.out.mono ?_); rintro e w1 ⟨rfl, hb⟩)
  go_ret
  exact ⟨rfl, hb⟩
set_option maxRecDepth 100000 in
theorem k_onlyP (b : Nat) (T : TagM) (w : World) (hR : RuleAt w b T) (hF : TagTiny T) : Keeps w (.func (.func 96) #[.pointer (some ⟨b, 0, none⟩)] #[]) (sameT T (onlyP T)) := by
  intro w5 hb5
  have H := Lib.hid (r_onlyP b T w5 (hR.below hb5) hF)
  clear hR hF
  generalize (sameT T (onlyP T)) = rr at *
  go_enter Tryz.func108, Tryz.ntmps108
  go_wp2_with (go_at_call 96; (with_reducible refine H.out.mono ?_); rintro e w1 ⟨rfl, hb⟩)
  go_ret
  exact ⟨rfl, hb⟩
set_option maxRecDepth 100000 in
theorem k_some (b : Nat) (T : TagM) (w : World) (hR : RuleAt w b T) (hF : TagTiny T) : Keeps w (.func (.func 97) #[.pointer (some ⟨b, 0, none⟩)] #[]) (decide (0 < T.priv.length)) := by
  intro w5 hb5
  have H := Lib.hid (r_some b T w5 (hR.below hb5) hF)
  clear hR hF
  generalize (decide (0 < T.priv.length)) = rr at *
  go_enter Tryz.func108, Tryz.ntmps108
  go_wp2_with (go_at_call 97; (with_reducible refine H.out.mono ?_); rintro e w1 ⟨rfl, hb⟩)
  go_ret
  exact ⟨rfl, hb⟩
set_option maxRecDepth 100000 in
theorem k_privates (b : Nat) (T : TagM) (w : World) (hR : RuleAt w b T) (hF : TagTiny T) : Keeps w (.func (.func 98) #[.pointer (some ⟨b, 0, none⟩)] #[]) (T.priv.all okS) := by
  intro w5 hb5
  have H := Lib.hid (r_privates b T w5 (hR.below hb5) hF)
  clear hR hF
  generalize (T.priv.all okS) = rr at *
  go_enter Tryz.func108, Tryz.ntmps108
  go_wp2_with (go_at_call 98; (with_reducible refine H.out.mono ?_); rintro e w1 ⟨rfl, hb⟩)
  go_ret
  exact ⟨rfl, hb⟩
set_option maxRecDepth 100000 in
theorem k_nogrand (b : Nat) (T : TagM) (w : World) (hR : RuleAt w b T) (hF : TagTiny T) : Keeps w (.func (.func 99) #[.pointer (some ⟨b, 0, none⟩)] #[]) (decide (T.grand.size = 0)) := by
  intro w5 hb5
  have H := Lib.hid (r_nogrand b T w5 (hR.below hb5) hF)
  clear hR hF
  generalize (decide (T.grand.size = 0)) = rr at *
  go_enter Tryz.func108, Tryz.ntmps108
  go_wp2_with (go_at_call 99; (with_reducible refine H.out.mono ?_); rintro e w1 ⟨rfl, hb⟩)
  go_ret
  exact ⟨rfl, hb⟩
set_option maxRecDepth 100000 in
theorem k_lang (b : Nat) (T : TagM) (w : World) (hR : RuleAt w b T) (hF : TagTiny T) : Keeps w (.func (.func 100) #[.pointer (some ⟨b, 0, none⟩)] #[]) (languageS T.lang) := by
  intro w5 hb5
  have H := Lib.hid (r_lang b T w5 (hR.below hb5) hF)
  clear hR hF
  generalize (languageS T.lang) = rr at *
  go_enter Tryz.func108, Tryz.ntmps108
  go_wp2_with (go_at_call 100; (with_reducible refine H.out.mono ?_); rintro e w1 ⟨rfl, hb⟩)
  go_ret
  exact ⟨rfl, hb⟩
set_option maxRecDepth 100000 in
theorem k_extl (b : Nat) (T : TagM) (w : World) (hR : RuleAt w b T) (hF : TagTiny T) : Keeps w (.func (.func 101) #[.pointer (some ⟨b, 0, none⟩)] #[]) (extlB T) := by
  intro w5 hb5
  have H := Lib.hid (r_extl b T w5 (hR.below hb5) hF)
  clear hR hF
  generalize (extlB T) = rr at *
  go_enter Tryz.func108, Tryz.ntmps108
  go_wp2_with (go_at_call 101; (with_reducible refine H.out.mono ?_); rintro e w1 ⟨rfl, hb⟩)
  go_ret
  exact ⟨rfl, hb⟩
set_option maxRecDepth 100000 in
theorem k_script (b : Nat) (T : TagM) (w : World) (hR : RuleAt w b T) (hF : TagTiny T) : Keeps w (.func (.func 102) #[.pointer (some ⟨b, 0, none⟩)] #[]) (decide (T.script.size = 0) || scriptS T.script) := by
  intro w5 hb5
  have H := Lib.hid (r_script b T w5 (hR.below hb5) hF)
  clear hR hF
  generalize (decide (T.script.size = 0) || scriptS T.script) = rr at *
  go_enter Tryz.func108, Tryz.ntmps108
  go_wp2_with (go_at_call 102; (with_reducible refine H.out.mono ?_); rintro e w1 ⟨rfl, hb⟩)
  go_ret
  exact ⟨rfl, hb⟩
set_option maxRecDepth 100000 in
theorem k_region (b : Nat) (T : TagM) (w : World) (hR : RuleAt w b T) (hF : TagTiny T) : Keeps w (.func (.func 103) #[.pointer (some ⟨b, 0, none⟩)] #[]) (decide (T.region.size = 0) || regionS T.region) := by
  intro w5 hb5
  have H := Lib.hid (r_region b T w5 (hR.below hb5) hF)
  clear hR hF
  generalize (decide (T.region.size = 0) || regionS T.region) = rr at *
  go_enter Tryz.func108, Tryz.ntmps108
  go_wp2_with (go_at_call 103; (with_reducible refine H.out.mono ?_); rintro e w1 ⟨rfl, hb⟩)
  go_ret
  exact ⟨rfl, hb⟩
set_option maxRecDepth 100000 in
theorem k_vars (b : Nat) (T : TagM) (w : World) (hR : RuleAt w b T) (hF : TagTiny T) : Keeps w (.func (.func 104) #[.pointer (some ⟨b, 0, none⟩)] #[]) (T.vars.all variantS && decide (Maps.size (setD T.vars) = T.vars.length)) := by
  intro w5 hb5
  have H := Lib.hid (r_vars b T w5 (hR.below hb5) hF)
  clear hR hF
  generalize (T.vars.all variantS && decide (Maps.size (setD T.vars) = T.vars.length)) = rr at *
  go_enter Tryz.func108, Tryz.ntmps108
  go_wp2_with (go_at_call 104; (with_reducible refine H.out.mono ?_); rintro e w1 ⟨rfl, hb⟩)
  go_ret
  exact ⟨rfl, hb⟩
set_option maxRecDepth 100000 in
theorem k_exts (b : Nat) (T : TagM) (w : World) (hR : RuleAt w b T) (hF : TagTiny T) : Keeps w (.func (.func 105) #[.pointer (some ⟨b, 0, none⟩)] #[]) (extsB T) := by
  intro w5 hb5
  have H := Lib.hid (r_exts b T w5 (hR.below hb5) hF)
  clear hR hF
  generalize (extsB T) = rr at *
  go_enter Tryz.func108, Tryz.ntmps108
  go_wp2_with (go_at_call 105; (with_reducible refine H.out.mono ?_); rintro e w1 ⟨rfl, hb⟩)
  go_ret
  exact ⟨rfl, hb⟩
set_option maxRecDepth 100000 in
theorem k_notgrand (b : Nat) (T : TagM) (w : World) (hR : RuleAt w b T) (hF : TagTiny T) (hg : GL w) : Keeps w (.func (.func 106) #[.pointer (some ⟨b, 0, none⟩)] #[]) (!(findV (joinS (subtagsT T))).isSome) := by
  intro w5 hb5
  have H := Lib.hid (r_notgrand b T w5 (hR.below hb5) hF (hg.below hb5 hg.size))
  clear hR hF hg
  generalize (!(findV (joinS (subtagsT T))).isSome) = rr at *
  go_enter Tryz.func108, Tryz.ntmps108
  go_wp2_with (go_at_call 106; (with_reducible refine H.out.mono ?_); rintro e w1 ⟨rfl, hb⟩)
  go_ret
  exact ⟨rfl, hb⟩

def mk1 (b : Nat) (T : TagM) : List (Value × Bool) := [(.func (.func 94) #[.pointer (some ⟨b, 0, none⟩)] #[], sameT T (onlyG T)), (.func (.func 95) #[.pointer (some ⟨b, 0, none⟩)] #[], (findV T.grand).isSome)]
def mk2 (b : Nat) (T : TagM) : List (Value × Bool) := [(.func (.func 96) #[.pointer (some ⟨b, 0, none⟩)] #[], sameT T (onlyP T)), (.func (.func 97) #[.pointer (some ⟨b, 0, none⟩)] #[], decide (0 < T.priv.length)), (.func (.func 98) #[.pointer (some ⟨b, 0, none⟩)] #[], T.priv.all okS)]
def mk3 (b : Nat) (T : TagM) : List (Value × Bool) := [(.func (.func 99) #[.pointer (some ⟨b, 0, none⟩)] #[], decide (T.grand.size = 0)), (.func (.func 100) #[.pointer (some ⟨b, 0, none⟩)] #[], languageS T.lang), (.func (.func 101) #[.pointer (some ⟨b, 0, none⟩)] #[], extlB T), (.func (.func 102) #[.pointer (some ⟨b, 0, none⟩)] #[], decide (T.script.size = 0) || scriptS T.script), (.func (.func 103) #[.pointer (some ⟨b, 0, none⟩)] #[], decide (T.region.size = 0) || regionS T.region), (.func (.func 104) #[.pointer (some ⟨b, 0, none⟩)] #[], T.vars.all variantS && decide (Maps.size (setD T.vars) = T.vars.length)), (.func (.func 105) #[.pointer (some ⟨b, 0, none⟩)] #[], extsB T), (.func (.func 98) #[.pointer (some ⟨b, 0, none⟩)] #[], T.priv.all okS), (.func (.func 106) #[.pointer (some ⟨b, 0, none⟩)] #[], !(findV (joinS (subtagsT T))).isSome)]
theorem mk1_keeps (b : Nat) (T : TagM) (w : World) (hR : RuleAt w b T) (hF : TagTiny T) (hg : GL w) : ∀ x ∈ mk1 b T, Keeps w x.1 x.2 := by
  intro x hx
  unfold mk1 at hx
  simp only [List.mem_cons, List.not_mem_nil, or_false] at hx
  rcases hx with rfl | rfl
  · exact k_onlyG b T w hR hF
  · exact k_grand b T w hR hF hg
theorem mk2_keeps (b : Nat) (T : TagM) (w : World) (hR : RuleAt w b T) (hF : TagTiny T) : ∀ x ∈ mk2 b T, Keeps w x.1 x.2 := by
  intro x hx
  unfold mk2 at hx
  simp only [List.mem_cons, List.not_mem_nil, or_false] at hx
  rcases hx with rfl | rfl | rfl
  · exact k_onlyP b T w hR hF
  · exact k_some b T w hR hF
  · exact k_privates b T w hR hF
theorem mk3_keeps (b : Nat) (T : TagM) (w : World) (hR : RuleAt w b T) (hF : TagTiny T) (hg : GL w) : ∀ x ∈ mk3 b T, Keeps w x.1 x.2 := by
  intro x hx
  unfold mk3 at hx
  simp only [List.mem_cons, List.not_mem_nil, or_false] at hx
  rcases hx with rfl | rfl | rfl | rfl | rfl | rfl | rfl | rfl | rfl
  · exact k_nogrand b T w hR hF
  · exact k_lang b T w hR hF
  · exact k_extl b T w hR hF
  · exact k_script b T w hR hF
  · exact k_region b T w hR hF
  · exact k_vars b T w hR hF
  · exact k_exts b T w hR hF
  · exact k_privates b T w hR hF
  · exact k_notgrand b T w hR hF hg
set_option maxRecDepth 100000 in
set_option maxHeartbeats 4000000 in
theorem makes_own (b : Nat) (w : World) :
    Calls Tryz.prog 53 #[.pointer (some ⟨b, 0, none⟩)] w fun e w' => e = .returned (.slice (some ⟨w.heap.size + 3, 0, none⟩) 3 3) ∧
      w' = (((w.alloc (.cells #[.func (.func 94) #[.pointer (some ⟨b, 0, none⟩)] #[], .func (.func 95) #[.pointer (some ⟨b, 0, none⟩)] #[]] 124)).alloc (.cells #[.func (.func 96) #[.pointer (some ⟨b, 0, none⟩)] #[], .func (.func 97) #[.pointer (some ⟨b, 0, none⟩)] #[], .func (.func 98) #[.pointer (some ⟨b, 0, none⟩)] #[]] 124)).alloc (.cells #[.func (.func 99) #[.pointer (some ⟨b, 0, none⟩)] #[], .func (.func 100) #[.pointer (some ⟨b, 0, none⟩)] #[], .func (.func 101) #[.pointer (some ⟨b, 0, none⟩)] #[], .func (.func 102) #[.pointer (some ⟨b, 0, none⟩)] #[], .func (.func 103) #[.pointer (some ⟨b, 0, none⟩)] #[], .func (.func 104) #[.pointer (some ⟨b, 0, none⟩)] #[], .func (.func 105) #[.pointer (some ⟨b, 0, none⟩)] #[], .func (.func 98) #[.pointer (some ⟨b, 0, none⟩)] #[], .func (.func 106) #[.pointer (some ⟨b, 0, none⟩)] #[]] 124)).alloc (.cells #[.slice (some ⟨w.heap.size, 0, none⟩) 2 2, .slice (some ⟨w.heap.size + 1, 0, none⟩) 3 3, .slice (some ⟨w.heap.size + 2, 0, none⟩) 9 9] 72) := by
  have hmf : ∀ (fn : Fn) (first cap : Array Value) (w : World), (Instr.makeFunc fn first cap).run Tryz.prog w = .ok (.func fn first cap) w := fun _ _ _ _ => rfl
  go_enter Tryz.func53, Tryz.ntmps53
  go_wp2_with fail
  go_ret
  exact ⟨rfl, rfl⟩
end Go.Proofs.YtajdfckppnedjaaGreatDoor

/-! Package tag: Right, against the words. -/
namespace Go.Proofs.YtajdfckppnedjaaGreatDoor
open Go Go.RowKit

def rightB (T : TagM) : Bool := smallB T && ((mk1 0 T).all (·.2) || ((mk2 0 T).all (·.2) || (mk3 0 T).all (·.2)))

set_option maxRecDepth 100000 in
set_option maxHeartbeats 4000000 in
theorem rightB_own (v : Value) (T : TagM) (w : World) (hT : TagIs w v T) (hF : TagTiny T) (hg : GL w) :
    Calls Tryz.prog 15 #[v] w fun e w' => e = .returned (.bool (rightB T)) ∧ Below w.heap.size w w' := by
  have hT' := hT
  obtain ⟨ve, vv, vx, vp, rfl, R1, R2, R3, R4⟩ := hT
  obtain ⟨a1, p1, rfl, -⟩ := R1
  obtain ⟨a2, p2, rfl, -⟩ := R2
  obtain ⟨a3, p3, rfl, -⟩ := R3
  obtain ⟨a4, p4, rfl, -⟩ := R4
  obtain ⟨W0, hW0⟩ : ∃ W0, (w.alloc (.cells #[.string T.lang, .slice a1 T.extl.length p1, .string T.script, .string T.region, .slice a2 T.vars.length p2, .slice a3 T.exts.length p3, .slice a4 T.priv.length p4, .string T.grand] 25)).alloc (.cells #[.string T.lang, .slice a1 T.extl.length p1, .string T.script, .string T.region, .slice a2 T.vars.length p2, .slice a3 T.exts.length p3, .slice a4 T.priv.length p4, .string T.grand] 69) = W0 := ⟨_, rfl⟩
  have hb0 : Below w.heap.size w W0 := by rw [← hW0]; exact ((Below.refl _ w).alloc (Nat.le_refl _) _).alloc (by simp) _
  have hR0 : RuleAt W0 (w.heap.size + 1) T := ⟨a1, p1, a2, p2, a3, p3, a4, p4, by rw [← hW0]; exact heap_alloc2_new w _ _, hT'.below hb0⟩
  have hg0 := hg.below hb0 hg.size
  have SM := Lib.hid (r_small (w.heap.size + 1) T W0 hR0 hF)
  have MK := Lib.hid (fun w5 => makes_own (w.heap.size + 1) w5)
  have HR0 := Lib.hid hR0
  have HG0 := Lib.hid hg0
  have HB0 := Lib.hid hb0
  have HF := Lib.hid hF
  have HRB := Lib.hid (show rightB T = (smallB T && ((mk1 0 T).all (·.2) || ((mk2 0 T).all (·.2) || (mk3 0 T).all (·.2)))) from rfl)
  clear hT' hR0 hg0 hb0 hF hg
  go_enter Tryz.func15, Tryz.ntmps15
  go_upto_region 2 with fail
  clear hW0
  cases hs : smallB T with
  | false =>
    rw [hs] at SM
    have HE := Lib.hid (show rightB T = false by rw [HRB.out, hs]; rfl)
    clear hs
    go_wp2_with (go_at_call 51; (with_reducible refine SM.out.mono ?_); rintro e w1 ⟨rfl, hb1⟩)
    go_ret
    exact ⟨ret_bool HE.out.symm, HB0.out.trans (hb1.mono HB0.out.size)⟩
  | true =>
    rw [hs] at SM
    have HE := Lib.hid (show rightB T = ((mk1 0 T).all (·.2) || ((mk2 0 T).all (·.2) || (mk3 0 T).all (·.2))) by rw [HRB.out, hs]; rfl)
    clear hs
    go_wp2_with fail
    refine SM.out.mono ?_
    rintro e w1 ⟨rfl, hb1⟩
    go_wp2_with fail
    refine (MK.out _).mono ?_
    rintro e w2 ⟨rfl, hw2⟩
    obtain ⟨b, hb⟩ : ∃ b, b = w.heap.size + 1 := ⟨_, rfl⟩
    rw [← hb] at hw2 HR0
    clear MK SM
    have hb2 : Below w1.heap.size w1 w2 := by
      rw [hw2]
      exact ((((Below.refl _ w1).alloc (Nat.le_refl _) _).alloc (by simp) _).alloc (by simp <;> omega) _).alloc (by simp <;> omega) _
    have hR2 := (HR0.out.below hb1).below hb2
    have hg2 := (HG0.out.below hb1 HG0.out.size).below hb2 (HG0.out.below hb1 HG0.out.size).size
    have c1 : w2.heap[w1.heap.size]? = some (.cells ((mk1 b T).map (·.1)).toArray 124 (0, 0)) := by
      rw [hw2, Below.heap_alloc _ _ _ (by simp <;> omega), Below.heap_alloc _ _ _ (by simp <;> omega), Below.heap_alloc _ _ _ (by simp)]
      exact World.alloc_heap_new w1 _
    have c2 : w2.heap[w1.heap.size + 1]? = some (.cells ((mk2 b T).map (·.1)).toArray 124 (0, 0)) := by
      rw [hw2, Below.heap_alloc _ _ _ (by simp <;> omega), Below.heap_alloc _ _ _ (by simp)]
      exact heap_alloc2_new w1 _ _
    have c3 : w2.heap[w1.heap.size + 2]? = some (.cells ((mk3 b T).map (·.1)).toArray 124 (0, 0)) := by
      rw [hw2, Below.heap_alloc _ _ _ (by simp)]
      have := World.alloc_heap_new ((w1.alloc (.cells ((mk1 b T).map (·.1)).toArray 124)).alloc (.cells ((mk2 b T).map (·.1)).toArray 124)) (.cells ((mk3 b T).map (·.1)).toArray 124)
      rw [World.size_alloc, World.size_alloc] at this
      exact this
    have c4 : w2.heap[w1.heap.size + 3]? = some (.cells #[.slice (some ⟨w1.heap.size, 0, none⟩) 2 2, .slice (some ⟨w1.heap.size + 1, 0, none⟩) 3 3, .slice (some ⟨w1.heap.size + 2, 0, none⟩) 9 9] 72 (0, 0)) := by
      rw [hw2]
      have := World.alloc_heap_new (((w1.alloc (.cells ((mk1 b T).map (·.1)).toArray 124)).alloc (.cells ((mk2 b T).map (·.1)).toArray 124)).alloc (.cells ((mk3 b T).map (·.1)).toArray 124)) (.cells #[.slice (some ⟨w1.heap.size, 0, none⟩) 2 2, .slice (some ⟨w1.heap.size + 1, 0, none⟩) 3 3, .slice (some ⟨w1.heap.size + 2, 0, none⟩) 9 9] 72)
      rw [World.size_alloc, World.size_alloc, World.size_alloc] at this
      exact this
    have fr : ∀ (g : Nat) (L : List (Value × Bool)) (t : TypeId) (cap : Nat), w2.heap[g]? = some (.cells (L.map (·.1)).toArray t (0, 0)) → FRow w2 (.slice (some ⟨g, 0, none⟩) L.length cap) L := fun g L t cap h =>
      ⟨_, _, rfl, fun i x hx => ⟨g, rfl, cell_row2 i h (by rw [List.getElem?_toArray, List.getElem?_map, hx]; rfl)⟩⟩
    have hLL : FRow w2 (.slice (some ⟨w1.heap.size + 3, 0, none⟩) 3 3) [(.slice (some ⟨w1.heap.size, 0, none⟩) 2 2, (mk1 b T).all (·.2)), (.slice (some ⟨w1.heap.size + 1, 0, none⟩) 3 3, (mk2 b T).all (·.2)), (.slice (some ⟨w1.heap.size + 2, 0, none⟩) 9 9, (mk3 b T).all (·.2))] := fr _ [(.slice (some ⟨w1.heap.size, 0, none⟩) 2 2, (mk1 b T).all (·.2)), (.slice (some ⟨w1.heap.size + 1, 0, none⟩) 3 3, (mk2 b T).all (·.2)), (.slice (some ⟨w1.heap.size + 2, 0, none⟩) 9 9, (mk3 b T).all (·.2))] _ _ c4
    have K1 : KeepsAll w2 (.slice (some ⟨w1.heap.size, 0, none⟩) 2 2) ((mk1 b T).all (·.2)) := allKept_any _ (mk1 b T) w2 (fr _ (mk1 b T) _ 2 c1) (show (2 : Nat) ≤ 1048576 by decide) (mk1_keeps b T w2 hR2 HF.out hg2)
    have K2 : KeepsAll w2 (.slice (some ⟨w1.heap.size + 1, 0, none⟩) 3 3) ((mk2 b T).all (·.2)) := allKept_any _ (mk2 b T) w2 (fr _ (mk2 b T) _ 3 c2) (show (3 : Nat) ≤ 1048576 by decide) (mk2_keeps b T w2 hR2 HF.out)
    have K3 : KeepsAll w2 (.slice (some ⟨w1.heap.size + 2, 0, none⟩) 9 9) ((mk3 b T).all (·.2)) := allKept_any _ (mk3 b T) w2 (fr _ (mk3 b T) _ 9 c3) (show (9 : Nat) ≤ 1048576 by decide) (mk3_keeps b T w2 hR2 HF.out hg2)
    have CR := Lib.hid (containsRow_any _ _ w2 hLL (by simp) (fun x hx => by
      simp only [List.mem_cons, List.not_mem_nil, or_false] at hx
      rcases hx with rfl | rfl | rfl
      · exact K1
      · exact K2
      · exact K3))
    have HB2 := Lib.hid ((HB0.out.trans (hb1.mono HB0.out.size)).trans (hb2.mono (HB0.out.trans (hb1.mono HB0.out.size)).size))
    have HE2 := Lib.hid (show rightB T = List.any [((.slice (some ⟨w1.heap.size, 0, none⟩) 2 2 : Value), (mk1 b T).all (·.2)), (.slice (some ⟨w1.heap.size + 1, 0, none⟩) 3 3, (mk2 b T).all (·.2)), (.slice (some ⟨w1.heap.size + 2, 0, none⟩) 9 9, (mk3 b T).all (·.2))] (fun x => x.2) by
      rw [HE.out]
      simp only [List.any_cons, List.any_nil, Bool.or_false]
      rfl)
    generalize (List.any [((.slice (some ⟨w1.heap.size, 0, none⟩) 2 2 : Value), (mk1 b T).all (·.2)), (.slice (some ⟨w1.heap.size + 1, 0, none⟩) 3 3, (mk2 b T).all (·.2)), (.slice (some ⟨w1.heap.size + 2, 0, none⟩) 9 9, (mk3 b T).all (·.2))] (fun x => x.2)) = rb at *
    clear hw2 hb2 hR2 hg2 c1 c2 c3 c4 fr hLL K1 K2 K3 hb hb1
    go_wp2_with fail
    refine CR.out.mono ?_
    rintro e w3 ⟨rfl, hb3⟩
    go_wp2_with fail
    go_ret
    exact ⟨ret_bool HE2.out.symm, HB2.out.trans (hb3.mono HB2.out.size)⟩
end Go.Proofs.YtajdfckppnedjaaGreatDoor

/-! What is right, told in two ways: mathematics alone. -/
namespace Go.Proofs.YtajdfckppnedjaaGreatDoor
open Go Go.RowKit

theorem eachN_and {α : Type} (p : α → Bool) (q : List α → α → Bool) (l : List α) : ∀ n, n ≤ l.length → eachN (fun pre x => p x && q pre x) l n = ((l.take n).all p && eachN q l n)
  | 0, _ => by simp [eachN]
  | n + 1, h => by
    obtain ⟨x, hx⟩ : ∃ x, l[n]? = some x := ⟨_, List.getElem?_eq_getElem (by omega)⟩
    have ih := eachN_and p q l n (by omega)
    have e : ∀ r : List α → α → Bool, eachN r l (n + 1) = (eachN r l n && r (l.take n) x) := fun r => by
      unfold eachN
      rw [List.range_succ, List.all_append]
      simp [hx]
    rw [e, e, ih, take_next hx, List.all_append]
    simp only [List.all_cons, List.all_nil, Bool.and_true]
    cases (l.take n).all p <;> cases eachN q l n <;> cases p x <;> simp
theorem full_each (l : List ByteArray) : decide (Maps.size (setD l) = l.length) = eachN diffT l l.length := by
  rw [size_full]
  unfold eachN
  congr 1
  funext i
  cases l[i]? <;> rfl
theorem vars_two (l : List ByteArray) : eachN pV l l.length = (l.all variantS && decide (Maps.size (setD l) = l.length)) := by
  have h := eachN_and variantS diffT l l.length (Nat.le_refl _)
  rw [List.take_of_length_le (Nat.le_refl _)] at h
  rw [full_each]
  exact h
theorem key_map (pre : List (ByteArray × List ByteArray)) (k : ByteArray) : keyT pre k = diffT (pre.map (·.1)) k := by
  unfold keyT diffT
  rw [List.all_map]
  rfl
theorem exts_two (T : TagM) : eachN pE T.exts T.exts.length = extsB T := by
  have h := eachN_and pX (fun pre x => keyT pre x.1) T.exts T.exts.length (Nat.le_refl _)
  rw [List.take_of_length_le (Nat.le_refl _)] at h
  have hp : pE = fun pre x => pX x && keyT pre x.1 := by
    funext pre x
    unfold pE pX subsT
    cases singletonS x.1 <;> cases keyT pre x.1 <;> cases (x.2.all fun s => okS s && decide (2 ≤ s.size)) <;> simp
  rw [hp, h]
  unfold extsB
  rw [size_full]
  congr 1
  unfold eachN keysT
  rw [List.length_map, Bool.eq_iff_iff, List.all_eq_true, List.all_eq_true]
  refine forall_congr' fun i => forall_congr' fun _ => ?_
  rw [List.getElem?_map]
  cases T.exts[i]? with
  | none => simp
  | some x => simp only [Option.map_some]; rw [key_map, List.map_take]
theorem ok_pos {s : ByteArray} (h : okS s = true) : 1 ≤ s.size := by
  rw [← sizedB_sub] at h
  unfold sizedB at h
  simp at h
  omega
theorem subs_one (l : List ByteArray) : subsT l 1 = l.all okS := by
  unfold subsT
  congr 1
  funext x
  cases h : okS x with
  | false => rfl
  | true => simp [ok_pos h]
theorem find_zero : findV ByteArray.empty = none := by
  cases h : findV ByteArray.empty with
  | none => rfl
  | some k =>
    have hk := findV_lt h
    have e := (findV_iff _ k hk).1 h
    have := (name_size k hk).1
    rw [← e, size_lowS] at this
    simp at this
theorem low_empty : ByteArray.empty = lowS ByteArray.empty := rfl
theorem size_zero_iff {s : ByteArray} : s.size = 0 ↔ s = ByteArray.empty := by
  constructor
  · intro h
    apply ofL_ext
    exact List.eq_nil_of_length_eq_zero (by rw [size_bs]; exact h)
  · rintro rfl; rfl
theorem lowT_iff (l : List ByteArray) : lowT l = true ↔ ∀ x ∈ l, x = lowS x := by unfold lowT; rw [List.all_eq_true]; simp
theorem lowL_append (a b : List UInt8) : (a ++ b).map lowB = a ++ b ↔ a.map lowB = a ∧ b.map lowB = b := by
  rw [List.map_append]
  constructor
  · intro h
    have h1 := congrArg (List.take a.length) h
    have h2 := congrArg (List.drop a.length) h
    rw [List.take_left' (by simp), List.take_left' rfl] at h1
    rw [List.drop_left' (by simp), List.drop_left' rfl] at h2
    exact ⟨h1, h2⟩
  · rintro ⟨h1, h2⟩; rw [h1, h2]
theorem low_iff (s : ByteArray) : s = lowS s ↔ (bs s).map lowB = bs s := by
  constructor
  · intro h; rw [← low_bs, ← h]
  · intro h; apply ofL_ext; rw [low_bs, h]
theorem lowP_iff : ∀ ps : List (List UInt8), (joinP ps).map lowB = joinP ps ↔ ∀ p ∈ ps, p.map lowB = p
  | [] => by simp [joinP_nil]
  | [p] => by simp [joinP_one]
  | p :: q :: r => by
    rw [joinP_cons p (by simp), lowL_append, show (45 :: joinP (q :: r)) = [45] ++ joinP (q :: r) from rfl, lowL_append, lowP_iff (q :: r)]
    have h45 : ([45] : List UInt8).map lowB = [45] := by decide
    simp [h45]
theorem low_join (l : List ByteArray) : lowT l = decide (joinS l = lowS (joinS l)) := by
  rw [Bool.eq_iff_iff, lowT_iff, decide_eq_true_iff, low_iff]
  unfold joinS
  rw [bs_ofL, lowP_iff]
  constructor
  · intro h p hp
    obtain ⟨x, hx, rfl⟩ := List.mem_map.1 hp
    exact (low_iff x).1 (h x hx)
  · intro h x hx
    exact (low_iff x).2 (h _ (List.mem_map.2 ⟨x, hx, rfl⟩))
theorem low_split (s : ByteArray) : lowT (splS s) = decide (s = lowS s) := by rw [low_join, join_split]
theorem len_zero {α : Type} (l : List α) : decide (l.length = 0) = l.isEmpty := by cases l <;> simp
theorem sameT_iff (A B : TagM) : sameT A B = true ↔ A = B := by
  rw [sameT_order]
  simp only [Bool.and_eq_true, decide_eq_true_iff]
  constructor
  · rintro ⟨h1, h2, h3, h4, h5, h6, h7, h8⟩
    cases A; cases B; simp_all
  · rintro rfl; simp
theorem plain_iff (T : TagM) : plainT T = true ↔ T.lang = ByteArray.empty ∧ T.extl = [] ∧ T.script = ByteArray.empty ∧ T.region = ByteArray.empty ∧ T.vars = [] ∧ T.exts = [] := by
  unfold plainT
  simp only [Bool.and_eq_true, decide_eq_true_iff, size_zero_iff, List.length_eq_zero_iff]
theorem mk1_all (T : TagM) : (mk1 0 T).all (·.2) = (sameT T (onlyG T) && (findV T.grand).isSome) := by simp [mk1]
theorem mk2_all (T : TagM) : (mk2 0 T).all (·.2) = (sameT T (onlyP T) && (decide (0 < T.priv.length) && T.priv.all okS)) := by simp [mk2]
theorem mk3_all (T : TagM) : (mk3 0 T).all (·.2) = (decide (T.grand.size = 0) && (languageS T.lang && (extlB T && ((decide (T.script.size = 0) || scriptS T.script) && ((decide (T.region.size = 0) || regionS T.region) && ((T.vars.all variantS && decide (Maps.size (setD T.vars) = T.vars.length)) && (extsB T && (T.priv.all okS && !(findV (joinS (subtagsT T))).isSome)))))))) := by
  unfold mk3
  simp only [List.all_cons, List.all_nil, Bool.and_true]
theorem language_pos {s : ByteArray} (h : s.size = 0) : languageS s = false := by
  unfold languageS lettersS
  simp [h]
theorem small_of (T : TagM) (h : T.grand.size = 0) : smallT T = smallB T := by
  have hg : T.grand = ByteArray.empty := size_zero_iff.1 h
  unfold smallT smallB
  rw [hg, decide_eq_true low_empty, Bool.and_true]
  have e : lowT (subtagsT T ++ [T.lang, T.script, T.region]) = lowT (subtagsT T) := by
    rw [Bool.eq_iff_iff, lowT_iff, lowT_iff]
    constructor
    · exact fun h x hx => h x (List.mem_append_left _ hx)
    · intro h1 x hx
      rcases List.mem_append.1 hx with hx | hx
      · exact h1 x hx
      · have one : ∀ s : ByteArray, (∀ y ∈ oneT s, y ∈ subtagsT T) → s = lowS s := fun s hs => by
          by_cases h0 : s.size = 0
          · rw [size_zero_iff.1 h0]; exact low_empty
          · exact h1 s (hs s (by unfold oneT; rw [if_neg h0]; simp))
        have hsub : subtagsT T = oneT T.lang ++ T.extl ++ oneT T.script ++ oneT T.region ++ T.vars ++ T.exts.flatMap extT ++ privT T.priv := by unfold subtagsT; rw [if_pos h]
        simp only [List.mem_cons, List.not_mem_nil, or_false] at hx
        rcases hx with rfl | rfl | rfl
        · exact one _ fun y hy => by rw [hsub]; simp [hy]
        · exact one _ fun y hy => by rw [hsub]; simp [hy]
        · exact one _ fun y hy => by rw [hsub]; simp [hy]
  exact e
theorem right_two (T : TagM) : rightB T = rightT T := by
  unfold rightB rightT
  rw [mk1_all, mk2_all, mk3_all]
  by_cases hg : T.grand.size = 0
  · rw [small_of T hg, if_pos hg, decide_eq_true hg, Bool.true_and]
    have hge : T.grand = ByteArray.empty := size_zero_iff.1 hg
    have h1 : (sameT T (onlyG T) && (findV T.grand).isSome) = false := by rw [hge, find_zero]; simp
    rw [h1, Bool.false_or]
    congr 1
    by_cases hl : T.lang.size = 0
    · rw [if_pos hl, language_pos hl, Bool.false_and, Bool.or_false, subs_one]
      have hs : sameT T (onlyP T) = plainT T := by
        rw [Bool.eq_iff_iff, sameT_iff, plain_iff]
        constructor
        · intro e
          rw [e]; exact ⟨rfl, rfl, rfl, rfl, rfl, rfl⟩
        · rintro ⟨e1, e2, e3, e4, e5, e6⟩
          unfold onlyP
          cases T
          simp_all
      rw [hs]
    · rw [if_neg hl]
      have h2 : sameT T (onlyP T) = false := by
        cases h : sameT T (onlyP T) with
        | false => rfl
        | true =>
          rw [sameT_iff] at h
          exact absurd (by rw [h]; rfl) hl
      rw [h2, Bool.false_and, Bool.false_or]
      unfold wholeT rowsT
      rw [vars_two, exts_two, subs_one]
      have he : extlB T = ((decide (T.extl.length ≤ 3) && !(decide (0 < T.extl.length) && decide (3 < T.lang.size))) && T.extl.all extlangS) := by
        unfold extlB
        by_cases h0 : T.extl.length = 0
        · rw [if_pos h0, List.eq_nil_of_length_eq_zero h0]; simp
        · rw [if_neg h0]
          have a1 : decide (0 < T.extl.length) = true := decide_eq_true (by omega)
          have a2 : (!decide (3 < T.lang.size)) = decide (T.lang.size ≤ 3) := by
            by_cases h3 : 3 < T.lang.size
            · rw [decide_eq_true h3, decide_eq_false (by omega)]; rfl
            · rw [decide_eq_false h3, decide_eq_true (by omega)]; rfl
          rw [a1, Bool.true_and, a2, Bool.and_assoc]
      rw [he, ← Option.not_isSome]
      generalize decide (T.extl.length ≤ 3) = b1
      generalize (!(decide (0 < T.extl.length) && decide (3 < T.lang.size))) = b2
      generalize T.extl.all extlangS = b3
      generalize languageS T.lang = b4
      generalize (decide (T.script.size = 0) || scriptS T.script) = b5
      generalize (decide (T.region.size = 0) || regionS T.region) = b6
      generalize (T.vars.all variantS && decide (Maps.size (setD T.vars) = T.vars.length)) = b7
      generalize extsB T = b8
      generalize T.priv.all okS = b9
      generalize (!(findV (joinS (subtagsT T))).isSome) = b10
      cases b1 <;> cases b2 <;> cases b3 <;> cases b4 <;> cases b5 <;> cases b6 <;> cases b7 <;> cases b8 <;> simp
  · rw [if_neg hg, decide_eq_false hg, Bool.false_and, Bool.or_false]
    have h2 : sameT T (onlyP T) = false := by
      cases h : sameT T (onlyP T) with
      | false => rfl
      | true =>
        rw [sameT_iff] at h
        exact absurd (by rw [h]; rfl) hg
    rw [h2, Bool.false_and, Bool.or_false]
    have hs : sameT T (onlyG T) = (plainT T && decide (T.priv.length = 0)) := by
      rw [Bool.eq_iff_iff, sameT_iff, Bool.and_eq_true, plain_iff, decide_eq_true_iff]
      constructor
      · intro e
        rw [e]; exact ⟨⟨rfl, rfl, rfl, rfl, rfl, rfl⟩, rfl⟩
      · rintro ⟨⟨e1, e2, e3, e4, e5, e6⟩, e7⟩
        have e7 := List.eq_nil_of_length_eq_zero e7
        unfold onlyG
        cases T
        simp_all
    rw [hs, Bool.and_assoc]
    cases hp : plainT T with
    | false => simp
    | true =>
      obtain ⟨e1, e2, e3, e4, e5, e6⟩ := (plain_iff T).1 hp
      have hsub : subtagsT T = splS T.grand := by unfold subtagsT; rw [if_neg hg]
      have a1 : smallB T = decide (T.grand = lowS T.grand) := by
        rw [← low_split, ← hsub]; rfl
      have a2 : smallT T = decide (T.grand = lowS T.grand) := by
        unfold smallT
        have : lowT (subtagsT T ++ [T.lang, T.script, T.region]) = lowT (subtagsT T) := by
          rw [Bool.eq_iff_iff, lowT_iff, lowT_iff, e1, e3, e4]
          constructor
          · exact fun h x hx => h x (List.mem_append_left _ hx)
          · intro h x hx
            rcases List.mem_append.1 hx with hx | hx
            · exact h x hx
            · simp only [List.mem_cons, List.not_mem_nil, or_false, or_self] at hx
              rw [hx]; exact low_empty
        rw [this, hsub, low_split, Bool.and_self]
      rw [a1, a2]
theorem right_own (v : Value) (T : TagM) (w : World) (hT : TagIs w v T) (hF : TagTiny T) (hg : GL w) :
    Calls Tryz.prog 15 #[v] w fun e w' => e = .returned (.bool (rightT T)) ∧ Below w.heap.size w w' := by
  rw [← right_two]
  exact rightB_own v T w hT hF hg
end Go.Proofs.YtajdfckppnedjaaGreatDoor
