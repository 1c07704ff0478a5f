/-
  Package tag: the rules, one by one. Package tag: the rules, one by one (the others). Package tag: the rules that hold whole tags against others; extensions.
-/
import Derived.Test.YtggfdmhfcpabdaaGreatDoorNRow
import Derived.Test.YtggfdmhfcpabdaaGreatDoorKinds
import Derived.Test.YtggfdmhfcpabdaaGreatDoorJSame
import Derived.Test.YtggfdmhfcpabdaaGreatDoorETags
import Derived.Test.YtggfdmhfcpabdaaGreatDoorKTags
import Derived.Test.YtggfdmhfcpabdaaGreatDoorFRows
import Derived.Deep.RegionHeld3
import Derived.Test.YtggfdmhfcpabdaaGreatDoorHExt
/-! Package tag: the rules, one by one. -/
namespace Go.Proofs.YtggfdmhfcpabdaaGreatDoor
open Go Go.RowKit

/-- A set of rules, at its block. -/
def RuleAt (W : World) (b : Nat) (T : TagM) : Prop :=
  ∃ a1 p1 a2 p2 a3 p3 a4 p4, W.heap[b]? = some (.cells #[.string T.lang, .slice a1 T.extl.length p1, .string T.script, .string T.region, .slice a2 T.vars.length p2, .slice a3 T.exts.length p3, .slice a4 T.priv.length p4, .string T.grand] 123 (0, 0)) ∧
    TagIs W (.agg #[.string T.lang, .slice a1 T.extl.length p1, .string T.script, .string T.region, .slice a2 T.vars.length p2, .slice a3 T.exts.length p3, .slice a4 T.priv.length p4, .string T.grand]) T
theorem RuleAt.below {W W' : World} {b : Nat} {T : TagM} (h : RuleAt W b T) (hb : Below W.heap.size W W') : RuleAt W' b T := by
  obtain ⟨a1, p1, a2, p2, a3, p3, a4, p4, h1, h2⟩ := h
  exact ⟨a1, p1, a2, p2, a3, p3, a4, p4, (hb.block _ (lt_of_heapJ h1)).trans h1, h2.below hb⟩
theorem RuleAt.rows {W : World} {b : Nat} {T : TagM} {a1 a2 a3 a4 : Option Addr} {p1 p2 p3 p4 : Nat} (h : TagIs W (.agg #[.string T.lang, .slice a1 T.extl.length p1, .string T.script, .string T.region, .slice a2 T.vars.length p2, .slice a3 T.exts.length p3, .slice a4 T.priv.length p4, .string T.grand]) T) (_ : b = b) :
    Row W (.slice a1 T.extl.length p1) T.extl ∧ Row W (.slice a2 T.vars.length p2) T.vars ∧ ExtRow W (.slice a3 T.exts.length p3) T.exts ∧ Row W (.slice a4 T.priv.length p4) T.priv := by
  obtain ⟨ve, vv, vx, vp, h, h1, h2, h3, h4⟩ := h
  injection h with h
  simp at h
  obtain ⟨rfl, rfl, rfl, rfl⟩ := h
  exact ⟨h1, h2, h3, h4⟩

theorem sizedB_sub (s : ByteArray) : sizedB s 1 8 (alnumS s) = okS s := by
  unfold sizedB okS
  by_cases h : 1 ≤ s.size
  · simp [h, Bool.and_comm]
  · have h0 : alnumS s = false := by
      unfold alnumS has
      have : bs s = [] := List.eq_nil_of_length_eq_zero (by rw [size_bs]; omega)
      rw [this]; rfl
    rw [h0]; simp
theorem sizedB_ext (s : ByteArray) : sizedB s 2 8 (alnumS s) = (okS s && decide (2 ≤ s.size)) := by
  unfold sizedB okS
  by_cases h : 2 ≤ s.size <;> simp [h, Bool.and_comm]
set_option maxRecDepth 100000 in
theorem subtag_own (s : ByteArray) (w : World) (hs : s.size ≤ maxLen) :
    Calls Tryz.prog 148 #[.string s] w fun e w' => e = .returned (.bool (okS s)) ∧ Below w.heap.size w w' := by
  have H := Lib.hid (show Calls Tryz.prog 165 #[.string s, .int .i64 1, .int .i64 8, .func (.func 182) #[] #[]] w _ from sized_alnum s 1 8 w hs)
  have HE := Lib.hid (sizedB_sub s)
  go_enter Tryz.func148, Tryz.ntmps148
  go_wp2_with (go_at_call 165; (with_reducible refine H.out.mono ?_); rintro e w1 ⟨rfl, hb⟩)
  go_ret
  exact ⟨ret_bool HE.out, hb⟩
set_option maxRecDepth 100000 in
theorem extended_own (s : ByteArray) (w : World) (hs : s.size ≤ maxLen) :
    Calls Tryz.prog 155 #[.string s] w fun e w' => e = .returned (.bool (okS s && decide (2 ≤ s.size))) ∧ Below w.heap.size w w' := by
  have H := Lib.hid (show Calls Tryz.prog 165 #[.string s, .int .i64 2, .int .i64 8, .func (.func 182) #[] #[]] w _ from sized_alnum s 2 8 w hs)
  have HE := Lib.hid (sizedB_ext s)
  go_enter Tryz.func155, Tryz.ntmps155
  go_wp2_with (go_at_call 165; (with_reducible refine H.out.mono ?_); rintro e w1 ⟨rfl, hb⟩)
  go_ret
  exact ⟨ret_bool HE.out, hb⟩
set_option maxRecDepth 100000 in
theorem old_own (s : ByteArray) (w : World) (hs : s.size ≤ maxLen) (hg : GL w) :
    Calls Tryz.prog 147 #[.string s] w fun e w' => e = .returned (.bool (findV s).isSome) ∧ Below w.heap.size w w' := by
  have H := Lib.hid (find_any s w hs hg)
  generalize ((findV s).getD 0 : Nat) = k at *
  clear hg
  go_enter Tryz.func147, Tryz.ntmps147
  go_wp2_with (go_at_call 43; (with_reducible refine H.out.mono ?_); rintro e w1 ⟨rfl, hb⟩)
  go_ret
  exact ⟨rfl, hb⟩
set_option maxRecDepth 100000 in
theorem smallOne_own (s : ByteArray) (w : World) (hs : s.size ≤ 1048576) :
    Calls Tryz.prog 108 #[.string s] w fun e w' => e = .returned (.bool (decide (s = lowS s))) ∧ Below w.heap.size w w' := by
  have H := Lib.hid (lower_text s w (by omega))
  by_cases h : s = lowS s
  · have HE := Lib.hid (show decide (s = lowS s) = true from decide_eq_true h)
    rw [← h] at H
    clear h
    go_enter Tryz.func108, Tryz.ntmps108
    go_wp2_with (go_at_call 44; (with_reducible refine H.out.mono ?_); rintro e w1 ⟨rfl, hb⟩)
    go_ret
    exact ⟨ret_bool HE.out.symm, hb⟩
  · have HE := Lib.hid (show decide (s = lowS s) = false from decide_eq_false h)
    have hne := toList_ne h
    clear h
    go_enter Tryz.func108, Tryz.ntmps108
    go_wp2_with (go_at_call 44; (with_reducible refine H.out.mono ?_); rintro e w1 ⟨rfl, hb⟩)
    go_ret
    exact ⟨ret_bool HE.out.symm, hb⟩

theorem asks_of (w : World) (F : FuncId) (l : List ByteArray) (p : ByteArray → Bool) (h1 : ∀ args w', (callFunc F args).run Tryz.prog w' = .ok (.enter F args) w') (h2 : ∀ x ∈ l, ∀ w5, Calls Tryz.prog F #[.string x] w5 fun e w' => e = .returned (.bool (p x)) ∧ Below w5.heap.size w5 w') : Asks w F l p :=
  ⟨h1, fun x hx w5 _ => h2 x hx w5⟩
set_option maxRecDepth 100000 in
set_option maxHeartbeats 2000000 in
theorem r_grand (b : Nat) (T : TagM) (w : World) (hR : RuleAt w b T) (hF : TagTiny T) (hg : GL w) :
    Calls Tryz.prog 111 #[.pointer (some ⟨b, 0, none⟩)] w fun e w' => e = .returned (.bool ((findV T.grand).isSome)) ∧ Below w.heap.size w w' := by
  obtain ⟨a1, p1, a2, p2, a3, p3, a4, p4, hh, hT⟩ := hR
  obtain ⟨R1, R2, R3, R4⟩ := RuleAt.rows (b := b) hT rfl
  obtain ⟨q0, q1, q2, q3, q4, q5, q6, q7⟩ := tag_cells hh
  have H := Lib.hid (old_own T.grand w (by have := hF.sg; unfold maxLen; omega) hg)
  clear hg
  clear hh hT R1 R2 R3 R4 hF
  go_enter Tryz.func111, Tryz.ntmps111
  go_wp2_with (go_at_call 147; (with_reducible refine H.out.mono ?_); rintro e w1 ⟨rfl, hb⟩)
  go_ret
  exact ⟨rfl, hb⟩
set_option maxRecDepth 100000 in
set_option maxHeartbeats 2000000 in
theorem r_lang (b : Nat) (T : TagM) (w : World) (hR : RuleAt w b T) (hF : TagTiny T) :
    Calls Tryz.prog 116 #[.pointer (some ⟨b, 0, none⟩)] w fun e w' => e = .returned (.bool (languageS T.lang)) ∧ Below w.heap.size w w' := by
  obtain ⟨a1, p1, a2, p2, a3, p3, a4, p4, hh, hT⟩ := hR
  obtain ⟨R1, R2, R3, R4⟩ := RuleAt.rows (b := b) hT rfl
  obtain ⟨q0, q1, q2, q3, q4, q5, q6, q7⟩ := tag_cells hh
  have H := Lib.hid (language_own T.lang w (by have := hF.sl; unfold maxLen; omega))
  clear hh hT R1 R2 R3 R4 hF
  go_enter Tryz.func116, Tryz.ntmps116
  go_wp2_with (go_at_call 134; (with_reducible refine H.out.mono ?_); rintro e w1 ⟨rfl, hb⟩)
  go_ret
  exact ⟨rfl, hb⟩
set_option maxRecDepth 100000 in
set_option maxHeartbeats 2000000 in
theorem r_privates (b : Nat) (T : TagM) (w : World) (hR : RuleAt w b T) (hF : TagTiny T) :
    Calls Tryz.prog 114 #[.pointer (some ⟨b, 0, none⟩)] w fun e w' => e = .returned (.bool (T.priv.all okS)) ∧ Below w.heap.size w w' := by
  obtain ⟨a1, p1, a2, p2, a3, p3, a4, p4, hh, hT⟩ := hR
  obtain ⟨R1, R2, R3, R4⟩ := RuleAt.rows (b := b) hT rfl
  obtain ⟨q0, q1, q2, q3, q4, q5, q6, q7⟩ := tag_cells hh
  have H := Lib.hid (every_any 148 _ T.priv okS w R4 (by have := hF.p; omega) (asks_of _ _ _ _ (Go.Proofs.enters_of Tryz.func148 (by kernel_rfl) rfl) fun x hx w5 => subtag_own x w5 (by have := hF.sp x hx; unfold maxLen; omega)))
  clear hh hT R1 R2 R3 R4 hF
  go_enter Tryz.func114, Tryz.ntmps114
  go_wp2_with (go_at_call 106; (with_reducible refine H.out.mono ?_); rintro e w1 ⟨rfl, hb⟩)
  go_ret
  exact ⟨rfl, hb⟩
end Go.Proofs.YtggfdmhfcpabdaaGreatDoor

/-! Package tag: the rules, one by one (the others). -/
namespace Go.Proofs.YtggfdmhfcpabdaaGreatDoor
open Go Go.RowKit

theorem law_str : Maps.Keyed Tryz.prog 9 := Maps.string_keyed Tryz.underlying9
set_option maxRecDepth 100000 in
set_option maxHeartbeats 2000000 in
theorem distinct_own (v : Value) (l : List ByteArray) (w : World) (hv : Row w v l) (hl : l.length ≤ 1048576) (hs : ∀ x ∈ l, x.size ≤ maxLen) :
    Calls Tryz.prog 153 #[v] w fun e w' => e = .returned (.bool (decide (Maps.size (setD l) = l.length))) ∧ Below w.heap.size w w' := by
  obtain ⟨ao, c, rfl, hc⟩ := hv
  have HC := Lib.hid hc
  have HS := Lib.hid hs
  have hmm := @run_makeMap Tryz.prog
  clear hc hs
  go_enter Tryz.func153, Tryz.ntmps153
  go_wp2_with fail
  go_loopw [9] (fun i wr => ∃ k : Nat, k ≤ l.length ∧ i = .int .i64 (k : Int) ∧ wr.ownsMap Tryz.prog 9 (plainElem (H := Unit) Tryz.prog 4) w.heap.size k (setD (l.take k)) ∧ Below w.heap.size w wr) (fun i _ => l.length - (intOf i).toNat)
  case atStart => exact ⟨0, Nat.zero_le _, rfl, World.ownsMap_made _ _ _ _, (Below.refl _ _).alloc (Nat.le_refl _) _⟩
  case round =>
    obtain ⟨k, hk, rfl, hown, hB⟩ := hrel
    by_cases hlt : k < l.length
    · have hki : (k : Int) < (l.length : Int) := by omega
      have hk0 : (0 : Int) ≤ (k : Int) := by omega
      obtain ⟨x, hx⟩ : ∃ x, l[k]? = some x := ⟨_, List.getElem?_eq_getElem hlt⟩
      obtain ⟨g, hg, hcx⟩ := HC.out k x hx
      cases hg
      have c1 := (hB.cell (p := ⟨g, k, none⟩) (lt_of_cellF hcx)).trans hcx
      have hkey : keyOf Tryz.prog 9 (.string x) = some (keyL x) := WideMaps.keyOf_string_mk Tryz.underlying9 (HS.out x (List.mem_of_getElem? hx))
      have HX := Lib.hid (show setD (l.take (k + 1)) = (setD (l.take k)).put (keyL x) (.lit (.bool true)) by rw [take_next hx, setD_snoc])
      clear hcx hx
      go_wp2_with (first
        | (at_mapUpdate; refine wpList_mapUpdate_own _ rfl _ _ _ 74 rfl 9 4 law_str Tryz.underlying74 (plainElem (H := Unit) Tryz.prog 4) w.heap.size k _ rfl hown (by unfold maxLen; omega) _ _ _ rfl rfl hkey _ [] (plainElem_bool Tryz.underlying4 true) ?_; intro w1 hown1 hgrow1))
      go_roundw
      case rel => exact ⟨k + 1, by omega, by go_num, by rw [HX.out]; exact hown1, hB.grown hgrow1 hB.size (fun j hj => by cases hj; exact Nat.le_refl _)⟩
      case measure => simp [intOf]; omega
    · obtain rfl : k = l.length := by omega
      have hki : ¬ (l.length : Int) < (l.length : Int) := by omega
      rw [List.take_of_length_le (Nat.le_refl _)] at hown
      by_cases he : Maps.size (setD l) = l.length
      · have hd : ((Maps.size (setD l) : Int) == (l.length : Int)) = true := by rw [beq_iff_eq]; omega
        have HE := Lib.hid (decide_eq_true he)
        clear he
        go_wp2_with (at_len; refine wpList_len_own _ rfl _ 74 rfl 9 4 Tryz.underlying74 (plainElem (H := Unit) Tryz.prog 4) w.heap.size l.length _ rfl hown ?_)
        go_ret
        exact ⟨ret_bool HE.out.symm, hB⟩
      · have hd : ((Maps.size (setD l) : Int) == (l.length : Int)) = false := by rw [beq_eq_false_iff_ne]; omega
        have HE := Lib.hid (decide_eq_false he)
        clear he
        go_wp2_with (at_len; refine wpList_len_own _ rfl _ 74 rfl 9 4 Tryz.underlying74 (plainElem (H := Unit) Tryz.prog 4) w.heap.size l.length _ rfl hown ?_)
        go_ret
        exact ⟨ret_bool HE.out.symm, hB⟩
set_option maxRecDepth 100000 in
set_option maxHeartbeats 2000000 in
theorem r_some (b : Nat) (T : TagM) (w : World) (hR : RuleAt w b T) (_hF : TagTiny T) :
    Calls Tryz.prog 113 #[.pointer (some ⟨b, 0, none⟩)] w fun e w' => e = .returned (.bool (decide (0 < T.priv.length))) ∧ Below w.heap.size w w' := by
  obtain ⟨a1, p1, a2, p2, a3, p3, a4, p4, hh, hT⟩ := hR
  obtain ⟨R1, R2, R3, R4⟩ := RuleAt.rows (b := b) hT rfl
  obtain ⟨q0, q1, q2, q3, q4, q5, q6, q7⟩ := tag_cells hh
  clear hh hT R1 R2 R3 R4
  go_enter Tryz.func113, Tryz.ntmps113
  go_wp2_with fail
  go_ret
  exact ⟨rfl, Below.refl _ _⟩
set_option maxRecDepth 100000 in
set_option maxHeartbeats 2000000 in
theorem r_nogrand (b : Nat) (T : TagM) (w : World) (hR : RuleAt w b T) (_hF : TagTiny T) :
    Calls Tryz.prog 115 #[.pointer (some ⟨b, 0, none⟩)] w fun e w' => e = .returned (.bool (decide (T.grand.size = 0))) ∧ Below w.heap.size w w' := by
  obtain ⟨a1, p1, a2, p2, a3, p3, a4, p4, hh, hT⟩ := hR
  obtain ⟨R1, R2, R3, R4⟩ := RuleAt.rows (b := b) hT rfl
  obtain ⟨q0, q1, q2, q3, q4, q5, q6, q7⟩ := tag_cells hh
  by_cases h : T.grand.size = 0
  · have hi := empty_true h
    have HE := Lib.hid (decide_eq_true h)
    clear hh hT R1 R2 R3 R4 h
    go_enter Tryz.func115, Tryz.ntmps115
    go_wp2_with fail
    go_ret
    exact ⟨ret_bool HE.out.symm, Below.refl _ _⟩
  · have hi := empty_false (s := T.grand) (by omega)
    have HE := Lib.hid (decide_eq_false h)
    clear hh hT R1 R2 R3 R4 h
    go_enter Tryz.func115, Tryz.ntmps115
    go_wp2_with fail
    go_ret
    exact ⟨ret_bool HE.out.symm, Below.refl _ _⟩
set_option maxRecDepth 100000 in
set_option maxHeartbeats 2000000 in
theorem r_script (b : Nat) (T : TagM) (w : World) (hR : RuleAt w b T) (hF : TagTiny T) :
    Calls Tryz.prog 118 #[.pointer (some ⟨b, 0, none⟩)] w fun e w' => e = .returned (.bool (decide (T.script.size = 0) || scriptS T.script)) ∧ Below w.heap.size w w' := by
  obtain ⟨a1, p1, a2, p2, a3, p3, a4, p4, hh, hT⟩ := hR
  obtain ⟨R1, R2, R3, R4⟩ := RuleAt.rows (b := b) hT rfl
  obtain ⟨q0, q1, q2, q3, q4, q5, q6, q7⟩ := tag_cells hh
  have H := Lib.hid (script_own T.script w (by have := hF.ss; unfold maxLen; omega))
  by_cases h : T.script.size = 0
  · have hi := empty_true h
    have HE := Lib.hid (decide_eq_true h)
    clear hh hT R1 R2 R3 R4 hF h
    go_enter Tryz.func118, Tryz.ntmps118
    go_wp2_with fail
    go_ret
    exact ⟨ret_bool (by rw [HE.out]; rfl), Below.refl _ _⟩
  · have hi := empty_false (s := T.script) (by omega)
    have HE := Lib.hid (decide_eq_false h)
    clear hh hT R1 R2 R3 R4 hF h
    go_enter Tryz.func118, Tryz.ntmps118
    go_wp2_with (go_at_call 150; (with_reducible refine H.out.mono ?_); rintro e w1 ⟨rfl, hb⟩)
    go_ret
    exact ⟨ret_bool (by rw [HE.out]; rfl), hb⟩
set_option maxRecDepth 100000 in
set_option maxHeartbeats 2000000 in
theorem r_region (b : Nat) (T : TagM) (w : World) (hR : RuleAt w b T) (hF : TagTiny T) :
    Calls Tryz.prog 119 #[.pointer (some ⟨b, 0, none⟩)] w fun e w' => e = .returned (.bool (decide (T.region.size = 0) || regionS T.region)) ∧ Below w.heap.size w w' := by
  obtain ⟨a1, p1, a2, p2, a3, p3, a4, p4, hh, hT⟩ := hR
  obtain ⟨R1, R2, R3, R4⟩ := RuleAt.rows (b := b) hT rfl
  obtain ⟨q0, q1, q2, q3, q4, q5, q6, q7⟩ := tag_cells hh
  have H := Lib.hid (region_own T.region w (by have := hF.sr; unfold maxLen; omega))
  by_cases h : T.region.size = 0
  · have hi := empty_true h
    have HE := Lib.hid (decide_eq_true h)
    clear hh hT R1 R2 R3 R4 hF h
    go_enter Tryz.func119, Tryz.ntmps119
    go_wp2_with fail
    go_ret
    exact ⟨ret_bool (by rw [HE.out]; rfl), Below.refl _ _⟩
  · have hi := empty_false (s := T.region) (by omega)
    have HE := Lib.hid (decide_eq_false h)
    clear hh hT R1 R2 R3 R4 hF h
    go_enter Tryz.func119, Tryz.ntmps119
    go_wp2_with (go_at_call 151; (with_reducible refine H.out.mono ?_); rintro e w1 ⟨rfl, hb⟩)
    go_ret
    exact ⟨ret_bool (by rw [HE.out]; rfl), hb⟩
def extlB (T : TagM) : Bool := if T.extl.length = 0 then true else decide (T.extl.length ≤ 3) && (decide (T.lang.size ≤ 3) && T.extl.all extlangS)
set_option maxRecDepth 100000 in
set_option maxHeartbeats 2000000 in
theorem r_extl (b : Nat) (T : TagM) (w : World) (hR : RuleAt w b T) (hF : TagTiny T) :
    Calls Tryz.prog 117 #[.pointer (some ⟨b, 0, none⟩)] w fun e w' => e = .returned (.bool (extlB T)) ∧ Below w.heap.size w w' := by
  obtain ⟨a1, p1, a2, p2, a3, p3, a4, p4, hh, hT⟩ := hR
  obtain ⟨R1, R2, R3, R4⟩ := RuleAt.rows (b := b) hT rfl
  obtain ⟨q0, q1, q2, q3, q4, q5, q6, q7⟩ := tag_cells hh
  have H := Lib.hid (every_any 149 _ T.extl extlangS w R1 (by have := hF.e; omega) (asks_of _ _ _ _ (Go.Proofs.enters_of Tryz.func149 (by kernel_rfl) rfl) fun x hx w5 => extlang_own x w5 (by have := hF.se x hx; unfold maxLen; omega)))
  by_cases h0 : T.extl.length = 0
  · have hi : ((T.extl.length : Int) == 0) = true := by rw [beq_iff_eq]; omega
    have HE := Lib.hid (show extlB T = true by unfold extlB; rw [if_pos h0])
    clear hh hT R1 R2 R3 R4 hF h0
    go_enter Tryz.func117, Tryz.ntmps117
    go_wp2_with fail
    go_ret
    exact ⟨ret_bool HE.out.symm, Below.refl _ _⟩
  have hi : ((T.extl.length : Int) == 0) = false := by rw [beq_eq_false_iff_ne]; omega
  by_cases h1 : T.extl.length ≤ 3
  rotate_left 1
  · have h1i : ¬ (T.extl.length : Int) ≤ 3 := by omega
    have HE := Lib.hid (show extlB T = false by unfold extlB; rw [if_neg h0, decide_eq_false h1]; rfl)
    clear hh hT R1 R2 R3 R4 hF h0 h1
    go_enter Tryz.func117, Tryz.ntmps117
    go_wp2_with fail
    go_ret
    exact ⟨ret_bool HE.out.symm, Below.refl _ _⟩
  have h1i : (T.extl.length : Int) ≤ 3 := by omega
  by_cases h2 : T.lang.size ≤ 3
  · have h2i : (T.lang.size : Int) ≤ 3 := by omega
    have HE := Lib.hid (show extlB T = T.extl.all extlangS by unfold extlB; rw [if_neg h0, decide_eq_true h1, decide_eq_true h2]; rfl)
    clear hh hT R1 R2 R3 R4 hF h0 h1 h2
    go_enter Tryz.func117, Tryz.ntmps117
    go_wp2_with (go_at_call 106; (with_reducible refine H.out.mono ?_); rintro e w1 ⟨rfl, hb⟩)
    go_ret
    exact ⟨ret_bool HE.out.symm, hb⟩
  · have h2i : ¬ (T.lang.size : Int) ≤ 3 := by omega
    have HE := Lib.hid (show extlB T = false by unfold extlB; rw [if_neg h0, decide_eq_true h1, decide_eq_false h2]; rfl)
    clear hh hT R1 R2 R3 R4 hF h0 h1 h2
    go_enter Tryz.func117, Tryz.ntmps117
    go_wp2_with fail
    go_ret
    exact ⟨ret_bool HE.out.symm, Below.refl _ _⟩
set_option maxRecDepth 100000 in
set_option maxHeartbeats 2000000 in
theorem r_vars (b : Nat) (T : TagM) (w : World) (hR : RuleAt w b T) (hF : TagTiny T) :
    Calls Tryz.prog 120 #[.pointer (some ⟨b, 0, none⟩)] w fun e w' => e = .returned (.bool (T.vars.all variantS && decide (Maps.size (setD T.vars) = T.vars.length))) ∧ Below w.heap.size w w' := by
  obtain ⟨a1, p1, a2, p2, a3, p3, a4, p4, hh, hT⟩ := hR
  obtain ⟨R1, R2, R3, R4⟩ := RuleAt.rows (b := b) hT rfl
  obtain ⟨q0, q1, q2, q3, q4, q5, q6, q7⟩ := tag_cells hh
  have H := Lib.hid (every_any 152 _ T.vars variantS w R2 (by have := hF.v; omega) (asks_of _ _ _ _ (Go.Proofs.enters_of Tryz.func152 (by kernel_rfl) rfl) fun x hx w5 => variant_own x w5 (by have := hF.sv x hx; unfold maxLen; omega)))
  have HD := Lib.hid (fun w5 (hb : Below w.heap.size w w5) => distinct_own _ T.vars w5 (R2.below hb) (by have := hF.v; omega) (fun x hx => by have := hF.sv x hx; unfold maxLen; omega))
  have HQ := Lib.hid (fun w5 (hb : Below w.heap.size w w5) => tag_cells ((hb.block _ (lt_of_heapJ hh)).trans hh))
  generalize decide (Maps.size (setD T.vars) = T.vars.length) = dd at *
  obtain ⟨va, hva⟩ : ∃ va, T.vars.all variantS = va := ⟨_, rfl⟩
  rw [hva] at H
  have HV := Lib.hid hva
  clear hh hT R1 R2 R3 R4 hF hva
  cases va with
  | true =>
    go_enter Tryz.func120, Tryz.ntmps120
    go_wp2_with (first | (go_at_call 106; (with_reducible refine H.out.mono ?_); rintro e w1 ⟨rfl, hb⟩; obtain ⟨z0, z1, z2, z3, z4, z5, z6, z7⟩ := HQ.out _ hb) | (go_at_call 153; (with_reducible refine (HD.out _ hb).mono ?_); rintro e w2 ⟨rfl, hb2⟩))
    go_ret
    exact ⟨ret_bool (by rw [HV.out]; rfl), hb.trans (hb2.mono hb.size)⟩
  | false =>
    go_enter Tryz.func120, Tryz.ntmps120
    go_wp2_with (go_at_call 106; (with_reducible refine H.out.mono ?_); rintro e w1 ⟨rfl, hb⟩)
    go_ret
    exact ⟨ret_bool (by rw [HV.out]; rfl), hb⟩
end Go.Proofs.YtggfdmhfcpabdaaGreatDoor

/-! Package tag: the rules that hold whole tags against others; extensions. -/
namespace Go.Proofs.YtggfdmhfcpabdaaGreatDoor
open Go Go.RowKit

def onlyG (T : TagM) : TagM := ⟨ByteArray.empty, [], ByteArray.empty, ByteArray.empty, [], [], [], T.grand⟩
def onlyP (T : TagM) : TagM := ⟨ByteArray.empty, [], ByteArray.empty, ByteArray.empty, [], [], T.priv, ByteArray.empty⟩
theorem row_nil (W : World) : Row W (.slice none 0 0) [] := ⟨none, 0, rfl, fun i x h => by simp at h⟩
theorem xrow_nil (W : World) : ExtRow W (.slice none 0 0) [] := ⟨none, 0, rfl, fun i x h => by simp at h⟩
theorem onlyG_is (T : TagM) (W : World) : TagIs W (.agg #[.string ⟨#[]⟩, .slice none 0 0, .string ⟨#[]⟩, .string ⟨#[]⟩, .slice none 0 0, .slice none 0 0, .slice none 0 0, .string T.grand]) (onlyG T) :=
  ⟨_, _, _, _, rfl, row_nil W, row_nil W, xrow_nil W, row_nil W⟩
theorem onlyP_is (T : TagM) (W : World) (v : Value) (h : Row W v T.priv) : TagIs W (.agg #[.string ⟨#[]⟩, .slice none 0 0, .string ⟨#[]⟩, .string ⟨#[]⟩, .slice none 0 0, .slice none 0 0, v, .string ⟨#[]⟩]) (onlyP T) :=
  ⟨_, _, _, _, rfl, row_nil W, row_nil W, xrow_nil W, h⟩
set_option maxRecDepth 100000 in
set_option maxHeartbeats 4000000 in
theorem r_onlyG (b : Nat) (T : TagM) (w : World) (hR : RuleAt w b T) (hF : TagTiny T) :
    Calls Tryz.prog 110 #[.pointer (some ⟨b, 0, none⟩)] w fun e w' => e = .returned (.bool (sameT T (onlyG T))) ∧ Below w.heap.size w w' := by
  obtain ⟨a1, p1, a2, p2, a3, p3, a4, p4, hh, hT⟩ := hR
  obtain ⟨R1, R2, R3, R4⟩ := RuleAt.rows (b := b) hT rfl
  have SM := Lib.hid (fun w5 (hb : Below w.heap.size w w5) => (same_own _ _ T (onlyG T) w5 (hT.below hb) (onlyG_is T w5) hF.fits).mono (R' := fun e w7 => e = .returned (.bool (sameT T (onlyG T))) ∧ Below w.heap.size w w7) fun e w7 ⟨p, q⟩ => ⟨p, hb.trans (q.mono hb.size)⟩)
  have HQ := Lib.hid (fun w5 (hb : Below w.heap.size w w5) => tag_cells ((hb.block _ (lt_of_heapJ hh)).trans hh))
  obtain ⟨q0, q1, q2, q3, q4, q5, q6, q7⟩ := HQ.out w.drew (Below.drew (Below.refl _ _))
  have hb0 : Below w.heap.size w w.drew := Below.drew (Below.refl _ _)
  generalize sameT T (onlyG T) = bb at *
  clear hh hT R1 R2 R3 R4 hF
  go_enter Tryz.func110, Tryz.ntmps110
  go_upto_region 1 with fail
  go_region_held3 (fun w' => Below w.heap.size w w' ∧ w'.cell? ⟨b, 0, none⟩ = some (.string T.lang) ∧ w'.cell? ⟨b, 1, none⟩ = some (.slice a1 T.extl.length p1) ∧ w'.cell? ⟨b, 2, none⟩ = some (.string T.script) ∧ w'.cell? ⟨b, 3, none⟩ = some (.string T.region) ∧ w'.cell? ⟨b, 4, none⟩ = some (.slice a2 T.vars.length p2) ∧ w'.cell? ⟨b, 5, none⟩ = some (.slice a3 T.exts.length p3) ∧ w'.cell? ⟨b, 6, none⟩ = some (.slice a4 T.priv.length p4) ∧ w'.cell? ⟨b, 7, none⟩ = some (.string T.grand))
    (first | exact ⟨by assumption, by assumption, by assumption, by assumption, by assumption, by assumption, by assumption, by assumption, by assumption⟩ | exact ⟨hb9, HQ.out _ hb9⟩)
    (first | (go_at_call 146; (with_reducible refine (SM.out _ hb0).mono ?_); rintro e w9 ⟨rfl, hb9⟩))
  all_goals (try go_wp2_with fail)
  go_ret
  exact ⟨rfl, hb9⟩
set_option maxRecDepth 100000 in
set_option maxHeartbeats 4000000 in
theorem r_onlyP (b : Nat) (T : TagM) (w : World) (hR : RuleAt w b T) (hF : TagTiny T) :
    Calls Tryz.prog 112 #[.pointer (some ⟨b, 0, none⟩)] w fun e w' => e = .returned (.bool (sameT T (onlyP T))) ∧ Below w.heap.size w w' := by
  obtain ⟨a1, p1, a2, p2, a3, p3, a4, p4, hh, hT⟩ := hR
  obtain ⟨R1, R2, R3, R4⟩ := RuleAt.rows (b := b) hT rfl
  have SM := Lib.hid (fun w5 (hb : Below w.heap.size w w5) => (same_own _ _ T (onlyP T) w5 (hT.below hb) (onlyP_is T w5 _ (R4.below hb)) hF.fits).mono (R' := fun e w7 => e = .returned (.bool (sameT T (onlyP T))) ∧ Below w.heap.size w w7) fun e w7 ⟨p, q⟩ => ⟨p, hb.trans (q.mono hb.size)⟩)
  have HQ := Lib.hid (fun w5 (hb : Below w.heap.size w w5) => tag_cells ((hb.block _ (lt_of_heapJ hh)).trans hh))
  obtain ⟨q0, q1, q2, q3, q4, q5, q6, q7⟩ := HQ.out w.drew (Below.drew (Below.refl _ _))
  have hb0 : Below w.heap.size w w.drew := Below.drew (Below.refl _ _)
  generalize sameT T (onlyP T) = bb at *
  clear hh hT R1 R2 R3 R4 hF
  go_enter Tryz.func112, Tryz.ntmps112
  go_upto_region 1 with fail
  go_region_held3 (fun w' => Below w.heap.size w w' ∧ w'.cell? ⟨b, 0, none⟩ = some (.string T.lang) ∧ w'.cell? ⟨b, 1, none⟩ = some (.slice a1 T.extl.length p1) ∧ w'.cell? ⟨b, 2, none⟩ = some (.string T.script) ∧ w'.cell? ⟨b, 3, none⟩ = some (.string T.region) ∧ w'.cell? ⟨b, 4, none⟩ = some (.slice a2 T.vars.length p2) ∧ w'.cell? ⟨b, 5, none⟩ = some (.slice a3 T.exts.length p3) ∧ w'.cell? ⟨b, 6, none⟩ = some (.slice a4 T.priv.length p4) ∧ w'.cell? ⟨b, 7, none⟩ = some (.string T.grand))
    (first | exact ⟨by assumption, by assumption, by assumption, by assumption, by assumption, by assumption, by assumption, by assumption, by assumption⟩ | exact ⟨hb9, HQ.out _ hb9⟩)
    (first | (go_at_call 146; (with_reducible refine (SM.out _ hb0).mono ?_); rintro e w9 ⟨rfl, hb9⟩))
  all_goals (try go_wp2_with fail)
  go_ret
  exact ⟨rfl, hb9⟩

theorem Acc.below {W0 W W' : World} {L : List ByteArray} {v : Value} (h : Acc W0 L v W) (hb : Below W.heap.size W W') : Acc W0 L v W' := ⟨ownsRow_belowF h.1 hb, h.2.trans (hb.mono h.2.size)⟩
def pX (x : ByteArray × List ByteArray) : Bool := singletonS x.1 && (decide (x.2.length ≠ 0) && x.2.all fun s => okS s && decide (2 ≤ s.size))
def keysT (T : TagM) : List ByteArray := T.exts.map (·.1)
def extsB (T : TagM) : Bool := T.exts.all pX && decide (Maps.size (setD (keysT T)) = (keysT T).length)
set_option maxRecDepth 100000 in
set_option maxHeartbeats 8000000 in
theorem r_exts (b : Nat) (T : TagM) (w : World) (hR : RuleAt w b T) (hF : TagTiny T) :
    Calls Tryz.prog 121 #[.pointer (some ⟨b, 0, none⟩)] w fun e w' => e = .returned (.bool (extsB T)) ∧ Below w.heap.size w w' := by
  obtain ⟨i0, hi, hz0, hz1, hz2⟩ := info_parts stringInfo
  obtain ⟨a1, p1, a2, p2, a3, p3, a4, p4, hh, hT⟩ := hR
  obtain ⟨R1, R2, ⟨ao, cp, hao, K3⟩, R4⟩ := RuleAt.rows (b := b) hT rfl
  cases hao
  obtain ⟨q0, q1, q2, q3, q4, q5, q6, q7⟩ := tag_cells hh
  have HK3 := Lib.hid K3
  have HSX := Lib.hid hF.sx
  have hlen : T.exts.length ≤ 8 := hF.x
  have HEB := Lib.hid (show extsB T = (T.exts.all pX && decide (Maps.size (setD (keysT T)) = (keysT T).length)) from rfl)
  clear hh hT R1 R2 R4 hF K3
  go_enter Tryz.func121, Tryz.ntmps121
  go_wp2_with fail
  go_loopw [3, 12] (fun u i wr => ∃ k : Nat, k ≤ T.exts.length ∧ i = .int .i64 (k : Int) ∧ Acc w ((T.exts.take k).map (·.1)) u wr ∧ (T.exts.take k).all pX = true) (fun _ i _ => T.exts.length - (intOf i).toNat)
  case atStart => exact ⟨0, Nat.zero_le _, rfl, Acc.start w, rfl⟩
  case round =>
    obtain ⟨k, hk, rfl, HA, hall⟩ := hrel
    have hsz := HA.2.size
    by_cases hlt : k < T.exts.length
    · have hki : (k : Int) < (T.exts.length : Int) := by omega
      have hk0 : (0 : Int) ≤ (k : Int) := by omega
      obtain ⟨x, hx⟩ : ∃ x, T.exts[k]? = some x := ⟨_, List.getElem?_eq_getElem hlt⟩
      obtain ⟨g, vs, hg, hcx, hcy, hrow⟩ := HK3.out k x hx
      cases hg
      have c1 := (HA.2.cell (p := ⟨g, k * 2, none⟩) (lt_of_cellF hcx)).trans hcx
      have c2 := (HA.2.cell (p := ⟨g, k * 2 + 1, none⟩) (lt_of_cellF hcy)).trans hcy
      obtain ⟨s1, s2, s3⟩ := HSX.out x (List.mem_of_getElem? hx)
      obtain ⟨W5, hW5⟩ : ∃ W5, wr.alloc (.cells #[.string x.1, vs] 48) = W5 := ⟨_, rfl⟩
      have hb5 : Below wr.heap.size wr W5 := by rw [← hW5]; exact (Below.refl _ wr).alloc (Nat.le_refl _) _
      have hX5 : W5.heap[wr.heap.size]? = some (.cells #[.string x.1, vs] 48 (0, 0)) := by rw [← hW5]; exact World.alloc_heap_new wr _
      have HA5 := Lib.hid (HA.below hb5)
      have HC5 := Lib.hid (fun w6 (hb : Below W5.heap.size W5 w6) => And.intro (cell_row2 0 ((hb.block _ (lt_of_heapJ hX5)).trans hX5) rfl) (cell_row2 1 ((hb.block _ (lt_of_heapJ hX5)).trans hX5) rfl))
      have SG := Lib.hid (singleton_own x.1 W5 (by unfold maxLen; omega))
      have EV := Lib.hid (fun w6 (hb : Below W5.heap.size W5 w6) => (every_any 155 _ x.2 (fun s => okS s && decide (2 ≤ s.size)) w6 (hrow.below ((HA.2.trans (hb5.mono HA.2.size)).trans (hb.mono (HA.2.trans (hb5.mono HA.2.size)).size))) (by omega) (asks_of _ _ _ _ (Go.Proofs.enters_of Tryz.func155 (by kernel_rfl) rfl) fun y hy w7 => extended_own y w7 (by have := s3 y hy; unfold maxLen; omega))).mono (R' := fun e w8 => e = .returned (.bool (x.2.all fun s => okS s && decide (2 ≤ s.size))) ∧ Below W5.heap.size W5 w8) fun e w8 ⟨p, q⟩ => ⟨p, hb.trans (q.mono hb.size)⟩)
      have HN := Lib.hid (show (T.exts.take (k + 1)).all pX = pX x by rw [take_next hx, List.all_append, hall]; simp)
      have HM := Lib.hid (show (T.exts.take (k + 1)).map (·.1) = (T.exts.take k).map (·.1) ++ [x.1] by rw [take_next hx, List.map_append]; rfl)
      have HBAD := Lib.hid (fun (h : pX x = false) => show extsB T = false by rw [HEB.out, show T.exts.all pX = false by rw [List.all_eq_false]; exact ⟨x, List.mem_of_getElem? hx, by rw [h]; simp⟩]; rfl)
      have HPX := Lib.hid (show pX x = (singletonS x.1 && (decide (x.2.length ≠ 0) && x.2.all fun s => okS s && decide (2 ≤ s.size))) from rfl)
      have hlm : ((T.exts.take k).map (·.1)).length ≤ 8 := by rw [List.length_map, List.length_take]; omega
      have HX5 := Lib.hid hX5
      obtain ⟨va, vc, rfl, -⟩ := hrow
      obtain ⟨d0, d1⟩ := HC5.out W5 (Below.refl _ _)
      generalize pX x = px at *
      generalize (T.exts.take k).map (·.1) = L at *
      generalize (x.2.all fun s => okS s && decide (2 ≤ s.size)) = ev at *
      generalize singletonS x.1 = sg at *
      have hend : ∀ w6, Below W5.heap.size W5 w6 → Below w.heap.size w w6 := fun w6 hb => (HA5.out.below hb).2
      have HEND := Lib.hid hend
      clear hcx hcy HA hall hx hb5 hX5 s1 s3 hend
      cases sg with
      | false =>
        go_wp2_with (go_at_call 154; (with_reducible refine SG.out.mono ?_); rintro e w6 ⟨rfl, hb6⟩)
        go_ret
        exact ⟨ret_bool (HBAD.out (by rw [HPX.out]; rfl)).symm, HEND.out _ hb6⟩
      | true =>
        by_cases hl0 : x.2.length = 0
        · have hl1 : ((x.2.length : Int) == 0) = true := by rw [beq_iff_eq]; omega
          have HL0 := Lib.hid hl0
          clear hl0
          go_wp2_with (go_at_call 154; (with_reducible refine SG.out.mono ?_); rintro e w6 ⟨rfl, hb6⟩; obtain ⟨e0, e1⟩ := HC5.out _ hb6)
          go_ret
          exact ⟨ret_bool (HBAD.out (by rw [HPX.out, decide_eq_false (fun h => h HL0.out)]; rfl)).symm, HEND.out _ hb6⟩
        · have hl1 : ((x.2.length : Int) == 0) = false := by rw [beq_eq_false_iff_ne]; omega
          cases ev with
          | false =>
            go_wp2_with (first | (go_at_call 154; (with_reducible refine SG.out.mono ?_); rintro e w6 ⟨rfl, hb6⟩; obtain ⟨e0, e1⟩ := HC5.out _ hb6) | (go_at_call 106; (with_reducible refine (EV.out _ hb6).mono ?_); rintro e w7 ⟨rfl, hb7⟩; obtain ⟨f0, f1⟩ := HC5.out _ hb7))
            go_ret
            exact ⟨ret_bool (HBAD.out (by rw [HPX.out]; simp)).symm, HEND.out _ hb7⟩
          | true =>
            have HT := Lib.hid (show px = true by rw [HPX.out, decide_eq_true hl0]; rfl)
            go_wp2_with (first | (go_at_call 154; (with_reducible refine SG.out.mono ?_); rintro e w6 ⟨rfl, hb6⟩; obtain ⟨e0, e1⟩ := HC5.out _ hb6) | (go_at_call 106; (with_reducible refine (EV.out _ hb6).mono ?_); rintro e w7 ⟨rfl, hb7⟩; obtain ⟨f0, f1⟩ := HC5.out _ hb7; have HA7 := HA5.out.below hb7; have hs7 := HA7.2.size) | (at_builtin; refine wpList_append_own _ rfl _ _ 28 rfl w.heap.size 9 i0 (.string ByteArray.empty) 1 16 Tryz.underlying28 hi hz0 hz1 hz2 rfl (by decide) _ _ _ rfl (HA7.1.alloc _) ⟨_, 0, none⟩ 1 1 [.string x.1] rfl rfl (cell_one_new _ _ _) (by intro u hu; simp at hu; subst hu; rfl) (by unfold maxLen; omega) (by omega) (by simp; omega) ?_; intro v' w8 hown1 hgrow _))
            go_roundw
            case rel => exact ⟨k + 1, by omega, by go_num, by rw [HM.out]; exact HA7.push hown1 hgrow, by rw [HN.out]; exact HT.out⟩
            case measure => simp [intOf]; omega
    · obtain rfl : k = T.exts.length := by omega
      have hki : ¬ (T.exts.length : Int) < (T.exts.length : Int) := by omega
      rw [List.take_of_length_le (Nat.le_refl _)] at HA hall
      have HA : Acc w (keysT T) u3 wr := HA
      have DI := Lib.hid (fun (v : Value) (hv : Row wr v (keysT T)) => distinct_own v (keysT T) wr hv (by show (T.exts.map (·.1)).length ≤ _; rw [List.length_map]; omega) (fun y hy => by obtain ⟨z, hz, rfl⟩ := List.mem_map.1 hy; have := (HSX.out z hz).1; unfold maxLen; omega))
      have hrw : Row wr u3 (keysT T) := Row.of_own HA.1
      obtain ⟨ka, kc, rfl, -⟩ := Row.of_own HA.1
      have DI2 := Lib.hid (DI.out _ hrw)
      have HE := Lib.hid (show extsB T = decide (Maps.size (setD (keysT T)) = (keysT T).length) by rw [HEB.out, hall]; rfl)
      have HB := Lib.hid HA.2
      generalize decide (Maps.size (setD (keysT T)) = (keysT T).length) = dd at *
      clear HA hrw hall
      go_wp2_with (go_at_call 153; (with_reducible refine DI2.out.mono ?_); rintro e w9 ⟨rfl, hb9⟩)
      go_ret
      exact ⟨ret_bool HE.out.symm, HB.out.trans (hb9.mono HB.out.size)⟩
end Go.Proofs.YtggfdmhfcpabdaaGreatDoor
