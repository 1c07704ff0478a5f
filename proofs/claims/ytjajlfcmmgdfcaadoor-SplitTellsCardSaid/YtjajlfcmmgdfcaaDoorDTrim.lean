/-
  Package split: single, Trim.
-/
import Derived.Test.YtjajlfcmmgdfcaaDoorDIndex

namespace Go.Proofs.YtjajlfcmmgdfcaaDoor
open Go Go.RowKit

theorem single_last2 {s : ByteArray} (h : singleL (bs s)) : ∃ m, s.size = m + 2 ∧ (bs s)[m]? = some 45 ∧ ∃ c, (bs s)[m + 1]? = some c ∧ c ≠ 45 := by
  obtain ⟨a, c, e, hc⟩ := h
  refine ⟨a.length, ?_, ?_, c, ?_, hc⟩
  · rw [← size_bs, e]; simp
  · rw [e]; simp
  · rw [e, show a ++ [45, c] = (a ++ [45]) ++ [c] by simp, List.getElem?_append_right (by simp)]; simp
theorem single_of2 {s : ByteArray} {m : Nat} (h : s.size = m + 2) (h1 : (bs s)[m]? = some 45) {c : UInt8} (h2 : (bs s)[m + 1]? = some c) (hc : c ≠ 45) : singleL (bs s) := by
  refine ⟨(bs s).take m, c, ?_, hc⟩
  have hl : (bs s).length = m + 2 := by rw [size_bs]; exact h
  obtain ⟨q1, e1⟩ := List.getElem?_eq_some_iff.1 h1
  obtain ⟨q2, e2⟩ := List.getElem?_eq_some_iff.1 h2
  conv => lhs; rw [← List.take_append_drop m (bs s)]
  rw [List.drop_eq_getElem_cons q1, List.drop_eq_getElem_cons q2, e1, e2, List.drop_of_length_le (by omega)]

theorem mark_true {c : UInt8} (h : c = 45) : ((c.toNat : Int) == 45) = true ∧ ((c.toNat : Int) != 45) = false := by rw [h]; exact ⟨rfl, rfl⟩
theorem mark_false {c : UInt8} (h : c ≠ 45) : ((c.toNat : Int) == 45) = false ∧ ((c.toNat : Int) != 45) = true := by
  have e : ((c.toNat : Int) == 45) = false := by
    rw [beq_eq_false_iff_ne]
    exact fun e => h (UInt8.toNat_inj.1 (by have : c.toNat = 45 := by omega
                                            simpa using this))
  exact ⟨e, by rw [bne, e]; rfl⟩

set_option maxHeartbeats 1000000 in
theorem single_yes (s : ByteArray) (w : World) (hs : s.size ≤ 140737488351232) (h : singleL (bs s)) :
    Calls Tryd.prog 34 #[.string s] w fun e w' => e = .returned (.bool true) ∧ w = w' := by
  obtain ⟨m, hm, h1, c, h2, hc⟩ := single_last2 h
  rw [bs_get s m (by omega)] at h1
  rw [bs_get s (m + 1) (by omega)] at h2
  have e1 := (mark_true (Option.some.inj h1)).1
  have e2 := (mark_false (show s[m + 1] ≠ 45 by rw [Option.some.inj h2]; exact hc)).2
  clear h h1 h2
  go_enter Tryd.func34, Tryd.ntmps34
  go_wp2
  go_ret
  exact ⟨rfl, rfl⟩
set_option maxHeartbeats 1000000 in
theorem single_no (s : ByteArray) (w : World) (hs : s.size ≤ 140737488351232) (h : ¬ singleL (bs s)) :
    Calls Tryd.prog 34 #[.string s] w fun e w' => e = .returned (.bool false) ∧ w = w' := by
  by_cases h2 : s.size < 2
  · have g : ¬ (2 : Int) ≤ (s.size : Int) := by omega
    clear h
    go_enter Tryd.func34, Tryd.ntmps34
    go_wp2
    go_ret
    exact ⟨rfl, rfl⟩
  · obtain ⟨m, hm⟩ : ∃ m, s.size = m + 2 := ⟨s.size - 2, by omega⟩
    by_cases hc : s[m] = 45
    · have hd : s[m + 1] = 45 := by
        rcases Decidable.em (s[m + 1] = 45) with hd | hd
        · exact hd
        · exact (h (single_of2 hm (by rw [bs_get s m (by omega), hc]) (bs_get s (m + 1) (by omega)) hd)).elim
      have e1 := (mark_true hc).1
      have e2 := (mark_true hd).2
      clear h hc hd
      go_enter Tryd.func34, Tryd.ntmps34
      go_wp2
      go_ret
      exact ⟨rfl, rfl⟩
    · have e1 := (mark_false hc).1
      clear h hc
      go_enter Tryd.func34, Tryd.ntmps34
      go_wp2
      go_ret
      exact ⟨rfl, rfl⟩

theorem take_extract (s : ByteArray) (e : Nat) : s.extract 0 e = ofL ((bs s).take e) := by
  apply ofL_ext
  rw [bs_ofL]
  show (s.extract 0 e).data.toList = _
  rw [Lib.extract_data]
  simp
theorem trimS_none {s : ByteArray} (h : (45 : UInt8) ∉ bs s) : trimS s = ⟨#[]⟩ := by unfold trimS; rw [trimL_none h]; rfl
set_option maxHeartbeats 1000000 in
theorem trim_split (s : ByteArray) (w : World) (hs : s.size ≤ 140737488351232) :
    Calls Tryd.prog 21 #[.string s] w fun e w' => e = .returned (.string (trimS s)) ∧ w = w' := by
  have HL := Lib.hid (fun w5 => last_any s w5 hs)
  rcases lastM_cases (bs s) with ⟨h1, h2⟩ | ⟨a, p, h1, h2, h3⟩
  · have HT := Lib.hid (trimS_none h2)
    rw [h1] at HL
    clear h1 h2
    go_enter Tryd.func21, Tryd.ntmps21
    go_wp2_with (go_at_call 33; refine (HL.out _).mono ?_; rintro e w' ⟨rfl, rfl⟩)
    go_ret
    exact ⟨ret_string HT.out.symm, rfl⟩
  · have hsz : s.size = a.length + 1 + p.length := by rw [← size_bs, h2]; simp; omega
    have HA := Lib.hid (show trimS s = ofL (cutL ((bs s).take a.length)) by
      unfold trimS
      conv => lhs; rw [h2, trimL_some h3]
      rw [h2, List.take_left])
    rw [h1] at HL
    have hle : a.length ≤ s.size := by omega
    generalize a.length = n at *
    clear h1 h2 h3 hsz
    have h0 : (0 : Int) ≤ (n : Int) := by omega
    go_enter Tryd.func21, Tryd.ntmps21
    go_wp2_with (go_at_call 33; refine (HL.out _).mono ?_; rintro e w' ⟨rfl, rfl⟩)
    go_loop [3] (fun i => ∃ e : Nat, e ≤ s.size ∧ i = .int .i64 e ∧ Hid (trimS s = ofL (cutL ((bs s).take e)))) (fun i => (intOf i).toNat)
    case atStart => exact ⟨n, hle, rfl, HA⟩
    case round =>
      obtain ⟨e, he, rfl, HE⟩ := hrel
      have hx : bs (s.extract 0 e) = (bs s).take e := by rw [take_extract s e, bs_ofL]
      have hxs : (s.extract 0 e).size ≤ 140737488351232 := by rw [ByteArray.size_extract]; omega
      have hi0 : (0 : Int) ≤ (e : Int) := by omega
      have hi1 : (e : Int) ≤ (s.size : Int) := by omega
      rcases Classical.em (singleL (bs (s.extract 0 e))) with hsg | hsg
      · have HS := Lib.hid (fun w5 => single_yes (s.extract 0 e) w5 hxs hsg)
        obtain ⟨b, c, hb, hc⟩ := hsg
        rw [hx] at hb
        have hbl : b.length + 2 = e := by
          have : ((bs s).take e).length = b.length + 2 := by rw [hb]; simp
          rw [List.length_take, size_bs] at this; omega
        have HN := Lib.hid (show trimS s = ofL (cutL ((bs s).take b.length)) by
          rw [HE.out, hb, cutL_single hc]
          have : (bs s).take b.length = b := by
            have h := congrArg (List.take b.length) hb
            rw [List.take_take, Nat.min_eq_left (by omega), List.take_left] at h
            exact h
          rw [this])
        subst hbl
        clear hx hxs hb hc
        generalize b.length = m at *
        go_wp2_with (go_at_call 34; refine (HS.out _).mono ?_; rintro e w' ⟨rfl, rfl⟩)
        go_round
        case rel => exact ⟨m, by omega, by go_num, HN⟩
        case measure => simp [intOf]; omega
      · have HS := Lib.hid (fun w5 => single_no (s.extract 0 e) w5 hxs hsg)
        have HN := Lib.hid (show trimS s = s.extract 0 e by
          rw [HE.out, ← hx, cutL_stop hsg, ofL_bs])
        clear hx hxs hsg
        go_wp2_with (go_at_call 34; refine (HS.out _).mono ?_; rintro e w' ⟨rfl, rfl⟩)
        go_ret
        exact ⟨ret_string HN.out.symm, rfl⟩
end Go.Proofs.YtjajlfcmmgdfcaaDoor
