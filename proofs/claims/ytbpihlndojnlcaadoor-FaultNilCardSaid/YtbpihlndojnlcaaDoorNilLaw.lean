/-
  The walk of FaultNil: it returns true.
-/
import Derived.Test.YtbpihlndojnlcaaDoorDigits
import Derived.Test.YtbpihlndojnlcaaDoorMade
import Derived.Test.YtbpihlndojnlcaaDoorWhats
namespace Go.Proofs.YtbpihlndojnlcaaDoor
open Go Go.RowKit

theorem error_says (s : ByteArray) (p : Int) : (⟨(says p s ++ [110, 111, 110, 101]).toArray⟩ : ByteArray) = s ++ ⟨#[32, 97, 116, 32]⟩ ++ ⟨(Lib.itoa p).toArray⟩ ++ ⟨#[58, 32, 110, 111, 110, 101]⟩ := by
  apply ByteArray.ext
  apply Array.toList_inj.1
  simp [says]
theorem owns_shape00 {w : World} {B : Nat} {e : TypeId} {sz : Nat} {v : Value} {xs : List Value} (h : w.ownsRow B e sz v 0 xs) : ∃ ao cap, v = .slice ao 0 cap := by
  rcases owns_shape h with rfl | ⟨g, cap, rfl⟩
  · exact ⟨_, _, rfl⟩
  · exact ⟨_, _, rfl⟩

set_option maxRecDepth 100000 in
set_option maxHeartbeats 4000000 in
theorem nil_law (at_ : Int) (what : ByteArray) (w : World) (h0 : -9223372036854775808 ≤ at_) (h1 : at_ ≤ 9223372036854775807) (hg : TypeLaid w) (ht : TabLaid w) (hgt : 1 < w.heap.size) :
    Calls Tryd.prog 5 #[.int .i64 at_, .string what] w fun e w' => e = .returned (.bool true) ∧ Below w.heap.size w w' := by
  by_cases hsz : 12 < what.size
  all_goals
    have HG := Lib.hid hg
    have HT := Lib.hid ht
    clear hg ht
    go_enter Tryd.func5, Tryd.ntmps5
    go_wp2_with fail
    refine (unwrap_nil _).mono ?_
    rintro e w1 ⟨rfl, rfl⟩
  · obtain ⟨s, hs⟩ : ∃ s, what.extract 0 12 = s := ⟨_, rfl⟩
    have hs12 : s.size ≤ 12 := by rw [← hs, ByteArray.size_extract]; omega
    rw [hs]
    clear hs hsz
    obtain ⟨w4, hw4⟩ : ∃ w4, w.alloc (.cells #[.int .i64 at_, .string s, .nilIface] 44) = w4 := ⟨_, rfl⟩
    have hf4 : w4.heap[w.heap.size]? = some (faultObj at_ s .nilIface) := by rw [← hw4]; exact block_new _ _
    have hb4 : Below w.heap.size w w4 := by rw [← hw4]; exact (Below.refl _ w).alloc (Nat.le_refl _) _
    have hs4 : w4.heap.size = w.heap.size + 1 := by rw [← hw4]; simp
    rw [hw4]
    clear hw4
    have HF4 := Lib.hid hf4
    have HB4 := Lib.hid hb4
    have HS4 := Lib.hid hs4
    clear hf4 hb4 hs4
    go_wp2_with fail
    refine (unwrap_f _ .nilIface _ (faultObj_cell HF4.out).2.2).mono ?_
    rintro e w1 ⟨rfl, rfl⟩
    go_wp2_with fail
    refine (new_ok _ _ _).mono ?_
    rintro e w1 ⟨rfl, rfl⟩
    go_wp2_with fail
    refine (wrap_nil _ _ _).mono ?_
    rintro e w1 ⟨rfl, rfl⟩
    have HT4 := Lib.hid (HT.out.below HB4.out hgt)
    have HG4 := Lib.hid (HG.out.below HB4.out HG.out.size)
    obtain ⟨dg, hdg⟩ : ∃ dg : ByteArray, (⟨(Lib.itoa at_).toArray⟩ : ByteArray) = dg := ⟨_, rfl⟩
    have hdl : dg.size ≤ 21 := by rw [← hdg]; have := Lib.itoa_length_le at_ h0 h1; show (Lib.itoa at_).toArray.size ≤ 21; simpa using this
    have hn4 : w.heap.size + 1 ≤ w4.heap.size := by rw [HS4.out]; exact Nat.le_refl _
    have hch : Chain w4 (w.heap.size + 1) (.iface 42 (.pointer (some ⟨w.heap.size, 0, none⟩))) [.fault w.heap.size at_ s] := ⟨rfl, Nat.lt_succ_self _, _, HF4.out, rfl⟩
    have KA := Lib.hid (fun w5 (hb : Below w4.heap.size w4 w5) => (awake_law w5 (HG4.out.below hb HG4.out.size)).mono (R' := fun e w6 => e = .returned (.bool true) ∧ Below w4.heap.size w4 w6) fun e w6 ⟨h1, h2⟩ => ⟨h1, hb.trans (h2.mono hb.size)⟩)
    have KE0 := Lib.hid (fun w5 (hb : Below w4.heap.size w4 w5) => (error_nil w5).mono (R' := fun e w6 => e = .returned (.string ⟨#[110, 111, 110, 101]⟩) ∧ Below w4.heap.size w4 w6) fun e w6 ⟨h1, h2⟩ => ⟨h1, hb.trans (h2.mono hb.size)⟩)
    have KE := Lib.hid (fun w5 (hb : Below w4.heap.size w4 w5) => (error_one w.heap.size at_ s w5 hs12 h0 h1 ((hb.block _ (by omega)).trans HF4.out) (HT4.out.below hb (by omega)) (by have := hb.size; omega)).mono (R' := fun e w6 => e = .returned (.string (s ++ ⟨#[32, 97, 116, 32]⟩ ++ dg ++ ⟨#[58, 32, 110, 111, 110, 101]⟩)) ∧ Below w4.heap.size w4 w6) fun e w6 ⟨h1, h2⟩ => ⟨by rw [h1, error_says, hdg], hb.trans (h2.mono hb.size)⟩)
    have KD := Lib.hid (fun w5 (hb : Below w4.heap.size w4 w5) => (digits_any at_ w5 h0 h1).mono (R' := fun e w6 => e = .returned (.string dg) ∧ Below w4.heap.size w4 w6) fun e w6 ⟨h1, h2⟩ => ⟨by rw [h1, hdg], hb.trans (h2.mono hb.size)⟩)
    have KK0 := Lib.hid (fun w5 (hb : Below w4.heap.size w4 w5) => (kind_nil w5).mono (R' := fun e w6 => e = .returned (.int .i64 0) ∧ Below w4.heap.size w4 w6) fun e w6 ⟨h1, h2⟩ => ⟨h1, hb.trans (h2.mono hb.size)⟩)
    have KK := Lib.hid (fun w5 (hb : Below w4.heap.size w4 w5) => (kind_chain w5 (by simp) (Nat.le_trans hn4 hb.size) (hch.below hb hn4) (HG4.out.below hb HG4.out.size)).mono (R' := fun e w6 => e = .returned (.int .i64 1) ∧ Below w4.heap.size w4 w6) fun e w6 ⟨h1, h2⟩ => ⟨h1, hb.trans (h2.mono hb.size)⟩)
    have KP := Lib.hid (fun w5 (hb : Below w4.heap.size w4 w5) => (place_chain w5 (by simp) (Nat.le_trans hn4 hb.size) (hch.below hb hn4)).mono (R' := fun e w6 => e = .returned (.int .i64 at_) ∧ Below w4.heap.size w4 w6) fun e w6 ⟨h1, h2⟩ => ⟨h1, hb.trans (h2.mono hb.size)⟩)
    have KP0 := Lib.hid (fun w5 (hb : Below w4.heap.size w4 w5) => (place_chain (n₀ := 0) (v := .nilIface) (xs := []) w5 (by simp) (Nat.zero_le _) rfl).mono (R' := fun e w6 => e = .returned (.int .i64 (-1)) ∧ Below w4.heap.size w4 w6) fun e w6 ⟨h1, h2⟩ => ⟨h1, hb.trans (h2.mono hb.size)⟩)
    have KT0 := Lib.hid (fun w5 (hb : Below w4.heap.size w4 w5) => (total_chain (n₀ := 0) (v := .nilIface) (xs := []) w5 (by simp) (Nat.zero_le _) rfl).mono (R' := fun e w6 => e = .returned (.int .i64 0) ∧ Below w4.heap.size w4 w6) fun e w6 ⟨h1, h2⟩ => ⟨h1, hb.trans (h2.mono hb.size)⟩)
    have KW0 := Lib.hid (fun w5 (hb : Below w4.heap.size w4 w5) => (whats_chain (n₀ := 0) (v := .nilIface) (xs := []) w5 (by simp) (Nat.zero_le _) rfl).mono (R' := fun e w6 => ∃ ao cap, e = .returned (.slice ao 0 cap) ∧ Below w4.heap.size w4 w6) fun e w6 ⟨u, h1, ho, h2⟩ => by
      obtain ⟨ao, cap, rfl⟩ := owns_shape00 ho
      exact ⟨ao, cap, h1, hb.trans (h2.mono hb.size)⟩)
    have HF := Lib.hid (fun wx (h : Below w4.heap.size w4 wx) => show Below w.heap.size w wx from HB4.out.trans (h.mono HB4.out.size))
    have hb0 := Below.refl w4.heap.size w4
    have hb0d := (Below.refl w4.heap.size w4).drew
    clear hch hn4 hdg h0 h1
    go_wp2_with fail
    refine (KA.out _ hb0).mono ?_
    rintro e v0 ⟨rfl, hc0⟩
    go_wp2_with fail
    refine (KE0.out _ hc0).mono ?_
    rintro e v1 ⟨rfl, hc1⟩
    go_wp2_with fail
    refine (KE.out _ hc1).mono ?_
    rintro e v2 ⟨rfl, hc2⟩
    go_wp2_with fail
    refine (KD.out _ hc2).mono ?_
    rintro e v3 ⟨rfl, hc3⟩
    go_wp2_with fail
    refine (KK0.out _ hc3).mono ?_
    rintro e v4 ⟨rfl, hc4⟩
    go_wp2_with fail
    refine (KK.out _ hc4).mono ?_
    rintro e v5 ⟨rfl, hc5⟩
    go_wp2_with fail
    refine (KP.out _ hc5).mono ?_
    rintro e v6 ⟨rfl, hc6⟩
    go_wp2_with fail
    refine (KP0.out _ hc6).mono ?_
    rintro e v7 ⟨rfl, hc7⟩
    go_wp2_with fail
    refine (KT0.out _ hc7).mono ?_
    rintro e v8 ⟨rfl, hc8⟩
    go_wp2_with fail
    refine (KW0.out _ hc8).mono ?_
    rintro e v9 ⟨ao, cap, rfl, hc9⟩
    go_wp2
    go_ret
    exact ⟨rfl, HF.out _ hc9⟩
  · have hs12 : what.size ≤ 12 := by omega
    generalize what = s at *
    clear hsz
    obtain ⟨w4, hw4⟩ : ∃ w4, w.alloc (.cells #[.int .i64 at_, .string s, .nilIface] 44) = w4 := ⟨_, rfl⟩
    have hf4 : w4.heap[w.heap.size]? = some (faultObj at_ s .nilIface) := by rw [← hw4]; exact block_new _ _
    have hb4 : Below w.heap.size w w4 := by rw [← hw4]; exact (Below.refl _ w).alloc (Nat.le_refl _) _
    have hs4 : w4.heap.size = w.heap.size + 1 := by rw [← hw4]; simp
    rw [hw4]
    clear hw4
    have HF4 := Lib.hid hf4
    have HB4 := Lib.hid hb4
    have HS4 := Lib.hid hs4
    clear hf4 hb4 hs4
    go_wp2_with fail
    refine (unwrap_f _ .nilIface _ (faultObj_cell HF4.out).2.2).mono ?_
    rintro e w1 ⟨rfl, rfl⟩
    go_wp2_with fail
    refine (new_ok _ _ _).mono ?_
    rintro e w1 ⟨rfl, rfl⟩
    go_wp2_with fail
    refine (wrap_nil _ _ _).mono ?_
    rintro e w1 ⟨rfl, rfl⟩
    have HT4 := Lib.hid (HT.out.below HB4.out hgt)
    have HG4 := Lib.hid (HG.out.below HB4.out HG.out.size)
    obtain ⟨dg, hdg⟩ : ∃ dg : ByteArray, (⟨(Lib.itoa at_).toArray⟩ : ByteArray) = dg := ⟨_, rfl⟩
    have hdl : dg.size ≤ 21 := by rw [← hdg]; have := Lib.itoa_length_le at_ h0 h1; show (Lib.itoa at_).toArray.size ≤ 21; simpa using this
    have hn4 : w.heap.size + 1 ≤ w4.heap.size := by rw [HS4.out]; exact Nat.le_refl _
    have hch : Chain w4 (w.heap.size + 1) (.iface 42 (.pointer (some ⟨w.heap.size, 0, none⟩))) [.fault w.heap.size at_ s] := ⟨rfl, Nat.lt_succ_self _, _, HF4.out, rfl⟩
    have KA := Lib.hid (fun w5 (hb : Below w4.heap.size w4 w5) => (awake_law w5 (HG4.out.below hb HG4.out.size)).mono (R' := fun e w6 => e = .returned (.bool true) ∧ Below w4.heap.size w4 w6) fun e w6 ⟨h1, h2⟩ => ⟨h1, hb.trans (h2.mono hb.size)⟩)
    have KE0 := Lib.hid (fun w5 (hb : Below w4.heap.size w4 w5) => (error_nil w5).mono (R' := fun e w6 => e = .returned (.string ⟨#[110, 111, 110, 101]⟩) ∧ Below w4.heap.size w4 w6) fun e w6 ⟨h1, h2⟩ => ⟨h1, hb.trans (h2.mono hb.size)⟩)
    have KE := Lib.hid (fun w5 (hb : Below w4.heap.size w4 w5) => (error_one w.heap.size at_ s w5 hs12 h0 h1 ((hb.block _ (by omega)).trans HF4.out) (HT4.out.below hb (by omega)) (by have := hb.size; omega)).mono (R' := fun e w6 => e = .returned (.string (s ++ ⟨#[32, 97, 116, 32]⟩ ++ dg ++ ⟨#[58, 32, 110, 111, 110, 101]⟩)) ∧ Below w4.heap.size w4 w6) fun e w6 ⟨h1, h2⟩ => ⟨by rw [h1, error_says, hdg], hb.trans (h2.mono hb.size)⟩)
    have KD := Lib.hid (fun w5 (hb : Below w4.heap.size w4 w5) => (digits_any at_ w5 h0 h1).mono (R' := fun e w6 => e = .returned (.string dg) ∧ Below w4.heap.size w4 w6) fun e w6 ⟨h1, h2⟩ => ⟨by rw [h1, hdg], hb.trans (h2.mono hb.size)⟩)
    have KK0 := Lib.hid (fun w5 (hb : Below w4.heap.size w4 w5) => (kind_nil w5).mono (R' := fun e w6 => e = .returned (.int .i64 0) ∧ Below w4.heap.size w4 w6) fun e w6 ⟨h1, h2⟩ => ⟨h1, hb.trans (h2.mono hb.size)⟩)
    have KK := Lib.hid (fun w5 (hb : Below w4.heap.size w4 w5) => (kind_chain w5 (by simp) (Nat.le_trans hn4 hb.size) (hch.below hb hn4) (HG4.out.below hb HG4.out.size)).mono (R' := fun e w6 => e = .returned (.int .i64 1) ∧ Below w4.heap.size w4 w6) fun e w6 ⟨h1, h2⟩ => ⟨h1, hb.trans (h2.mono hb.size)⟩)
    have KP := Lib.hid (fun w5 (hb : Below w4.heap.size w4 w5) => (place_chain w5 (by simp) (Nat.le_trans hn4 hb.size) (hch.below hb hn4)).mono (R' := fun e w6 => e = .returned (.int .i64 at_) ∧ Below w4.heap.size w4 w6) fun e w6 ⟨h1, h2⟩ => ⟨h1, hb.trans (h2.mono hb.size)⟩)
    have KP0 := Lib.hid (fun w5 (hb : Below w4.heap.size w4 w5) => (place_chain (n₀ := 0) (v := .nilIface) (xs := []) w5 (by simp) (Nat.zero_le _) rfl).mono (R' := fun e w6 => e = .returned (.int .i64 (-1)) ∧ Below w4.heap.size w4 w6) fun e w6 ⟨h1, h2⟩ => ⟨h1, hb.trans (h2.mono hb.size)⟩)
    have KT0 := Lib.hid (fun w5 (hb : Below w4.heap.size w4 w5) => (total_chain (n₀ := 0) (v := .nilIface) (xs := []) w5 (by simp) (Nat.zero_le _) rfl).mono (R' := fun e w6 => e = .returned (.int .i64 0) ∧ Below w4.heap.size w4 w6) fun e w6 ⟨h1, h2⟩ => ⟨h1, hb.trans (h2.mono hb.size)⟩)
    have KW0 := Lib.hid (fun w5 (hb : Below w4.heap.size w4 w5) => (whats_chain (n₀ := 0) (v := .nilIface) (xs := []) w5 (by simp) (Nat.zero_le _) rfl).mono (R' := fun e w6 => ∃ ao cap, e = .returned (.slice ao 0 cap) ∧ Below w4.heap.size w4 w6) fun e w6 ⟨u, h1, ho, h2⟩ => by
      obtain ⟨ao, cap, rfl⟩ := owns_shape00 ho
      exact ⟨ao, cap, h1, hb.trans (h2.mono hb.size)⟩)
    have HF := Lib.hid (fun wx (h : Below w4.heap.size w4 wx) => show Below w.heap.size w wx from HB4.out.trans (h.mono HB4.out.size))
    have hb0 := Below.refl w4.heap.size w4
    have hb0d := (Below.refl w4.heap.size w4).drew
    clear hch hn4 hdg h0 h1
    go_wp2_with fail
    refine (KA.out _ hb0).mono ?_
    rintro e v0 ⟨rfl, hc0⟩
    go_wp2_with fail
    refine (KE0.out _ hc0).mono ?_
    rintro e v1 ⟨rfl, hc1⟩
    go_wp2_with fail
    refine (KE.out _ hc1).mono ?_
    rintro e v2 ⟨rfl, hc2⟩
    go_wp2_with fail
    refine (KD.out _ hc2).mono ?_
    rintro e v3 ⟨rfl, hc3⟩
    go_wp2_with fail
    refine (KK0.out _ hc3).mono ?_
    rintro e v4 ⟨rfl, hc4⟩
    go_wp2_with fail
    refine (KK.out _ hc4).mono ?_
    rintro e v5 ⟨rfl, hc5⟩
    go_wp2_with fail
    refine (KP.out _ hc5).mono ?_
    rintro e v6 ⟨rfl, hc6⟩
    go_wp2_with fail
    refine (KP0.out _ hc6).mono ?_
    rintro e v7 ⟨rfl, hc7⟩
    go_wp2_with fail
    refine (KT0.out _ hc7).mono ?_
    rintro e v8 ⟨rfl, hc8⟩
    go_wp2_with fail
    refine (KW0.out _ hc8).mono ?_
    rintro e v9 ⟨ao, cap, rfl, hc9⟩
    go_wp2
    go_ret
    exact ⟨rfl, HF.out _ hc9⟩
end Go.Proofs.YtbpihlndojnlcaaDoor
