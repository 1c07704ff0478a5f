/-
  Package grand: its array as the program's text lays it; Search's question; Search; Find; Regular.
-/
import Derived.Test.YtpnhjpplfjamkaaGreatDoorBase
import Derived.Test.YtpnhjpplfjamkaaGreatDoorBMaths
import Derived.Test.YtpnhjpplfjamkaaGreatDoorSeqs
import Derived.Deep.MidRow
import Derived.LaidLaws
namespace Go.Proofs.YtpnhjpplfjamkaaGreatDoor
open Go Go.RowKit

theorem lt_of_cellE {W : World} {a : Addr} {v : Value} (h : W.cell? a = some v) : a.block < W.heap.size := by
  rcases Nat.lt_or_ge a.block W.heap.size with h' | h'
  · exact h'
  · simp [World.cell?, Array.getElem?_eq_none h'] at h
/-- The array's cells. -/
def gC : List Value := gL.flatMap fun x => [.string x.1, .bool x.2]
theorem gC_len : gC.length = 52 := by decide +kernel
theorem gC_name (k : Nat) (hk : k < 26) : gC[k * 2]? = some (.string (nameG k)) := by
  have h : k = 0 ∨ k = 1 ∨ k = 2 ∨ k = 3 ∨ k = 4 ∨ k = 5 ∨ k = 6 ∨ k = 7 ∨ k = 8 ∨ k = 9 ∨ k = 10 ∨ k = 11 ∨ k = 12 ∨ k = 13 ∨ k = 14 ∨ k = 15 ∨ k = 16 ∨ k = 17 ∨ k = 18 ∨ k = 19 ∨ k = 20 ∨ k = 21 ∨ k = 22 ∨ k = 23 ∨ k = 24 ∨ k = 25 := by omega
  rcases h with rfl | rfl | rfl | rfl | rfl | rfl | rfl | rfl | rfl | rfl | rfl | rfl | rfl | rfl | rfl | rfl | rfl | rfl | rfl | rfl | rfl | rfl | rfl | rfl | rfl | rfl <;> rfl
theorem gC_reg (k : Nat) (hk : k < 26) : gC[k * 2 + 1]? = some (.bool (regG k)) := by
  have h : k = 0 ∨ k = 1 ∨ k = 2 ∨ k = 3 ∨ k = 4 ∨ k = 5 ∨ k = 6 ∨ k = 7 ∨ k = 8 ∨ k = 9 ∨ k = 10 ∨ k = 11 ∨ k = 12 ∨ k = 13 ∨ k = 14 ∨ k = 15 ∨ k = 16 ∨ k = 17 ∨ k = 18 ∨ k = 19 ∨ k = 20 ∨ k = 21 ∨ k = 22 ∨ k = 23 ∨ k = 24 ∨ k = 25 := by omega
  rcases h with rfl | rfl | rfl | rfl | rfl | rfl | rfl | rfl | rfl | rfl | rfl | rfl | rfl | rfl | rfl | rfl | rfl | rfl | rfl | rfl | rfl | rfl | rfl | rfl | rfl | rfl <;> rfl

theorem gGlobal : Tryz.prog.globalNamed "isogloss/grand.tags" = some 0 := by kernel_rfl
/-- The variable holds the tags. -/
def GL (W : World) : Prop := W.var? Tryz.prog "isogloss/grand.tags" = some gC.toArray
theorem GL.size {W : World} (h : GL W) : 0 < W.heap.size := by
  have h' : World.var? Tryz.prog W "isogloss/grand.tags" = _ := h
  unfold World.var? at h'
  rw [gGlobal] at h'
  rcases Nat.lt_or_ge 0 W.heap.size with hl | hl
  · exact hl
  · simp [Array.getElem?_eq_none hl] at h'
theorem GL.below {B : Nat} {w w' : World} (h : GL w) (hb : Below B w w') (hB : 0 < B) : GL w' := var?_below hb gGlobal hB h
theorem GL.block {w w' : World} (h : GL w) (hb : w'.heap[0]? = w.heap[0]?) : GL w' := by
  have h' : World.var? Tryz.prog w "isogloss/grand.tags" = _ := h
  show World.var? Tryz.prog w' "isogloss/grand.tags" = _
  unfold World.var? at h' ⊢
  rw [gGlobal] at h' ⊢
  simp only [Option.bind_some] at h' ⊢
  rw [hb]; exact h'
theorem GL.name {W : World} (h : GL W) (k : Nat) (hk : k < 26) : W.cell? ⟨0, k * 2, none⟩ = some (.string (nameG k)) := by
  have := World.var?_cell gGlobal h (k * 2)
  rw [this]
  simpa using gC_name k hk
theorem GL.load {W : World} (h : GL W) : (Instr.loadAt 104 (.pointer (some ⟨0, 0, none⟩))).run Tryz.prog W = .ok (.agg gC.toArray) W :=
  run_loadAt_mid W 0 0 104 gC (.array 26 103) (fun j v hj => by
    rw [Nat.zero_add, World.var?_cell gGlobal h j]
    simpa using hj) (by kernel_rfl) rfl (by rw [gC_len]; kernel_rfl)

set_option maxRecDepth 100000 in
/-- Search's question. -/
theorem asks_any (b i : Nat) (s : ByteArray) (w : World) (hs : s.size ≤ maxLen) (hi : i < 26) (hg : GL w) (hb : w.heap[b]? = some (.cells #[.string s] 9 (0, 0))) :
    Calls Tryz.prog 60 #[.int .i64 (i : Int), .pointer (some ⟨b, 0, none⟩)] w fun e w' => e = .returned (.bool (decide (searchV s ≤ i))) ∧ Below w.heap.size w w' := by
  have hc := cell_of_one hb
  have hn := hg.name i hi
  have h0 : (0 : Int) ≤ (i : Int) := by omega
  have h1 : (i : Int) < 26 := by omega
  have hgs := hg.size
  have hbs := lt_of_block hb
  obtain ⟨z, hz⟩ : ∃ z, cmpS (nameG i) s = z := ⟨_, rfl⟩
  have HE := Lib.hid (show decide (0 ≤ z) = decide (searchV s ≤ i) by rw [decide_eq_decide, ← hz]; exact search_iff s i hi)
  have CC := Lib.hid (fun w5 (hb5 : Below w.heap.size w w5) => (comp_any (nameG i) s w5 (Nat.le_trans (name_size i hi).2 (show 11 ≤ maxLen by decide)) hs).mono (R' := fun e w6 => e = .returned (.int .i64 z) ∧ Below w.heap.size w w6 ∧ w6.cell? ⟨b, 0, none⟩ = some (.string s) ∧ w6.cell? ⟨0, i * 2, none⟩ = some (.string (nameG i)))
    fun e w6 ⟨p, q⟩ => ⟨by rw [p, hz], hb5.trans (q.mono hb5.size), ((hb5.trans (q.mono hb5.size)).cell (p := ⟨b, 0, none⟩) hbs).trans hc, ((hb5.trans (q.mono hb5.size)).cell (p := ⟨0, i * 2, none⟩) hgs).trans hn⟩)
  clear hb hg hz hs
  generalize nameG i = t at *
  go_enter Tryz.func60, Tryz.ntmps60
  go_wp2_with fail
  have hd : Below w.heap.size w w.drew := Below.drew (Below.refl _ _)
  have hc1 : w.drew.cell? ⟨b, 0, none⟩ = some (.string s) := hc
  have hn1 : w.drew.cell? ⟨0, i * 2, none⟩ = some (.string t) := hn
  go_region_held3 (fun w' => Below w.heap.size w w' ∧ w'.cell? ⟨b, 0, none⟩ = some (.string s) ∧ w'.cell? ⟨0, i * 2, none⟩ = some (.string t))
    (first | exact ⟨by assumption, by assumption, by assumption⟩)
    (first | (go_at_call 61; (with_reducible refine (CC.out _ (by assumption)).mono ?_); rintro e w5 ⟨rfl, hb5, hc5, hn5⟩))
  go_wp2
  go_ret
  exact ⟨ret_bool HE.out, by assumption⟩

set_option maxRecDepth 100000 in
set_option maxHeartbeats 1000000 in
/-- Search over the question. -/
theorem search_any (b : Nat) (s : ByteArray) (w : World) (hs : s.size ≤ maxLen) (hg : GL w) (hb : w.heap[b]? = some (.cells #[.string s] 9 (0, 0))) :
    Calls Tryz.prog 59 #[.int .i64 26, .func (.func 60) #[] #[.pointer (some ⟨b, 0, none⟩)]] w fun e w' => e = .returned (.int .i64 (searchV s : Int)) ∧ Below w.heap.size w w' := by
  have hgs := hg.size
  have hbs := lt_of_block hb
  have Q := Lib.hid (fun i w5 (hi : i < 26) (hb5 : Below w.heap.size w w5) => (asks_any b i s w5 hs hi (hg.below hb5 hgs) ((hb5.block _ hbs).trans hb)).mono (R' := fun e w6 => e = .returned (.bool (decide (searchV s ≤ i))) ∧ Below w.heap.size w w6) fun e w6 ⟨p, q⟩ => ⟨p, hb5.trans (q.mono hb5.size)⟩)
  have hL := search_le s
  clear hs hg hb
  generalize searchV s = v at *
  go_enter Tryz.func59, Tryz.ntmps59
  go_wp2
  go_loopw [5, 6] (fun x y wr => ∃ lo hi : Nat, x = .int .i64 (lo : Int) ∧ y = .int .i64 (hi : Int) ∧ lo ≤ v ∧ v ≤ hi ∧ hi ≤ 26 ∧ Below w.heap.size w wr) (fun x y _ => (intOf y).toNat - (intOf x).toNat)
  case atStart => exact ⟨0, 26, rfl, rfl, Nat.zero_le _, hL, Nat.le_refl _, Below.refl _ _⟩
  case round =>
    obtain ⟨lo, hi, rfl, rfl, h1, h2, h3, hB⟩ := hrel
    by_cases hlt : lo < hi
    · have hlt' : (lo : Int) < (hi : Int) := by omega
      obtain ⟨m, hm⟩ : ∃ m, (lo + hi) / 2 = m := ⟨_, rfl⟩
      have hmi : ((lo : Int) + (hi : Int)) / 2 = (m : Int) := by omega
      have hml : lo ≤ m := by omega
      have hmh : m < hi := by omega
      have hx0 : (0 : Int) ≤ (m : Int) := by omega
      have hx1 : (m : Int) ≤ 25 := by omega
      by_cases hv : v ≤ m
      · have QM := Lib.hid (fun w5 (hb5 : Below w.heap.size w w5) => show Calls Tryz.prog 60 #[.int .i64 (m : Int), .pointer (some ⟨b, 0, none⟩)] w5 fun e w6 => e = .returned (.bool true) ∧ Below w.heap.size w w6 by
          have := Q.out m w5 (by omega) hb5
          rwa [decide_eq_true hv] at this)
        go_wp2_with (go_at_call 60; (with_reducible refine (QM.out _ hB).mono ?_); rintro e w5 ⟨rfl, hb5⟩)
        go_roundw
        case rel => exact ⟨lo, m, rfl, rfl, h1, hv, by omega, by assumption⟩
        case measure => simp [intOf]; omega
      · have QM := Lib.hid (fun w5 (hb5 : Below w.heap.size w w5) => show Calls Tryz.prog 60 #[.int .i64 (m : Int), .pointer (some ⟨b, 0, none⟩)] w5 fun e w6 => e = .returned (.bool false) ∧ Below w.heap.size w w6 by
          have := Q.out m w5 (by omega) hb5
          rwa [decide_eq_false hv] at this)
        go_wp2_with (go_at_call 60; (with_reducible refine (QM.out _ hB).mono ?_); rintro e w5 ⟨rfl, hb5⟩)
        go_roundw
        case rel => exact ⟨m + 1, hi, by go_num, rfl, by omega, h2, h3, by assumption⟩
        case measure => simp [intOf]; omega
    · obtain rfl : lo = v := by omega
      obtain rfl : lo = hi := by omega
      have hlt' : ¬ (lo : Int) < (lo : Int) := by omega
      go_wp2
      go_ret
      exact ⟨rfl, hB⟩

set_option maxRecDepth 100000 in
/-- Which tag a text is. -/
theorem find_any (s : ByteArray) (w : World) (hs : s.size ≤ maxLen) (hg : GL w) :
    Calls Tryz.prog 35 #[.string s] w fun e w' => e = .returned (.tuple #[.int .i64 ((findV s).getD 0 : Nat), .bool (findV s).isSome]) ∧ Below w.heap.size w w' := by
  obtain ⟨v, hv⟩ : ∃ v, searchV s = v := ⟨_, rfl⟩
  have hvl : v ≤ 26 := hv ▸ search_le s
  have hgs := hg.size
  have hmf : ∀ (fn : Fn) (first cap : Array Value) (w : World), (Instr.makeFunc fn first cap).run Tryz.prog w = .ok (.func fn first cap) w := fun _ _ _ _ => rfl
  have hb0 : Below w.heap.size w (w.alloc (.cells #[.string s] 9)) := (Below.refl _ w).alloc (Nat.le_refl _) _
  have hc0 : (w.alloc (.cells #[.string s] 9)).heap[w.heap.size]? = some (.cells #[.string s] 9 (0, 0)) := World.alloc_heap_new w _
  have hs0 : w.heap.size < (w.alloc (.cells #[.string s] 9)).heap.size := by simp
  have hg0 := hg.below hb0 hgs
  have SE := Lib.hid ((search_any w.heap.size s _ hs hg0 hc0).mono (R' := fun e w6 => e = .returned (.int .i64 (v : Int)) ∧ Below w.heap.size w w6 ∧ w6.cell? ⟨w.heap.size, 0, none⟩ = some (.string s) ∧ GL w6)
    fun e w6 ⟨p, q⟩ => ⟨by rw [p, hv], hb0.trans (q.mono hb0.size), cell_of_one ((q.block _ hs0).trans hc0), hg.below (hb0.trans (q.mono hb0.size)) hgs⟩)
  have hv0 : (0 : Int) ≤ (v : Int) := by omega
  by_cases hlt : v < 26
  · have hlt' : (v : Int) < 26 := by omega
    have hd26 : decide ((v : Int) < 26) = true := decide_eq_true hlt'
    obtain ⟨z, hz⟩ : ∃ z, sameS (nameG v) s = z := ⟨_, rfl⟩
    have hF : findV s = if z = true then some v else none := by
      unfold findV
      rw [hv, hz]
      simp [hlt]
    have HF := Lib.hid hF
    have SA := Lib.hid (fun w5 (hb5 : Below w.heap.size w w5) (hc5 : w5.cell? ⟨w.heap.size, 0, none⟩ = some (.string s)) => (same_any (nameG v) s w5 (Nat.le_trans (name_size v hlt).2 (show 11 ≤ maxLen by decide)) hs).mono (R' := fun e w6 => e = .returned (.bool z) ∧ Below w.heap.size w w6 ∧ w6.cell? ⟨w.heap.size, 0, none⟩ = some (.string s) ∧ w6.cell? ⟨0, v * 2, none⟩ = some (.string (nameG v)))
      fun e w6 ⟨p, q⟩ => ⟨by rw [p, hz], hb5.trans (q.mono hb5.size), (q.cell (p := ⟨w.heap.size, 0, none⟩) (lt_of_cellE hc5)).trans hc5, (hg.below (hb5.trans (q.mono hb5.size)) hgs).name v hlt⟩)
    have HN := Lib.hid (fun w5 (h5 : GL w5) => h5.name v hlt)
    clear hv hz hF hg hg0 hc0 hs0 hb0 hvl
    generalize nameG v = t at *
    go_enter Tryz.func35, Tryz.ntmps35
    go_wp2_with (go_at_call 59; refine SE.out.mono ?_; rintro e w2 ⟨rfl, hb2, hc2, hg2⟩)
    have hn2 := HN.out _ hg2
    have hd : Below w.heap.size w w2.drew := Below.drew hb2
    have hc3 : w2.drew.cell? ⟨w.heap.size, 0, none⟩ = some (.string s) := hc2
    have hn3 : w2.drew.cell? ⟨0, v * 2, none⟩ = some (.string t) := hn2
    go_region_held3 (fun w' => Below w.heap.size w w' ∧ w'.cell? ⟨w.heap.size, 0, none⟩ = some (.string s) ∧ w'.cell? ⟨0, v * 2, none⟩ = some (.string t))
      (first | exact ⟨by assumption, by assumption, by assumption⟩)
      (first | (go_at_call 62; (with_reducible refine (SA.out _ (by assumption) (by assumption)).mono ?_); rintro e w5 ⟨rfl, hb5, hc5, hn5⟩))
    cases z
    · have HR := Lib.hid (show findV s = none from HF.out)
      go_wp2
      go_ret2
      exact ⟨by rw [HR.out]; rfl, by assumption⟩
    · have HR := Lib.hid (show findV s = some v from HF.out)
      go_wp2
      go_ret2
      exact ⟨by rw [HR.out]; rfl, by assumption⟩
  · obtain rfl : v = 26 := by omega
    have HR := Lib.hid (show findV s = none by unfold findV; rw [hv]; simp)
    have hd26 : decide (((26 : Nat) : Int) < 26) = false := rfl
    clear hv hg hg0 hc0 hs0 hb0 hvl
    go_enter Tryz.func35, Tryz.ntmps35
    go_wp2_with (go_at_call 59; refine SE.out.mono ?_; rintro e w2 ⟨rfl, hb2, hc2, hg2⟩)
    go_quiet (fail)
    go_wp2
    go_ret2
    exact ⟨by rw [HR.out]; rfl, by first | assumption | exact below_drewN (by assumption) _⟩
end Go.Proofs.YtpnhjpplfjamkaaGreatDoor
