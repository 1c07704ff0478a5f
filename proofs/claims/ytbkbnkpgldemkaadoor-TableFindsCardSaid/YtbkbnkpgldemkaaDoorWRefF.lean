/-
  The document's Find; begins.
-/
import Derived.Test.YtbkbnkpgldemkaaDoorWRefM
namespace Go.Proofs.YtbkbnkpgldemkaaDoor
open Go Go.RowKit

/-- Where the document finds a key. -/
def refF (K : Nat) (L : List ByteArray) (key : ByteArray) : Int := match L.findIdx? fun r => decide (keyW K r = key) with
  | some i => (i : Int)
  | none => -1
set_option maxRecDepth 100000 in
set_option maxHeartbeats 1000000 in
theorem refFind_any (v : Value) (L : List ByteArray) (key : ByteArray) (K : Nat) (w : World) (hv : RowW w v L) (hl : L.length ≤ 1000) (hs : ∀ x ∈ L, K ≤ x.size) :
    Calls Tryd.prog 30 #[v, .string key, .int .i64 (K : Int)] w fun e w' => e = .returned (.int .i64 (refF K L key)) ∧ w = w' := by
  have HV := Lib.hid hv
  have HS := Lib.hid hs
  obtain ⟨ao, c, rfl, -⟩ := hv
  clear hs
  have k0 : (0 : Int) ≤ (K : Int) := by omega
  go_enter Tryd.func30, Tryd.ntmps30
  go_wp2_with fail
  go_loopw [7] (fun i wr => ∃ k : Nat, k ≤ L.length ∧ i = .int .i64 (k : Int) ∧ Hid (∀ i r, i < k → L[i]? = some r → keyW K r ≠ key) ∧ wr = w) (fun i _ => L.length + 1 - (intOf i).toNat)
  case atStart => exact ⟨0, Nat.zero_le _, rfl, Lib.hid (fun i r h => by omega), rfl⟩
  case round =>
    obtain ⟨k, hk, rfl, HP, hw⟩ := hrel
    subst hw
    by_cases hlt : k < L.length
    · have hki : (k : Int) < (L.length : Int) := by omega
      have hd : decide (k < L.length) = true := decide_eq_true hlt
      have hk0 : (0 : Int) ≤ (k : Int) := by omega
      obtain ⟨x, hx⟩ : ∃ x, L[k]? = some x := ⟨_, List.getElem?_eq_getElem hlt⟩
      obtain ⟨ao', cap', e', hc⟩ := HV.out
      injection e' with q1 q2 q3
      subst q1
      subst q3
      obtain ⟨g0, o0, rfl, c0⟩ := hc k x hx
      have x1 : (K : Int) ≤ (x.size : Int) := by have := HS.out x (mem_of_at hx); omega
      by_cases he : keyW K x = key
      · have e1 : ((x.extract 0 K).toList == key.toList) = true := by rw [eql_W]; exact decide_eq_true he
        have HF := Lib.hid (show refF K L key = (k : Int) from by
          unfold refF
          rw [show L.findIdx? (fun r => decide (keyW K r = key)) = some k from by
            rw [List.findIdx?_eq_some_iff_getElem]
            obtain ⟨hk', rfl⟩ := List.getElem?_eq_some_iff.1 hx
            exact ⟨hk', by simpa using he, fun j hj => by simpa using HP.out j _ hj (List.getElem?_eq_getElem (by omega))⟩])
        clear hc hx he
        go_wp2_with fail
        go_ret
        exact ⟨ret_intW HF.out.symm, rfl⟩
      · have e1 : ((x.extract 0 K).toList == key.toList) = false := by rw [eql_W]; exact decide_eq_false he
        have HP2 := Lib.hid (show ∀ i r, i < k + 1 → L[i]? = some r → keyW K r ≠ key from fun i r hi hr => by
          rcases Nat.lt_or_ge i k with h | h
          · exact HP.out i r h hr
          · obtain rfl : i = k := by omega
            rw [hx] at hr; cases hr; exact he)
        clear hc hx he
        go_wp2_with fail
        go_roundw
        case rel => exact ⟨k + 1, by omega, by go_num, HP2, trivial⟩
        case measure => simp [intOf]; omega
    · obtain rfl : k = L.length := by omega
      have hki : ¬ (L.length : Int) < (L.length : Int) := by omega
      have hd : decide (L.length < L.length) = false := decide_eq_false (by omega)
      have HF := Lib.hid (show refF K L key = -1 from by
        unfold refF
        rw [show L.findIdx? (fun r => decide (keyW K r = key)) = none from List.findIdx?_eq_none_iff.2 fun x hx => by
          obtain ⟨i, hi⟩ := List.getElem?_of_mem hx
          simpa using HP.out i x (List.getElem?_eq_some_iff.1 hi).1 hi])
      go_wp2_with fail
      go_ret
      exact ⟨ret_intW HF.out.symm, rfl⟩

set_option maxRecDepth 100000 in
theorem begins_any (r key : ByteArray) (w : World) :
    Calls Tryd.prog 31 #[.string r, .string key] w fun e w' => e = .returned (.bool (startsW r key)) ∧ w = w' := by
  by_cases h : key.size ≤ r.size
  · have h1 : decide (key.size ≤ r.size) = true := decide_eq_true h
    have h2 : (key.size : Int) ≤ (r.size : Int) := by omega
    have h3 : (0 : Int) ≤ (key.size : Int) := by omega
    have HS := Lib.hid (startsW_eq r key)
    obtain ⟨z, hz⟩ : ∃ z, ((r.extract 0 key.size).toList == key.toList) = z := ⟨_, rfl⟩
    have HZ := Lib.hid (show startsW r key = z by
      rw [HS.out, ← hz, eql_W]
      rw [Bool.eq_iff_iff, beq_iff_eq, decide_eq_true_eq]
      exact ⟨bL_ext, fun e => by rw [e]⟩)
    go_enter Tryd.func31, Tryd.ntmps31
    go_wp2_with fail
    go_ret
    exact ⟨ret_boolW HZ.out.symm, rfl⟩
  · have h1 : decide (key.size ≤ r.size) = false := decide_eq_false h
    have h2 : ¬ (key.size : Int) ≤ (r.size : Int) := by omega
    have HZ := Lib.hid (startsW_size (r := r) (key := key) (by omega))
    go_enter Tryd.func31, Tryd.ntmps31
    go_wp2_with fail
    go_ret
    exact ⟨ret_boolW HZ.out.symm, rfl⟩
end Go.Proofs.YtbkbnkpgldemkaaDoor
