/-
  GrandNames: it returns true.
-/
import Derived.Test.YtaeaknpkjgacdaaDoorEKit
namespace Go.Proofs.YtaeaknpkjgacdaaDoor
open Go Go.RowKit

set_option maxHeartbeats 1000000 in
theorem names_any (b : Nat) (n : Int) (w : World) (hg : GL w) (hl : LG b w) (hb : b < w.heap.size) :
    Calls Tryd.prog 14 #[.slice (some ⟨b, 0, none⟩) 26 26, .int .i64 n] w fun e w' => e = .returned (.bool true) ∧ Below w.heap.size w w' := by
  have hgs := hg.size
  by_cases hin : 0 ≤ n ∧ n < 26
  · obtain ⟨k, rfl⟩ : ∃ k : Nat, n = (k : Int) := ⟨n.toNat, by omega⟩
    have hk : k < 26 := by omega
    have h0 : ¬ (k : Int) < 0 := by omega
    have h1 : ¬ 26 ≤ (k : Int) := by omega
    have h2 : (0 : Int) ≤ (k : Int) := by omega
    have h3 : (k : Int) < 26 := by omega
    have hc := hl k hk
    have NA := Lib.hid ((name_any k w hg).mono (R' := fun e w6 => e = .returned (.tuple #[.string (nameG k), .bool true]) ∧ Below w.heap.size w w6) fun e w6 ⟨p, q⟩ => ⟨by rw [p, nameV_in k hk], q⟩)
    have FI := Lib.hid (fun w5 (hb5 : Below w.heap.size w w5) => (find_any (nameG k) w5 (Nat.le_trans (name_size k hk).2 (show 11 ≤ maxLen by decide)) (hg.below hb5 hgs)).mono (R' := fun e w6 => e = .returned (.tuple #[.int .i64 (k : Int), .bool true]) ∧ Below w.heap.size w w6) fun e w6 ⟨p, q⟩ => ⟨by rw [p, findV_name k hk]; rfl, hb5.trans (q.mono hb5.size)⟩)
    have CK := Lib.hid (fun w5 (hb5 : Below w.heap.size w w5) => (hb5.cell (p := ⟨b, k, none⟩) hb).trans hc)
    have N5 := Lib.hid (fun w5 (hb5 : Below w.heap.size w w5) => (name5_any k hk w5).mono (R' := fun e w6 => e = .returned (.string (nameG k)) ∧ Below w.heap.size w w6) fun e w6 ⟨p, q⟩ => ⟨p, q ▸ hb5⟩)
    have RE := Lib.hid (fun w5 (hb5 : Below w.heap.size w w5) => (regular_in k hk w5 (hg.below hb5 hgs)).mono (R' := fun e w6 => e = .returned (.bool (regG k)) ∧ Below w.heap.size w w6) fun e w6 ⟨p, q⟩ => ⟨p, q ▸ hb5⟩)
    have hne := star_ne k hk
    clear hl hg hin hk
    generalize starG k = st at *
    generalize nameG k = t at *
    generalize regG k = r at *
    cases r
    · have he : st = t := by simpa using hne
      subst he
      clear hne
      go_enter Tryd.func14, Tryd.ntmps14
      go_wp2_with (first | (go_at_call 16; (with_reducible refine NA.out.mono ?_); rintro e w1 ⟨rfl, hb1⟩) | (go_at_call 23; (with_reducible refine (FI.out _ hb1).mono ?_); rintro e w2 ⟨rfl, hb2⟩))
      have hc2 := CK.out _ hb2
      have hd := Below.drew hb2
      have hcd := CK.out _ hd
      go_region_held3 (fun w' => Below w.heap.size w w' ∧ w'.cell? ⟨b, k, none⟩ = some (.string st))
        (first | exact ⟨by assumption, by assumption⟩)
        (first | (go_at_call 10; (with_reducible refine (N5.out _ (by assumption)).mono ?_); rintro e w5 ⟨rfl, hb5⟩; have hc5 := CK.out _ hb5) | (go_at_call 22; (with_reducible refine (RE.out _ (by assumption)).mono ?_); rintro e w5 ⟨rfl, hb5⟩; have hc5 := CK.out _ hb5))
      go_wp2
      go_ret
      exact ⟨rfl, by assumption⟩
    · have he : ¬ st = t := by simpa using hne
      have he1 := texts_ne he
      clear hne
      go_enter Tryd.func14, Tryd.ntmps14
      go_wp2_with (first | (go_at_call 16; (with_reducible refine NA.out.mono ?_); rintro e w1 ⟨rfl, hb1⟩) | (go_at_call 23; (with_reducible refine (FI.out _ hb1).mono ?_); rintro e w2 ⟨rfl, hb2⟩))
      have hc2 := CK.out _ hb2
      have hd := Below.drew hb2
      have hcd := CK.out _ hd
      go_region_held3 (fun w' => Below w.heap.size w w' ∧ w'.cell? ⟨b, k, none⟩ = some (.string st))
        (first | exact ⟨by assumption, by assumption⟩)
        (first | (go_at_call 10; (with_reducible refine (N5.out _ (by assumption)).mono ?_); rintro e w5 ⟨rfl, hb5⟩; have hc5 := CK.out _ hb5) | (go_at_call 22; (with_reducible refine (RE.out _ (by assumption)).mono ?_); rintro e w5 ⟨rfl, hb5⟩; have hc5 := CK.out _ hb5))
      go_wp2
      go_ret
      exact ⟨rfl, by assumption⟩
  · have hout : n < 0 ∨ 26 ≤ n := by omega
    have NA := Lib.hid ((name_any n w hg).mono (R' := fun e w6 => e = .returned (.tuple #[.string ⟨#[]⟩, .bool false]) ∧ Below w.heap.size w w6) fun e w6 ⟨p, q⟩ => ⟨by rw [p, nameV_out n hout], q⟩)
    have RE := Lib.hid (fun w5 => regular_out n hout w5)
    clear hg hl hin
    by_cases h0 : n < 0
    · clear hout
      go_enter Tryd.func14, Tryd.ntmps14
      go_wp2_with (first | (go_at_call 16; (with_reducible refine NA.out.mono ?_); rintro e w1 ⟨rfl, hb1⟩) | (go_at_call 22; (with_reducible refine (RE.out _).mono ?_); rintro e w2 ⟨rfl, rfl⟩))
      go_ret
      exact ⟨rfl, by assumption⟩
    · have h1 : 26 ≤ n := by omega
      clear hout
      go_enter Tryd.func14, Tryd.ntmps14
      go_wp2_with (first | (go_at_call 16; (with_reducible refine NA.out.mono ?_); rintro e w1 ⟨rfl, hb1⟩) | (go_at_call 22; (with_reducible refine (RE.out _).mono ?_); rintro e w2 ⟨rfl, rfl⟩))
      go_ret
      exact ⟨rfl, by assumption⟩

theorem names_law (n : Int) (w : World) (_hn : (Lit.int .i64 n).wf = true) (hg : GL w) :
    Calls Tryd.prog 4 #[.int .i64 n] w fun e w' => e = .returned (.bool true) ∧ Below w.heap.size w w' := by
  have hgs := hg.size
  have AW := Lib.hid (awake5_any w hg)
  have hr0 := restV_lt n 30 (by omega)
  have RS := Lib.hid (fun w5 => show Calls Tryd.prog 11 #[.int .i64 n, .int .i64 30] w5 fun e w' => e = .returned (.int .i64 (restV n 30 : Int)) ∧ w5 = w' from rest5_any n 30 w5 (by omega) (by omega))
  obtain ⟨k, hk⟩ : ∃ k, restV n 30 = k := ⟨_, rfl⟩
  rw [hk] at RS hr0
  have h0 : (0 : Int) ≤ (k : Int) := by omega
  have h1 : (k : Int) < 30 := by omega
  have NM := Lib.hid (fun b w5 m (hb5 : Below w.heap.size w w5) (hl : LG b w5) (hb : b < w5.heap.size) => (names_any b m w5 (hg.below hb5 hgs) hl hb).mono (R' := fun e w6 => e = .returned (.bool true) ∧ Below w.heap.size w w6 ∧ LG b w6 ∧ b < w6.heap.size) fun e w6 ⟨p, q⟩ => ⟨p, hb5.trans (q.mono hb5.size), hl.below q hb, Nat.lt_of_lt_of_le hb q.size⟩)
  clear hg hk
  go_enter Tryd.func4, Tryd.ntmps4
  go_wp2_with (first | (go_at_call 8; (with_reducible refine AW.out.mono ?_); rintro e w1 ⟨rfl, hb1⟩) | (go_at_call 9; refine (list_any _).mono ?_; rintro e w2 ⟨rfl, hl2, hb2, hz2⟩; have hb3 := hb1.trans (hb2.mono hb1.size)) | (go_at_call 11; (with_reducible refine (RS.out _).mono ?_); rintro e w5 ⟨rfl, rfl⟩) | (go_at_call 14; (with_reducible refine (NM.out _ _ _ (by assumption) (by assumption) (by assumption)).mono ?_); rintro e w4 ⟨rfl, hb4, hl4, hz4⟩))
  go_ret
  exact ⟨rfl, by assumption⟩
end Go.Proofs.YtaeaknpkjgacdaaDoor
