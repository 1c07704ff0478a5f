/-
  The document's answers for layers 3 and 12: Put, Get, texts, word, target.
-/
import Derived.Test.YtgjifikahlmioaaGreatDoorYRights
import Derived.Test.YtgjifikahlmioaaGreatDoorCPacks
import Derived.Deep.RegionHeld3
import Derived.Deep.CutRange
import Derived.Laws.ResultCell
namespace Go.Proofs.YtgjifikahlmioaaGreatDoor
open Go Go.RowKit

theorem byte_div (n k : Nat) : (((n / 256 ^ k : Nat) : Int) % 256) = ((byteAt n k).toNat : Int) := by
  rw [byteAt_nat]; omega
theorem conv_oneY (c : UInt8) (w : World) : (convert 97 9 (.slice (some ⟨w.heap.size, 0, none⟩) 1 1)).run Tryz.prog (w.alloc (.cells #[.int .u8 (c.toNat : Int)] 5)) = .ok (.string (ofL [c])) (w.alloc (.cells #[.int .u8 (c.toNat : Int)] 5)) :=
  run_convert_bytes_back (P := Tryz.prog) _ 97 9 5 ⟨w.heap.size, 0, none⟩ 1 [c] Tryz.underlying97 Tryz.underlying5 Tryz.underlying9 (fun j hj => by
    obtain rfl : j = 0 := by simpa using hj
    simp [Addr.add])
set_option maxRecDepth 100000 in
set_option maxHeartbeats 4000000 in
theorem putR_any (n : Nat) (w : World) (hn : n < 18446744073709551616) :
    Calls Tryz.prog 45 #[.int .u64 (n : Int), .int .i64 8] w fun e w' => e = .returned (.string (ofL (putL n 8))) ∧ Below w.heap.size w w' := by
  go_enter Tryz.func45, Tryz.ntmps45
  go_wp2
  go_loopw [0, 5, 6] (fun m s i wr => ∃ k : Nat, k ≤ 8 ∧ i = .int .i64 (k : Int) ∧ m = .int .u64 ((n / 256 ^ k : Nat) : Int) ∧ s = .string (ofL (putL n k)) ∧ Below w.heap.size w wr) (fun _ _ i _ => 8 - (intOf i).toNat)
  case atStart => exact ⟨0, Nat.zero_le _, rfl, by simp, rfl, Below.refl _ _⟩
  case round =>
    obtain ⟨k, hk, rfl, rfl, rfl, hR⟩ := hrel
    by_cases hlt : k < 8
    · have hlt' : (k : Int) < 8 := by omega
      have hby := byte_div n k
      have hq : ((n / 256 ^ k : Nat) : Int) / 256 = ((n / 256 ^ (k + 1) : Nat) : Int) := by
        rw [show (256 : Int) = ((256 : Nat) : Int) from rfl, ← Int.natCast_ediv, Nat.div_div_eq_div_mul, Nat.pow_succ]
      have hcv := conv_oneY (byteAt n k) wr
      have hle : n / 256 ^ (k + 1) ≤ n := Nat.div_le_self _ _
      obtain ⟨q, hqq⟩ : ∃ q, n / 256 ^ (k + 1) = q := ⟨_, rfl⟩
      rw [hqq] at hq hle
      have HQ := Lib.hid hqq
      have hwq : IntKind.u64.wrap (q : Int) = (q : Int) := u64_wrap_id _ (by omega) (by omega)
      clear hqq hle
      have HST := Lib.hid (show ofL [byteAt n k] ++ ofL (putL n k) = ofL (putL n (k + 1)) by rw [ofL_append]; rfl)
      have hsz : (ofL (putL n k)).size ≤ 8 := by rw [size_ofL, length_putL]; exact hk
      have hs1 : (ofL [byteAt n k]).size = 1 := rfl
      have hnf : ¬ (9223372036854775807 < (ofL [byteAt n k]).size + (ofL (putL n k)).size) := by omega
      clear hsz hs1
      generalize byteAt n k = c at *
      generalize hm : n / 256 ^ k = m at *
      go_wp2
      go_roundw
      case rel => exact ⟨k + 1, by omega, by go_num, by rw [HQ.out], by rw [← HST.out], (hR.alloc hR.size _)⟩
      case measure => simp [intOf]; omega
    · obtain rfl : k = 8 := by omega
      go_wp2
      go_ret
      exact ⟨rfl, hR⟩

set_option maxRecDepth 100000 in
theorem word_ref (s : ByteArray) (lo hi : Nat) (w : World) (hs : s.size ≤ 1048576) :
    Calls Tryz.prog 118 #[.string s, .int .i64 (lo : Int), .int .i64 (hi : Int)] w fun e w' => e = .returned (.bool (wordS lo hi s)) ∧ w = w' := by
  have hp := class_pos0 s
  have HW := Lib.hid (show wordS lo hi s = (decide (lo ≤ s.size) && (decide (s.size ≤ hi) && alnumS s)) from rfl)
  have HC := Lib.hid (fun w' => class_ref s w' (by omega))
  generalize classS s = c at *
  cases ha : alnumS s with
  | false =>
    rw [ha] at hp HW
    have hp' : ¬ (0 : Int) < c := by simpa using hp
    have HE := Lib.hid (show wordS lo hi s = false by rw [HW.out]; simp)
    clear hp ha HW
    go_enter Tryz.func118, Tryz.ntmps118
    go_wp2_with (go_at_call 119; (with_reducible refine (HC.out _).mono ?_); rintro e w5 ⟨rfl, rfl⟩)
    go_ret
    exact ⟨ret_bool HE.out.symm, rfl⟩
  | true =>
    rw [ha] at hp HW
    have hp' : (0 : Int) < c := by simpa using hp
    clear hp ha
    by_cases h1 : lo ≤ s.size
    · have h1' : (lo : Int) ≤ (s.size : Int) := by omega
      by_cases h2 : s.size ≤ hi
      · have h2' : (s.size : Int) ≤ (hi : Int) := by omega
        have HE := Lib.hid (show wordS lo hi s = true by rw [HW.out, decide_eq_true h1, decide_eq_true h2]; rfl)
        clear h1 h2 HW
        go_enter Tryz.func118, Tryz.ntmps118
        go_wp2_with (go_at_call 119; (with_reducible refine (HC.out _).mono ?_); rintro e w5 ⟨rfl, rfl⟩)
        go_ret
        exact ⟨ret_bool HE.out.symm, rfl⟩
      · have h2' : ¬ (s.size : Int) ≤ (hi : Int) := by omega
        have HE := Lib.hid (show wordS lo hi s = decide (s.size ≤ hi) by rw [HW.out, decide_eq_true h1]; simp)
        clear h1 h2 HW
        go_enter Tryz.func118, Tryz.ntmps118
        go_wp2_with (go_at_call 119; (with_reducible refine (HC.out _).mono ?_); rintro e w5 ⟨rfl, rfl⟩)
        go_ret
        exact ⟨ret_bool HE.out.symm, rfl⟩
    · have h1' : ¬ (lo : Int) ≤ (s.size : Int) := by omega
      have HE := Lib.hid (show wordS lo hi s = false by rw [HW.out, decide_eq_false h1]; rfl)
      clear h1 HW
      go_enter Tryz.func118, Tryz.ntmps118
      go_wp2_with (go_at_call 119; (with_reducible refine (HC.out _).mono ?_); rintro e w5 ⟨rfl, rfl⟩)
      go_ret
      exact ⟨ret_bool HE.out.symm, rfl⟩

def tgtA (x : Al) : Bool := languageS x.l && (maybeS scriptS x.s && maybeS regionS x.r)
set_option maxRecDepth 100000 in
set_option maxHeartbeats 4000000 in
theorem target_ref (x : Al) (w : World) (zl : x.l.size ≤ 1048576) (zs : x.s.size ≤ 1048576) (zr : x.r.size ≤ 1048576) :
    Calls Tryz.prog 117 #[.agg #[.int .i64 x.k, .string x.a, .string x.b, .string x.l, .string x.s, .string x.r]] w fun e w' => e = .returned (.bool (tgtA x)) ∧ Below w.heap.size w w' := by
  have HL := Lib.hid (fun w' => language_ref x.l w' (by omega))
  have HSc := Lib.hid (fun w' => script_ref x.s w' (by omega))
  have HR := Lib.hid (fun w' => region_ref x.r w' (by omega))
  have HT := Lib.hid (show tgtA x = (languageS x.l && ((noneS x.s || scriptS x.s) && (noneS x.r || regionS x.r))) from rfl)
  have hns := none_bool x.s
  have hnr := none_bool x.r
  generalize languageS x.l = b1 at *
  generalize scriptS x.s = b2 at *
  generalize regionS x.r = b3 at *
  generalize noneS x.s = n1 at *
  generalize noneS x.r = n2 at *
  cases b1 <;> cases n1 <;> cases n2 <;> cases b2 <;> cases b3
  all_goals
    go_enter Tryz.func117, Tryz.ntmps117
    go_wp2_with (first
      | (go_at_call 121; (with_reducible refine (HL.out _).mono ?_); rintro e w5 ⟨rfl, rfl⟩)
      | (go_at_call 123; (with_reducible refine (HSc.out _).mono ?_); rintro e w5 ⟨rfl, rfl⟩)
      | (go_at_call 122; (with_reducible refine (HR.out _).mono ?_); rintro e w5 ⟨rfl, rfl⟩))
    go_ret
    exact ⟨ret_bool HT.out.symm, (Below.refl _ w).alloc (Nat.le_refl _) _⟩
end Go.Proofs.YtgjifikahlmioaaGreatDoor
