/-
  Package alias: packed, unpacked, Encode, Decode, Key.
-/
import Derived.Test.YtlpjdknmnomdlaaGreatDoorYRight
import Derived.Test.YtlpjdknmnomdlaaGreatDoorCPut
import Derived.Test.YtlpjdknmnomdlaaGreatDoorCTrim
import Derived.Deep.CutRange
import Derived.Laws.ResultCell
namespace Go.Proofs.YtlpjdknmnomdlaaGreatDoor
open Go Go.RowKit

/-! packed. -/
def txt (x : Al) (k : Nat) : ByteArray := (txs x).getD k ⟨#[]⟩
theorem txt_at (x : Al) (k : Nat) (h : k < 5) : (txs x)[k]? = some (txt x k) := by
  unfold txt
  rw [List.getD_eq_getElem?_getD, List.getElem?_eq_getElem (show k < (txs x).length from h)]
  rfl
def okUp (x : Al) (k : Nat) : Bool := ((txs x).take k).all fun t => packT (lowS t)
def okP (x : Al) : Bool := okUp x 5
theorem okUp_succ {x : Al} {k : Nat} (h : k < 5) : okUp x (k + 1) = (okUp x k && packT (lowS (txt x k))) := by
  unfold okUp
  rw [List.take_add_one, txt_at x k h, List.all_append]
  simp
theorem okP_false {x : Al} {k : Nat} (h : k < 5) (hp : packT (lowS (txt x k)) = false) : okP x = false := by
  cases hh : okP x with
  | false => rfl
  | true =>
    have h5 : (txs x).take 5 = txs x := rfl
    unfold okP okUp at hh
    rw [h5] at hh
    have := List.all_eq_true.1 hh (txt x k) (List.mem_of_getElem? (txt_at x k h))
    rw [hp] at this; cases this
theorem okP_right {x : Al} (h : rightA x = true) : okP x = true := by
  have hp := right_packs h
  unfold okP okUp txs
  simp only [List.take_succ_cons, List.take_zero, List.all_cons, List.all_nil, Bool.and_true]
  rw [hp.a.2, hp.b.2, hp.l.2, hp.s.2, hp.r.2, hp.a.1, hp.b.1, hp.l.1, hp.s.1, hp.r.1]
  rfl
structure AlZ (x : Al) : Prop where
  k0 : 0 ≤ x.k
  k9 : x.k ≤ 255
  z : ∀ k, k < 5 → (txt x k).size ≤ 1000
theorem alZ_of {x : Al} (h : AlS x) (hk : 0 ≤ x.k ∧ x.k ≤ 255) : AlZ x := ⟨hk.1, hk.2, fun k hk => by
  have h5 : k = 0 ∨ k = 1 ∨ k = 2 ∨ k = 3 ∨ k = 4 := by omega
  rcases h5 with rfl | rfl | rfl | rfl | rfl
  · exact h.a
  · exact h.b
  · exact h.l
  · exact h.s
  · exact h.r⟩
theorem size_rowUp (x : Al) (k : Nat) (h : k ≤ 5) : (ofL (rowUp x k)).size ≤ 41 := by
  have h5 : k = 0 ∨ k = 1 ∨ k = 2 ∨ k = 3 ∨ k = 4 ∨ k = 5 := by omega
  rw [size_ofL]
  unfold rowUp txs
  rcases h5 with rfl | rfl | rfl | rfl | rfl | rfl <;> simp [length_putL, length_put8]
theorem row_step (x : Al) (k : Nat) (h : k < 5) : ofL (rowUp x k) ++ ofL (putL (packN (txt x k)) 8) = ofL (rowUp x (k + 1)) := by
  rw [ofL_append, rowUp_succ x k _ (txt_at x k h)]
  rfl
theorem ptr_of (n k : Nat) (hk : k < 5) (v : Value) (hv : v = .pointer (some ⟨n, k + 1, none⟩)) (w : World) : (Instr.index 232 (.agg #[.pointer (some ⟨n, 1, none⟩), .pointer (some ⟨n, 2, none⟩), .pointer (some ⟨n, 3, none⟩), .pointer (some ⟨n, 4, none⟩), .pointer (some ⟨n, 5, none⟩)]) (.int .i64 (k : Int))).run Tryz.prog w = .ok v w := by
  subst hv
  have h5 : k = 0 ∨ k = 1 ∨ k = 2 ∨ k = 3 ∨ k = 4 := by omega
  rcases h5 with rfl | rfl | rfl | rfl | rfl
  · exact index5_0 n w
  · exact index5_1 n w
  · exact index5_2 n w
  · exact index5_3 n w
  · exact index5_4 n w
theorem txt_cell {W : World} {B : Nat} {x : Al} {t : TypeId} (h : W.heap[B]? = some (.cells #[.int .i64 x.k, .string x.a, .string x.b, .string x.l, .string x.s, .string x.r] t (0, 0))) (k : Nat) (hk : k < 5) : W.cell? ⟨B, k + 1, none⟩ = some (.string (txt x k)) := by
  obtain ⟨_, c1, c2, c3, c4, c5⟩ := cells6 h
  have h5 : k = 0 ∨ k = 1 ∨ k = 2 ∨ k = 3 ∨ k = 4 := by omega
  rcases h5 with rfl | rfl | rfl | rfl | rfl
  · exact c1
  · exact c2
  · exact c3
  · exact c4
  · exact c5

def packS (x : Al) : ByteArray := if okP x then rowB x else ⟨#[]⟩
theorem put1 (n : Nat) (w : World) : Calls Tryz.prog 106 #[.int .u64 (n : Int), .int .i64 1] w fun e w' => e = .returned (.string (ofL (putL n 1))) ∧ Below w.heap.size w w' := put_any n 1 w (by decide)
set_option maxRecDepth 100000 in
set_option maxHeartbeats 4000000 in
theorem packed_al (x : Al) (w : World) (hz : AlZ x) :
    Calls Tryz.prog 145 #[.agg #[.int .i64 x.k, .string x.a, .string x.b, .string x.l, .string x.s, .string x.r]] w fun e w' => e = .returned (.tuple #[.string (packS x), .bool (okP x)]) ∧ Below w.heap.size w w' := by
  obtain ⟨W1, hW1⟩ : ∃ W1, w.alloc (.cells #[.int .i64 x.k, .string x.a, .string x.b, .string x.l, .string x.s, .string x.r] 74) = W1 := ⟨_, rfl⟩
  have hb1 : Below w.heap.size w W1 := by rw [← hW1]; exact (Below.refl _ w).alloc (Nat.le_refl _) _
  have hA : W1.heap[w.heap.size]? = some (.cells #[.int .i64 x.k, .string x.a, .string x.b, .string x.l, .string x.s, .string x.r] 74 (0, 0)) := by rw [← hW1]; exact World.alloc_heap_new w _
  have hB0 := Lib.hid (fun w' (hb : Below W1.heap.size W1 w') => hb1.trans (hb.mono hb1.size))
  have hC := Lib.hid (fun k (hk : k < 5) w' (hb : Below W1.heap.size W1 w') => txt_cell ((hb.block _ (lt_of_block hA)).trans hA) k hk)
  have hk0 := (cells6 hA).1
  obtain ⟨n, hn⟩ : ∃ n, x.k.toNat = n := ⟨_, rfl⟩
  have hwr : IntKind.u64.wrap x.k = (n : Int) := by
    rw [u64_wrap_id _ hz.k0 (by have := hz.k9; omega), ← hn, Int.toNat_of_nonneg hz.k0]
  have HP1 := Lib.hid (fun w' (hb : Below W1.heap.size W1 w') => (put1 n w').mono (R' := fun e w'' => e = .returned (.string (ofL (putL n 1))) ∧ Below W1.heap.size W1 w'') fun e w'' ⟨p, q⟩ => ⟨p, hb.trans (q.mono hb.size)⟩)
  have HN := Lib.hid (fun w' (hb : Below W1.heap.size W1 w') => (fields_any w.heap.size w').mono (R' := fun e w'' => e = .returned (.agg #[.pointer (some ⟨w.heap.size, 1, none⟩), .pointer (some ⟨w.heap.size, 2, none⟩), .pointer (some ⟨w.heap.size, 3, none⟩), .pointer (some ⟨w.heap.size, 4, none⟩), .pointer (some ⟨w.heap.size, 5, none⟩)]) ∧ Below W1.heap.size W1 w'') fun e w'' ⟨p, r⟩ => ⟨p, hb.trans (r.mono hb.size)⟩)
  have HK := Lib.hid (fun k (hk : k < 5) w' (hb : Below W1.heap.size W1 w') => (pack_any (txt x k) w' (by have := hz.z k hk; omega)).mono (R' := fun e w'' => e = .returned (.tuple #[.int .u64 ((packN (txt x k) : Nat) : Int), .bool (packT (lowS (txt x k)))]) ∧ Below W1.heap.size W1 w'') fun e w'' ⟨p, q⟩ => ⟨p, hb.trans (q.mono hb.size)⟩)
  have H8 := Lib.hid (fun n w' (hb : Below W1.heap.size W1 w') => (put8 n w').mono (R' := fun e w'' => e = .returned (.string (ofL (putL n 8))) ∧ Below W1.heap.size W1 w'') fun e w'' ⟨p, q⟩ => ⟨p, hb.trans (q.mono hb.size)⟩)
  have HZ := Lib.hid (show rowUp x 0 = putL n 1 by rw [rowUp_zero, hn])
  have H5 := Lib.hid (rowUp_five x)
  clear hz hA hb1 hn
  go_enter Tryz.func145, Tryz.ntmps145
  go_upto_region 1 with fail
  clear hW1
  go_wp2_with (first
    | (go_at_call 106; (with_reducible refine (HP1.out _ (Below.refl _ _)).mono ?_); rintro e w2 ⟨rfl, hb2⟩)
    | (go_at_call 167; (with_reducible refine (HN.out _ hb2).mono ?_); rintro e w3 ⟨rfl, hb3⟩; clear hb2))
  clear hk0 hwr
  go_loopw [4, 6, 7, 8, 14] (fun row _ _ _ i wr => ∃ k : Nat, k ≤ 5 ∧ i = .int .i64 (k : Int) ∧ row = .string (ofL (rowUp x k)) ∧ okUp x k = true ∧ Below W1.heap.size W1 wr) (fun _ _ _ _ i _ => 5 - (intOf i).toNat)
  case atStart => exact ⟨0, Nat.zero_le _, rfl, by rw [HZ.out], rfl, hb3⟩
  case round =>
    obtain ⟨k, hk, rfl, rfl, ho, hR⟩ := hrel
    clear hb3
    by_cases hlt : k < 5
    · have hix := ptr_of w.heap.size k hlt _ rfl wr
      have hc := hC.out k hlt wr hR
      have hlt' : (k : Int) < 5 := by omega
      have HKk := Lib.hid (HK.out k hlt)
      have HST := Lib.hid (row_step x k hlt)
      have hsz : (ofL (rowUp x k)).size ≤ 41 := size_rowUp x k hk
      have hs8 : (ofL (putL (packN (txt x k)) 8)).size = 8 := by rw [size_ofL, length_putL]
      have hnf : ¬ (9223372036854775807 < (ofL (rowUp x k)).size + (ofL (putL (packN (txt x k)) 8)).size) := by omega
      cases hp : packT (lowS (txt x k)) with
      | false =>
        have HF := Lib.hid (okP_false hlt hp)
        have HP := Lib.hid (show packS x = ⟨#[]⟩ by unfold packS; rw [HF.out]; rfl)
        rw [hp] at HKk
        clear hp ho HST hsz hs8 hnf
        generalize txt x k = t at *
        go_wp2_with (go_at_call 146; (with_reducible refine (HKk.out _ hR).mono ?_); rintro e w5 ⟨rfl, hb5⟩)
        go_ret2
        rw [HF.out, HP.out]
        exact ⟨rfl, hB0.out _ hb5⟩
      | true =>
        have HO := Lib.hid (show okUp x (k + 1) = true by rw [okUp_succ hlt, ho, hp]; rfl)
        rw [hp] at HKk
        clear hp ho hsz hs8
        generalize txt x k = t at *
        go_wp2_with (first
          | (go_at_call 146; (with_reducible refine (HKk.out _ hR).mono ?_); rintro e w5 ⟨rfl, hb5⟩)
          | (go_at_call 106; (with_reducible refine (H8.out _ _ hb5).mono ?_); rintro e w6 ⟨rfl, hb6⟩))
        go_roundw
        case rel => exact ⟨k + 1, by omega, by go_num, by rw [← HST.out], HO.out, hb6⟩
        case measure => simp [intOf]; omega
    · obtain rfl : k = 5 := by omega
      have HO := Lib.hid (show okP x = true from ho)
      have HP := Lib.hid (show packS x = rowB x by unfold packS; rw [HO.out]; rfl)
      clear ho
      go_wp2
      go_ret2
      rw [HO.out, HP.out, H5.out]
      exact ⟨rfl, hB0.out _ hR⟩
end Go.Proofs.YtlpjdknmnomdlaaGreatDoor
