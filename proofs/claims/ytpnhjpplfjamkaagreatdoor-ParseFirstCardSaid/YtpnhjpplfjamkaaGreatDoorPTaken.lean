/-
  Package parse: the reader takes in a piece behind a language: which kind it is tried as. Package parse: the reader takes in a piece. Package parse: the reader takes in a piece, as the mathematics has it.
-/
import Derived.Test.YtpnhjpplfjamkaaGreatDoorPReader
/-! Package parse: the reader takes in a piece behind a language: which kind it is tried as. -/
namespace Go.Proofs.YtpnhjpplfjamkaaGreatDoor
open Go Go.RowKit Go.Maps

set_option maxRecDepth 100000 in
set_option maxHeartbeats 2000000 in
theorem further_1 (w : World) (B s : Nat) (a : Int) (p : ByteArray) (Ok : World → Prop) (G : World → Prop) (hs : 1 ≤ s) (hs5 : s ≤ 1) (hok : Ok w) (hcell : w.cell? ⟨B, 9, none⟩ = some (.int .i64 (s : Int)))  (T1 : ∀ w1, Ok w1 → Calls Tryz.prog 102 #[.pointer (some ⟨B, 0, none⟩), .string p] w1 fun e w' => e = .returned (.bool true) ∧ G w') :
    Calls Tryz.prog 88 #[.pointer (some ⟨B, 0, none⟩), .int .i64 a, .string p] w fun e w' => e = .returned (.bool true) ∧ G w' := by
  have hcases : s = 1 := by omega
  have T := Lib.hid T1
  clear T1
  obtain rfl := hcases
  clear hs hs5
  go_enter Tryz.func88, Tryz.ntmps88
  go_wp2_with (first
    | (go_at_call 102; (with_reducible refine (T.out _ (by assumption)).mono ?_); rintro e w1 ⟨rfl, hG⟩))
  go_ret
  exact ⟨rfl, hG⟩
set_option maxRecDepth 100000 in
set_option maxHeartbeats 2000000 in
theorem further_2 (w : World) (B s : Nat) (a : Int) (p : ByteArray) (Ok : World → Prop) (G : World → Prop) (hs : 1 ≤ s) (hs5 : s ≤ 2) (hok : Ok w) (hcell : w.cell? ⟨B, 9, none⟩ = some (.int .i64 (s : Int))) (F1 : s ≤ 1 → ∀ w1, Ok w1 → Calls Tryz.prog 102 #[.pointer (some ⟨B, 0, none⟩), .string p] w1 fun e w' => e = .returned (.bool false) ∧ Ok w') (T2 : ∀ w1, Ok w1 → Calls Tryz.prog 103 #[.pointer (some ⟨B, 0, none⟩), .string p] w1 fun e w' => e = .returned (.bool true) ∧ G w') :
    Calls Tryz.prog 88 #[.pointer (some ⟨B, 0, none⟩), .int .i64 a, .string p] w fun e w' => e = .returned (.bool true) ∧ G w' := by
  have hcases : s = 1 ∨ s = 2 := by omega
  have T := Lib.hid T2
  clear T2
  rcases hcases with rfl | rfl
  · have K1 := Lib.hid (F1 (by decide))
    clear F1
    clear hs hs5
    go_enter Tryz.func88, Tryz.ntmps88
    go_wp2_with (first
      | (go_at_call 102; (with_reducible refine (K1.out _ (by assumption)).mono ?_); rintro e w1 ⟨rfl, hk1⟩)
      | (go_at_call 103; (with_reducible refine (T.out _ (by assumption)).mono ?_); rintro e w2 ⟨rfl, hG⟩))
    go_ret
    exact ⟨rfl, hG⟩
  · clear F1
    clear hs hs5
    go_enter Tryz.func88, Tryz.ntmps88
    go_wp2_with (first
      | (go_at_call 103; (with_reducible refine (T.out _ (by assumption)).mono ?_); rintro e w2 ⟨rfl, hG⟩))
    go_ret
    exact ⟨rfl, hG⟩
set_option maxRecDepth 100000 in
set_option maxHeartbeats 2000000 in
theorem further_3 (w : World) (B s : Nat) (a : Int) (p : ByteArray) (Ok : World → Prop) (G : World → Prop) (hs : 1 ≤ s) (hs5 : s ≤ 3) (hok : Ok w) (hcell : w.cell? ⟨B, 9, none⟩ = some (.int .i64 (s : Int))) (F1 : s ≤ 1 → ∀ w1, Ok w1 → Calls Tryz.prog 102 #[.pointer (some ⟨B, 0, none⟩), .string p] w1 fun e w' => e = .returned (.bool false) ∧ Ok w') (F2 : s ≤ 2 → ∀ w1, Ok w1 → Calls Tryz.prog 103 #[.pointer (some ⟨B, 0, none⟩), .string p] w1 fun e w' => e = .returned (.bool false) ∧ Ok w') (T3 : ∀ w1, Ok w1 → Calls Tryz.prog 104 #[.pointer (some ⟨B, 0, none⟩), .string p] w1 fun e w' => e = .returned (.bool true) ∧ G w') :
    Calls Tryz.prog 88 #[.pointer (some ⟨B, 0, none⟩), .int .i64 a, .string p] w fun e w' => e = .returned (.bool true) ∧ G w' := by
  have hcases : s = 1 ∨ s = 2 ∨ s = 3 := by omega
  have T := Lib.hid T3
  clear T3
  rcases hcases with rfl | rfl | rfl
  · have K1 := Lib.hid (F1 (by decide))
    have K2 := Lib.hid (F2 (by decide))
    clear F1 F2
    clear hs hs5
    go_enter Tryz.func88, Tryz.ntmps88
    go_wp2_with (first
      | (go_at_call 102; (with_reducible refine (K1.out _ (by assumption)).mono ?_); rintro e w1 ⟨rfl, hk1⟩)
      | (go_at_call 103; (with_reducible refine (K2.out _ (by assumption)).mono ?_); rintro e w2 ⟨rfl, hk2⟩)
      | (go_at_call 104; (with_reducible refine (T.out _ (by assumption)).mono ?_); rintro e w3 ⟨rfl, hG⟩))
    go_ret
    exact ⟨rfl, hG⟩
  · clear F1
    have K2 := Lib.hid (F2 (by decide))
    clear F2
    clear hs hs5
    go_enter Tryz.func88, Tryz.ntmps88
    go_wp2_with (first
      | (go_at_call 103; (with_reducible refine (K2.out _ (by assumption)).mono ?_); rintro e w2 ⟨rfl, hk2⟩)
      | (go_at_call 104; (with_reducible refine (T.out _ (by assumption)).mono ?_); rintro e w3 ⟨rfl, hG⟩))
    go_ret
    exact ⟨rfl, hG⟩
  · clear F1 F2
    clear hs hs5
    go_enter Tryz.func88, Tryz.ntmps88
    go_wp2_with (first
      | (go_at_call 104; (with_reducible refine (T.out _ (by assumption)).mono ?_); rintro e w3 ⟨rfl, hG⟩))
    go_ret
    exact ⟨rfl, hG⟩
set_option maxRecDepth 100000 in
set_option maxHeartbeats 2000000 in
theorem further_4 (w : World) (B s : Nat) (a : Int) (p : ByteArray) (Ok : World → Prop) (G : World → Prop) (hs : 1 ≤ s) (hs5 : s ≤ 4) (hok : Ok w) (hcell : w.cell? ⟨B, 9, none⟩ = some (.int .i64 (s : Int))) (F1 : s ≤ 1 → ∀ w1, Ok w1 → Calls Tryz.prog 102 #[.pointer (some ⟨B, 0, none⟩), .string p] w1 fun e w' => e = .returned (.bool false) ∧ Ok w') (F2 : s ≤ 2 → ∀ w1, Ok w1 → Calls Tryz.prog 103 #[.pointer (some ⟨B, 0, none⟩), .string p] w1 fun e w' => e = .returned (.bool false) ∧ Ok w') (F3 : s ≤ 3 → ∀ w1, Ok w1 → Calls Tryz.prog 104 #[.pointer (some ⟨B, 0, none⟩), .string p] w1 fun e w' => e = .returned (.bool false) ∧ Ok w') (T4 : ∀ w1, Ok w1 → Calls Tryz.prog 105 #[.pointer (some ⟨B, 0, none⟩), .int .i64 a, .string p] w1 fun e w' => e = .returned (.bool true) ∧ G w') :
    Calls Tryz.prog 88 #[.pointer (some ⟨B, 0, none⟩), .int .i64 a, .string p] w fun e w' => e = .returned (.bool true) ∧ G w' := by
  have hcases : s = 1 ∨ s = 2 ∨ s = 3 ∨ s = 4 := by omega
  have T := Lib.hid T4
  clear T4
  rcases hcases with rfl | rfl | rfl | rfl
  · have K1 := Lib.hid (F1 (by decide))
    have K2 := Lib.hid (F2 (by decide))
    have K3 := Lib.hid (F3 (by decide))
    clear F1 F2 F3
    clear hs hs5
    go_enter Tryz.func88, Tryz.ntmps88
    go_wp2_with (first
      | (go_at_call 102; (with_reducible refine (K1.out _ (by assumption)).mono ?_); rintro e w1 ⟨rfl, hk1⟩)
      | (go_at_call 103; (with_reducible refine (K2.out _ (by assumption)).mono ?_); rintro e w2 ⟨rfl, hk2⟩)
      | (go_at_call 104; (with_reducible refine (K3.out _ (by assumption)).mono ?_); rintro e w3 ⟨rfl, hk3⟩)
      | (go_at_call 105; (with_reducible refine (T.out _ (by assumption)).mono ?_); rintro e w4 ⟨rfl, hG⟩))
    go_ret
    exact ⟨rfl, hG⟩
  · clear F1
    have K2 := Lib.hid (F2 (by decide))
    have K3 := Lib.hid (F3 (by decide))
    clear F2 F3
    clear hs hs5
    go_enter Tryz.func88, Tryz.ntmps88
    go_wp2_with (first
      | (go_at_call 103; (with_reducible refine (K2.out _ (by assumption)).mono ?_); rintro e w2 ⟨rfl, hk2⟩)
      | (go_at_call 104; (with_reducible refine (K3.out _ (by assumption)).mono ?_); rintro e w3 ⟨rfl, hk3⟩)
      | (go_at_call 105; (with_reducible refine (T.out _ (by assumption)).mono ?_); rintro e w4 ⟨rfl, hG⟩))
    go_ret
    exact ⟨rfl, hG⟩
  · clear F1 F2
    have K3 := Lib.hid (F3 (by decide))
    clear F3
    clear hs hs5
    go_enter Tryz.func88, Tryz.ntmps88
    go_wp2_with (first
      | (go_at_call 104; (with_reducible refine (K3.out _ (by assumption)).mono ?_); rintro e w3 ⟨rfl, hk3⟩)
      | (go_at_call 105; (with_reducible refine (T.out _ (by assumption)).mono ?_); rintro e w4 ⟨rfl, hG⟩))
    go_ret
    exact ⟨rfl, hG⟩
  · clear F1 F2 F3
    clear hs hs5
    go_enter Tryz.func88, Tryz.ntmps88
    go_wp2_with (first
      | (go_at_call 105; (with_reducible refine (T.out _ (by assumption)).mono ?_); rintro e w4 ⟨rfl, hG⟩))
    go_ret
    exact ⟨rfl, hG⟩
set_option maxRecDepth 100000 in
set_option maxHeartbeats 2000000 in
theorem further_5 (w : World) (B s : Nat) (a : Int) (p : ByteArray) (Ok : World → Prop) (G : World → Prop) (hs : 1 ≤ s) (hs5 : s ≤ 5) (hok : Ok w) (hcell : w.cell? ⟨B, 9, none⟩ = some (.int .i64 (s : Int))) (F1 : s ≤ 1 → ∀ w1, Ok w1 → Calls Tryz.prog 102 #[.pointer (some ⟨B, 0, none⟩), .string p] w1 fun e w' => e = .returned (.bool false) ∧ Ok w') (F2 : s ≤ 2 → ∀ w1, Ok w1 → Calls Tryz.prog 103 #[.pointer (some ⟨B, 0, none⟩), .string p] w1 fun e w' => e = .returned (.bool false) ∧ Ok w') (F3 : s ≤ 3 → ∀ w1, Ok w1 → Calls Tryz.prog 104 #[.pointer (some ⟨B, 0, none⟩), .string p] w1 fun e w' => e = .returned (.bool false) ∧ Ok w') (F4 : s ≤ 4 → ∀ w1, Ok w1 → Calls Tryz.prog 105 #[.pointer (some ⟨B, 0, none⟩), .int .i64 a, .string p] w1 fun e w' => e = .returned (.bool false) ∧ Ok w') (T5 : ∀ w1, Ok w1 → Calls Tryz.prog 106 #[.pointer (some ⟨B, 0, none⟩), .string p] w1 fun e w' => e = .returned (.bool true) ∧ G w') :
    Calls Tryz.prog 88 #[.pointer (some ⟨B, 0, none⟩), .int .i64 a, .string p] w fun e w' => e = .returned (.bool true) ∧ G w' := by
  have hcases : s = 1 ∨ s = 2 ∨ s = 3 ∨ s = 4 ∨ s = 5 := by omega
  have T := Lib.hid T5
  clear T5
  rcases hcases with rfl | rfl | rfl | rfl | rfl
  · have K1 := Lib.hid (F1 (by decide))
    have K2 := Lib.hid (F2 (by decide))
    have K3 := Lib.hid (F3 (by decide))
    have K4 := Lib.hid (F4 (by decide))
    clear F1 F2 F3 F4
    clear hs hs5
    go_enter Tryz.func88, Tryz.ntmps88
    go_wp2_with (first
      | (go_at_call 102; (with_reducible refine (K1.out _ (by assumption)).mono ?_); rintro e w1 ⟨rfl, hk1⟩)
      | (go_at_call 103; (with_reducible refine (K2.out _ (by assumption)).mono ?_); rintro e w2 ⟨rfl, hk2⟩)
      | (go_at_call 104; (with_reducible refine (K3.out _ (by assumption)).mono ?_); rintro e w3 ⟨rfl, hk3⟩)
      | (go_at_call 105; (with_reducible refine (K4.out _ (by assumption)).mono ?_); rintro e w4 ⟨rfl, hk4⟩)
      | (go_at_call 106; (with_reducible refine (T.out _ (by assumption)).mono ?_); rintro e w5 ⟨rfl, hG⟩))
    go_ret
    exact ⟨rfl, hG⟩
  · clear F1
    have K2 := Lib.hid (F2 (by decide))
    have K3 := Lib.hid (F3 (by decide))
    have K4 := Lib.hid (F4 (by decide))
    clear F2 F3 F4
    clear hs hs5
    go_enter Tryz.func88, Tryz.ntmps88
    go_wp2_with (first
      | (go_at_call 103; (with_reducible refine (K2.out _ (by assumption)).mono ?_); rintro e w2 ⟨rfl, hk2⟩)
      | (go_at_call 104; (with_reducible refine (K3.out _ (by assumption)).mono ?_); rintro e w3 ⟨rfl, hk3⟩)
      | (go_at_call 105; (with_reducible refine (K4.out _ (by assumption)).mono ?_); rintro e w4 ⟨rfl, hk4⟩)
      | (go_at_call 106; (with_reducible refine (T.out _ (by assumption)).mono ?_); rintro e w5 ⟨rfl, hG⟩))
    go_ret
    exact ⟨rfl, hG⟩
  · clear F1 F2
    have K3 := Lib.hid (F3 (by decide))
    have K4 := Lib.hid (F4 (by decide))
    clear F3 F4
    clear hs hs5
    go_enter Tryz.func88, Tryz.ntmps88
    go_wp2_with (first
      | (go_at_call 104; (with_reducible refine (K3.out _ (by assumption)).mono ?_); rintro e w3 ⟨rfl, hk3⟩)
      | (go_at_call 105; (with_reducible refine (K4.out _ (by assumption)).mono ?_); rintro e w4 ⟨rfl, hk4⟩)
      | (go_at_call 106; (with_reducible refine (T.out _ (by assumption)).mono ?_); rintro e w5 ⟨rfl, hG⟩))
    go_ret
    exact ⟨rfl, hG⟩
  · clear F1 F2 F3
    have K4 := Lib.hid (F4 (by decide))
    clear F4
    clear hs hs5
    go_enter Tryz.func88, Tryz.ntmps88
    go_wp2_with (first
      | (go_at_call 105; (with_reducible refine (K4.out _ (by assumption)).mono ?_); rintro e w4 ⟨rfl, hk4⟩)
      | (go_at_call 106; (with_reducible refine (T.out _ (by assumption)).mono ?_); rintro e w5 ⟨rfl, hG⟩))
    go_ret
    exact ⟨rfl, hG⟩
  · clear F1 F2 F3 F4
    clear hs hs5
    go_enter Tryz.func88, Tryz.ntmps88
    go_wp2_with (first
      | (go_at_call 106; (with_reducible refine (T.out _ (by assumption)).mono ?_); rintro e w5 ⟨rfl, hG⟩))
    go_ret
    exact ⟨rfl, hG⟩
set_option maxRecDepth 100000 in
set_option maxHeartbeats 2000000 in
theorem further_6 (w : World) (B s : Nat) (a : Int) (p : ByteArray) (Ok : World → Prop) (G : World → Prop) (hs : 1 ≤ s) (hs5 : s ≤ 5) (hok : Ok w) (hcell : w.cell? ⟨B, 9, none⟩ = some (.int .i64 (s : Int))) (F1 : s ≤ 1 → ∀ w1, Ok w1 → Calls Tryz.prog 102 #[.pointer (some ⟨B, 0, none⟩), .string p] w1 fun e w' => e = .returned (.bool false) ∧ Ok w') (F2 : s ≤ 2 → ∀ w1, Ok w1 → Calls Tryz.prog 103 #[.pointer (some ⟨B, 0, none⟩), .string p] w1 fun e w' => e = .returned (.bool false) ∧ Ok w') (F3 : s ≤ 3 → ∀ w1, Ok w1 → Calls Tryz.prog 104 #[.pointer (some ⟨B, 0, none⟩), .string p] w1 fun e w' => e = .returned (.bool false) ∧ Ok w') (F4 : s ≤ 4 → ∀ w1, Ok w1 → Calls Tryz.prog 105 #[.pointer (some ⟨B, 0, none⟩), .int .i64 a, .string p] w1 fun e w' => e = .returned (.bool false) ∧ Ok w') (F5 : s ≤ 5 → ∀ w1, Ok w1 → Calls Tryz.prog 106 #[.pointer (some ⟨B, 0, none⟩), .string p] w1 fun e w' => e = .returned (.bool false) ∧ Ok w') (T6 : ∀ w1, Ok w1 → Calls Tryz.prog 107 #[.pointer (some ⟨B, 0, none⟩), .int .i64 a, .string p] w1 fun e w' => e = .returned (.bool true) ∧ G w') :
    Calls Tryz.prog 88 #[.pointer (some ⟨B, 0, none⟩), .int .i64 a, .string p] w fun e w' => e = .returned (.bool true) ∧ G w' := by
  have hcases : s = 1 ∨ s = 2 ∨ s = 3 ∨ s = 4 ∨ s = 5 := by omega
  have T := Lib.hid T6
  clear T6
  rcases hcases with rfl | rfl | rfl | rfl | rfl
  · have K1 := Lib.hid (F1 (by decide))
    have K2 := Lib.hid (F2 (by decide))
    have K3 := Lib.hid (F3 (by decide))
    have K4 := Lib.hid (F4 (by decide))
    have K5 := Lib.hid (F5 (by decide))
    clear F1 F2 F3 F4 F5
    clear hs hs5
    go_enter Tryz.func88, Tryz.ntmps88
    go_wp2_with (first
      | (go_at_call 102; (with_reducible refine (K1.out _ (by assumption)).mono ?_); rintro e w1 ⟨rfl, hk1⟩)
      | (go_at_call 103; (with_reducible refine (K2.out _ (by assumption)).mono ?_); rintro e w2 ⟨rfl, hk2⟩)
      | (go_at_call 104; (with_reducible refine (K3.out _ (by assumption)).mono ?_); rintro e w3 ⟨rfl, hk3⟩)
      | (go_at_call 105; (with_reducible refine (K4.out _ (by assumption)).mono ?_); rintro e w4 ⟨rfl, hk4⟩)
      | (go_at_call 106; (with_reducible refine (K5.out _ (by assumption)).mono ?_); rintro e w5 ⟨rfl, hk5⟩)
      | (go_at_call 107; (with_reducible refine (T.out _ (by assumption)).mono ?_); rintro e w6 ⟨rfl, hG⟩))
    go_ret
    exact ⟨rfl, hG⟩
  · clear F1
    have K2 := Lib.hid (F2 (by decide))
    have K3 := Lib.hid (F3 (by decide))
    have K4 := Lib.hid (F4 (by decide))
    have K5 := Lib.hid (F5 (by decide))
    clear F2 F3 F4 F5
    clear hs hs5
    go_enter Tryz.func88, Tryz.ntmps88
    go_wp2_with (first
      | (go_at_call 103; (with_reducible refine (K2.out _ (by assumption)).mono ?_); rintro e w2 ⟨rfl, hk2⟩)
      | (go_at_call 104; (with_reducible refine (K3.out _ (by assumption)).mono ?_); rintro e w3 ⟨rfl, hk3⟩)
      | (go_at_call 105; (with_reducible refine (K4.out _ (by assumption)).mono ?_); rintro e w4 ⟨rfl, hk4⟩)
      | (go_at_call 106; (with_reducible refine (K5.out _ (by assumption)).mono ?_); rintro e w5 ⟨rfl, hk5⟩)
      | (go_at_call 107; (with_reducible refine (T.out _ (by assumption)).mono ?_); rintro e w6 ⟨rfl, hG⟩))
    go_ret
    exact ⟨rfl, hG⟩
  · clear F1 F2
    have K3 := Lib.hid (F3 (by decide))
    have K4 := Lib.hid (F4 (by decide))
    have K5 := Lib.hid (F5 (by decide))
    clear F3 F4 F5
    clear hs hs5
    go_enter Tryz.func88, Tryz.ntmps88
    go_wp2_with (first
      | (go_at_call 104; (with_reducible refine (K3.out _ (by assumption)).mono ?_); rintro e w3 ⟨rfl, hk3⟩)
      | (go_at_call 105; (with_reducible refine (K4.out _ (by assumption)).mono ?_); rintro e w4 ⟨rfl, hk4⟩)
      | (go_at_call 106; (with_reducible refine (K5.out _ (by assumption)).mono ?_); rintro e w5 ⟨rfl, hk5⟩)
      | (go_at_call 107; (with_reducible refine (T.out _ (by assumption)).mono ?_); rintro e w6 ⟨rfl, hG⟩))
    go_ret
    exact ⟨rfl, hG⟩
  · clear F1 F2 F3
    have K4 := Lib.hid (F4 (by decide))
    have K5 := Lib.hid (F5 (by decide))
    clear F4 F5
    clear hs hs5
    go_enter Tryz.func88, Tryz.ntmps88
    go_wp2_with (first
      | (go_at_call 105; (with_reducible refine (K4.out _ (by assumption)).mono ?_); rintro e w4 ⟨rfl, hk4⟩)
      | (go_at_call 106; (with_reducible refine (K5.out _ (by assumption)).mono ?_); rintro e w5 ⟨rfl, hk5⟩)
      | (go_at_call 107; (with_reducible refine (T.out _ (by assumption)).mono ?_); rintro e w6 ⟨rfl, hG⟩))
    go_ret
    exact ⟨rfl, hG⟩
  · clear F1 F2 F3 F4
    have K5 := Lib.hid (F5 (by decide))
    clear F5
    clear hs hs5
    go_enter Tryz.func88, Tryz.ntmps88
    go_wp2_with (first
      | (go_at_call 106; (with_reducible refine (K5.out _ (by assumption)).mono ?_); rintro e w5 ⟨rfl, hk5⟩)
      | (go_at_call 107; (with_reducible refine (T.out _ (by assumption)).mono ?_); rintro e w6 ⟨rfl, hG⟩))
    go_ret
    exact ⟨rfl, hG⟩
set_option maxRecDepth 100000 in
set_option maxHeartbeats 2000000 in
theorem further_7 (w : World) (B s : Nat) (a : Int) (p : ByteArray) (Ok : World → Prop) (G : World → Prop) (hs : 1 ≤ s) (hs5 : s ≤ 5) (hok : Ok w) (hcell : w.cell? ⟨B, 9, none⟩ = some (.int .i64 (s : Int))) (F1 : s ≤ 1 → ∀ w1, Ok w1 → Calls Tryz.prog 102 #[.pointer (some ⟨B, 0, none⟩), .string p] w1 fun e w' => e = .returned (.bool false) ∧ Ok w') (F2 : s ≤ 2 → ∀ w1, Ok w1 → Calls Tryz.prog 103 #[.pointer (some ⟨B, 0, none⟩), .string p] w1 fun e w' => e = .returned (.bool false) ∧ Ok w') (F3 : s ≤ 3 → ∀ w1, Ok w1 → Calls Tryz.prog 104 #[.pointer (some ⟨B, 0, none⟩), .string p] w1 fun e w' => e = .returned (.bool false) ∧ Ok w') (F4 : s ≤ 4 → ∀ w1, Ok w1 → Calls Tryz.prog 105 #[.pointer (some ⟨B, 0, none⟩), .int .i64 a, .string p] w1 fun e w' => e = .returned (.bool false) ∧ Ok w') (F5 : s ≤ 5 → ∀ w1, Ok w1 → Calls Tryz.prog 106 #[.pointer (some ⟨B, 0, none⟩), .string p] w1 fun e w' => e = .returned (.bool false) ∧ Ok w') (F6 : s ≤ 5 → ∀ w1, Ok w1 → Calls Tryz.prog 107 #[.pointer (some ⟨B, 0, none⟩), .int .i64 a, .string p] w1 fun e w' => e = .returned (.bool false) ∧ Ok w') (T7 : ∀ w1, Ok w1 → Calls Tryz.prog 85 #[.pointer (some ⟨B, 0, none⟩), .string p] w1 fun e w' => e = .returned (.bool true) ∧ G w') :
    Calls Tryz.prog 88 #[.pointer (some ⟨B, 0, none⟩), .int .i64 a, .string p] w fun e w' => e = .returned (.bool true) ∧ G w' := by
  have hcases : s = 1 ∨ s = 2 ∨ s = 3 ∨ s = 4 ∨ s = 5 := by omega
  have T := Lib.hid T7
  clear T7
  rcases hcases with rfl | rfl | rfl | rfl | rfl
  · have K1 := Lib.hid (F1 (by decide))
    have K2 := Lib.hid (F2 (by decide))
    have K3 := Lib.hid (F3 (by decide))
    have K4 := Lib.hid (F4 (by decide))
    have K5 := Lib.hid (F5 (by decide))
    have K6 := Lib.hid (F6 (by decide))
    clear F1 F2 F3 F4 F5 F6
    clear hs hs5
    go_enter Tryz.func88, Tryz.ntmps88
    go_wp2_with (first
      | (go_at_call 102; (with_reducible refine (K1.out _ (by assumption)).mono ?_); rintro e w1 ⟨rfl, hk1⟩)
      | (go_at_call 103; (with_reducible refine (K2.out _ (by assumption)).mono ?_); rintro e w2 ⟨rfl, hk2⟩)
      | (go_at_call 104; (with_reducible refine (K3.out _ (by assumption)).mono ?_); rintro e w3 ⟨rfl, hk3⟩)
      | (go_at_call 105; (with_reducible refine (K4.out _ (by assumption)).mono ?_); rintro e w4 ⟨rfl, hk4⟩)
      | (go_at_call 106; (with_reducible refine (K5.out _ (by assumption)).mono ?_); rintro e w5 ⟨rfl, hk5⟩)
      | (go_at_call 107; (with_reducible refine (K6.out _ (by assumption)).mono ?_); rintro e w6 ⟨rfl, hk6⟩)
      | (go_at_call 85; (with_reducible refine (T.out _ (by assumption)).mono ?_); rintro e w7 ⟨rfl, hG⟩))
    go_ret
    exact ⟨rfl, hG⟩
  · clear F1
    have K2 := Lib.hid (F2 (by decide))
    have K3 := Lib.hid (F3 (by decide))
    have K4 := Lib.hid (F4 (by decide))
    have K5 := Lib.hid (F5 (by decide))
    have K6 := Lib.hid (F6 (by decide))
    clear F2 F3 F4 F5 F6
    clear hs hs5
    go_enter Tryz.func88, Tryz.ntmps88
    go_wp2_with (first
      | (go_at_call 103; (with_reducible refine (K2.out _ (by assumption)).mono ?_); rintro e w2 ⟨rfl, hk2⟩)
      | (go_at_call 104; (with_reducible refine (K3.out _ (by assumption)).mono ?_); rintro e w3 ⟨rfl, hk3⟩)
      | (go_at_call 105; (with_reducible refine (K4.out _ (by assumption)).mono ?_); rintro e w4 ⟨rfl, hk4⟩)
      | (go_at_call 106; (with_reducible refine (K5.out _ (by assumption)).mono ?_); rintro e w5 ⟨rfl, hk5⟩)
      | (go_at_call 107; (with_reducible refine (K6.out _ (by assumption)).mono ?_); rintro e w6 ⟨rfl, hk6⟩)
      | (go_at_call 85; (with_reducible refine (T.out _ (by assumption)).mono ?_); rintro e w7 ⟨rfl, hG⟩))
    go_ret
    exact ⟨rfl, hG⟩
  · clear F1 F2
    have K3 := Lib.hid (F3 (by decide))
    have K4 := Lib.hid (F4 (by decide))
    have K5 := Lib.hid (F5 (by decide))
    have K6 := Lib.hid (F6 (by decide))
    clear F3 F4 F5 F6
    clear hs hs5
    go_enter Tryz.func88, Tryz.ntmps88
    go_wp2_with (first
      | (go_at_call 104; (with_reducible refine (K3.out _ (by assumption)).mono ?_); rintro e w3 ⟨rfl, hk3⟩)
      | (go_at_call 105; (with_reducible refine (K4.out _ (by assumption)).mono ?_); rintro e w4 ⟨rfl, hk4⟩)
      | (go_at_call 106; (with_reducible refine (K5.out _ (by assumption)).mono ?_); rintro e w5 ⟨rfl, hk5⟩)
      | (go_at_call 107; (with_reducible refine (K6.out _ (by assumption)).mono ?_); rintro e w6 ⟨rfl, hk6⟩)
      | (go_at_call 85; (with_reducible refine (T.out _ (by assumption)).mono ?_); rintro e w7 ⟨rfl, hG⟩))
    go_ret
    exact ⟨rfl, hG⟩
  · clear F1 F2 F3
    have K4 := Lib.hid (F4 (by decide))
    have K5 := Lib.hid (F5 (by decide))
    have K6 := Lib.hid (F6 (by decide))
    clear F4 F5 F6
    clear hs hs5
    go_enter Tryz.func88, Tryz.ntmps88
    go_wp2_with (first
      | (go_at_call 105; (with_reducible refine (K4.out _ (by assumption)).mono ?_); rintro e w4 ⟨rfl, hk4⟩)
      | (go_at_call 106; (with_reducible refine (K5.out _ (by assumption)).mono ?_); rintro e w5 ⟨rfl, hk5⟩)
      | (go_at_call 107; (with_reducible refine (K6.out _ (by assumption)).mono ?_); rintro e w6 ⟨rfl, hk6⟩)
      | (go_at_call 85; (with_reducible refine (T.out _ (by assumption)).mono ?_); rintro e w7 ⟨rfl, hG⟩))
    go_ret
    exact ⟨rfl, hG⟩
  · clear F1 F2 F3 F4
    have K5 := Lib.hid (F5 (by decide))
    have K6 := Lib.hid (F6 (by decide))
    clear F5 F6
    clear hs hs5
    go_enter Tryz.func88, Tryz.ntmps88
    go_wp2_with (first
      | (go_at_call 106; (with_reducible refine (K5.out _ (by assumption)).mono ?_); rintro e w5 ⟨rfl, hk5⟩)
      | (go_at_call 107; (with_reducible refine (K6.out _ (by assumption)).mono ?_); rintro e w6 ⟨rfl, hk6⟩)
      | (go_at_call 85; (with_reducible refine (T.out _ (by assumption)).mono ?_); rintro e w7 ⟨rfl, hG⟩))
    go_ret
    exact ⟨rfl, hG⟩
set_option maxRecDepth 100000 in
set_option maxHeartbeats 2000000 in
theorem further_4t (w : World) (B s : Nat) (a : Int) (p : ByteArray) (Ok : World → Prop) (G' : Nat → World → Prop) (hs : 1 ≤ s) (hs5 : s ≤ 4) (hok : Ok w) (hcell : w.cell? ⟨B, 9, none⟩ = some (.int .i64 (s : Int))) (F1 : s ≤ 1 → ∀ w1, Ok w1 → Calls Tryz.prog 102 #[.pointer (some ⟨B, 0, none⟩), .string p] w1 fun e w' => e = .returned (.bool false) ∧ Ok w') (F2 : s ≤ 2 → ∀ w1, Ok w1 → Calls Tryz.prog 103 #[.pointer (some ⟨B, 0, none⟩), .string p] w1 fun e w' => e = .returned (.bool false) ∧ Ok w') (F3 : s ≤ 3 → ∀ w1, Ok w1 → Calls Tryz.prog 104 #[.pointer (some ⟨B, 0, none⟩), .string p] w1 fun e w' => e = .returned (.bool false) ∧ Ok w') (T4 : ∀ w1, Ok w1 → Calls Tryz.prog 105 #[.pointer (some ⟨B, 0, none⟩), .int .i64 a, .string p] w1 fun e w' => (∃ b, e = .panicked [{ v := .iface 82 (.pointer (some ⟨b, 0, none⟩)), recovered := false }] ∧ G' b w')) :
    Calls Tryz.prog 88 #[.pointer (some ⟨B, 0, none⟩), .int .i64 a, .string p] w fun e w' => ∃ b, e = .panicked [{ v := .iface 82 (.pointer (some ⟨b, 0, none⟩)), recovered := false }] ∧ G' b w' := by
  have hcases : s = 1 ∨ s = 2 ∨ s = 3 ∨ s = 4 := by omega
  have T := Lib.hid T4
  clear T4
  rcases hcases with rfl | rfl | rfl | rfl
  · have K1 := Lib.hid (F1 (by decide))
    have K2 := Lib.hid (F2 (by decide))
    have K3 := Lib.hid (F3 (by decide))
    clear F1 F2 F3
    clear hs hs5
    go_enter Tryz.func88, Tryz.ntmps88
    go_wp2_with (first
      | (go_at_call 102; (with_reducible refine (K1.out _ (by assumption)).mono ?_); rintro e w1 ⟨rfl, hk1⟩)
      | (go_at_call 103; (with_reducible refine (K2.out _ (by assumption)).mono ?_); rintro e w2 ⟨rfl, hk2⟩)
      | (go_at_call 104; (with_reducible refine (K3.out _ (by assumption)).mono ?_); rintro e w3 ⟨rfl, hk3⟩)
      | (go_at_call 105; (with_reducible refine (T.out _ (by assumption)).mono ?_); rintro e w4 ⟨b, rfl, hG⟩))
    exact ⟨rfl, b, rfl, hG⟩
  · clear F1
    have K2 := Lib.hid (F2 (by decide))
    have K3 := Lib.hid (F3 (by decide))
    clear F2 F3
    clear hs hs5
    go_enter Tryz.func88, Tryz.ntmps88
    go_wp2_with (first
      | (go_at_call 103; (with_reducible refine (K2.out _ (by assumption)).mono ?_); rintro e w2 ⟨rfl, hk2⟩)
      | (go_at_call 104; (with_reducible refine (K3.out _ (by assumption)).mono ?_); rintro e w3 ⟨rfl, hk3⟩)
      | (go_at_call 105; (with_reducible refine (T.out _ (by assumption)).mono ?_); rintro e w4 ⟨b, rfl, hG⟩))
    exact ⟨rfl, b, rfl, hG⟩
  · clear F1 F2
    have K3 := Lib.hid (F3 (by decide))
    clear F3
    clear hs hs5
    go_enter Tryz.func88, Tryz.ntmps88
    go_wp2_with (first
      | (go_at_call 104; (with_reducible refine (K3.out _ (by assumption)).mono ?_); rintro e w3 ⟨rfl, hk3⟩)
      | (go_at_call 105; (with_reducible refine (T.out _ (by assumption)).mono ?_); rintro e w4 ⟨b, rfl, hG⟩))
    exact ⟨rfl, b, rfl, hG⟩
  · clear F1 F2 F3
    clear hs hs5
    go_enter Tryz.func88, Tryz.ntmps88
    go_wp2_with (first
      | (go_at_call 105; (with_reducible refine (T.out _ (by assumption)).mono ?_); rintro e w4 ⟨b, rfl, hG⟩))
    exact ⟨rfl, b, rfl, hG⟩
set_option maxRecDepth 100000 in
set_option maxHeartbeats 2000000 in
theorem further_6t (w : World) (B s : Nat) (a : Int) (p : ByteArray) (Ok : World → Prop) (G' : Nat → World → Prop) (hs : 1 ≤ s) (hs5 : s ≤ 5) (hok : Ok w) (hcell : w.cell? ⟨B, 9, none⟩ = some (.int .i64 (s : Int))) (F1 : s ≤ 1 → ∀ w1, Ok w1 → Calls Tryz.prog 102 #[.pointer (some ⟨B, 0, none⟩), .string p] w1 fun e w' => e = .returned (.bool false) ∧ Ok w') (F2 : s ≤ 2 → ∀ w1, Ok w1 → Calls Tryz.prog 103 #[.pointer (some ⟨B, 0, none⟩), .string p] w1 fun e w' => e = .returned (.bool false) ∧ Ok w') (F3 : s ≤ 3 → ∀ w1, Ok w1 → Calls Tryz.prog 104 #[.pointer (some ⟨B, 0, none⟩), .string p] w1 fun e w' => e = .returned (.bool false) ∧ Ok w') (F4 : s ≤ 4 → ∀ w1, Ok w1 → Calls Tryz.prog 105 #[.pointer (some ⟨B, 0, none⟩), .int .i64 a, .string p] w1 fun e w' => e = .returned (.bool false) ∧ Ok w') (F5 : s ≤ 5 → ∀ w1, Ok w1 → Calls Tryz.prog 106 #[.pointer (some ⟨B, 0, none⟩), .string p] w1 fun e w' => e = .returned (.bool false) ∧ Ok w') (T6 : ∀ w1, Ok w1 → Calls Tryz.prog 107 #[.pointer (some ⟨B, 0, none⟩), .int .i64 a, .string p] w1 fun e w' => (∃ b, e = .panicked [{ v := .iface 82 (.pointer (some ⟨b, 0, none⟩)), recovered := false }] ∧ G' b w')) :
    Calls Tryz.prog 88 #[.pointer (some ⟨B, 0, none⟩), .int .i64 a, .string p] w fun e w' => ∃ b, e = .panicked [{ v := .iface 82 (.pointer (some ⟨b, 0, none⟩)), recovered := false }] ∧ G' b w' := by
  have hcases : s = 1 ∨ s = 2 ∨ s = 3 ∨ s = 4 ∨ s = 5 := by omega
  have T := Lib.hid T6
  clear T6
  rcases hcases with rfl | rfl | rfl | rfl | rfl
  · have K1 := Lib.hid (F1 (by decide))
    have K2 := Lib.hid (F2 (by decide))
    have K3 := Lib.hid (F3 (by decide))
    have K4 := Lib.hid (F4 (by decide))
    have K5 := Lib.hid (F5 (by decide))
    clear F1 F2 F3 F4 F5
    clear hs hs5
    go_enter Tryz.func88, Tryz.ntmps88
    go_wp2_with (first
      | (go_at_call 102; (with_reducible refine (K1.out _ (by assumption)).mono ?_); rintro e w1 ⟨rfl, hk1⟩)
      | (go_at_call 103; (with_reducible refine (K2.out _ (by assumption)).mono ?_); rintro e w2 ⟨rfl, hk2⟩)
      | (go_at_call 104; (with_reducible refine (K3.out _ (by assumption)).mono ?_); rintro e w3 ⟨rfl, hk3⟩)
      | (go_at_call 105; (with_reducible refine (K4.out _ (by assumption)).mono ?_); rintro e w4 ⟨rfl, hk4⟩)
      | (go_at_call 106; (with_reducible refine (K5.out _ (by assumption)).mono ?_); rintro e w5 ⟨rfl, hk5⟩)
      | (go_at_call 107; (with_reducible refine (T.out _ (by assumption)).mono ?_); rintro e w6 ⟨b, rfl, hG⟩))
    exact ⟨rfl, b, rfl, hG⟩
  · clear F1
    have K2 := Lib.hid (F2 (by decide))
    have K3 := Lib.hid (F3 (by decide))
    have K4 := Lib.hid (F4 (by decide))
    have K5 := Lib.hid (F5 (by decide))
    clear F2 F3 F4 F5
    clear hs hs5
    go_enter Tryz.func88, Tryz.ntmps88
    go_wp2_with (first
      | (go_at_call 103; (with_reducible refine (K2.out _ (by assumption)).mono ?_); rintro e w2 ⟨rfl, hk2⟩)
      | (go_at_call 104; (with_reducible refine (K3.out _ (by assumption)).mono ?_); rintro e w3 ⟨rfl, hk3⟩)
      | (go_at_call 105; (with_reducible refine (K4.out _ (by assumption)).mono ?_); rintro e w4 ⟨rfl, hk4⟩)
      | (go_at_call 106; (with_reducible refine (K5.out _ (by assumption)).mono ?_); rintro e w5 ⟨rfl, hk5⟩)
      | (go_at_call 107; (with_reducible refine (T.out _ (by assumption)).mono ?_); rintro e w6 ⟨b, rfl, hG⟩))
    exact ⟨rfl, b, rfl, hG⟩
  · clear F1 F2
    have K3 := Lib.hid (F3 (by decide))
    have K4 := Lib.hid (F4 (by decide))
    have K5 := Lib.hid (F5 (by decide))
    clear F3 F4 F5
    clear hs hs5
    go_enter Tryz.func88, Tryz.ntmps88
    go_wp2_with (first
      | (go_at_call 104; (with_reducible refine (K3.out _ (by assumption)).mono ?_); rintro e w3 ⟨rfl, hk3⟩)
      | (go_at_call 105; (with_reducible refine (K4.out _ (by assumption)).mono ?_); rintro e w4 ⟨rfl, hk4⟩)
      | (go_at_call 106; (with_reducible refine (K5.out _ (by assumption)).mono ?_); rintro e w5 ⟨rfl, hk5⟩)
      | (go_at_call 107; (with_reducible refine (T.out _ (by assumption)).mono ?_); rintro e w6 ⟨b, rfl, hG⟩))
    exact ⟨rfl, b, rfl, hG⟩
  · clear F1 F2 F3
    have K4 := Lib.hid (F4 (by decide))
    have K5 := Lib.hid (F5 (by decide))
    clear F4 F5
    clear hs hs5
    go_enter Tryz.func88, Tryz.ntmps88
    go_wp2_with (first
      | (go_at_call 105; (with_reducible refine (K4.out _ (by assumption)).mono ?_); rintro e w4 ⟨rfl, hk4⟩)
      | (go_at_call 106; (with_reducible refine (K5.out _ (by assumption)).mono ?_); rintro e w5 ⟨rfl, hk5⟩)
      | (go_at_call 107; (with_reducible refine (T.out _ (by assumption)).mono ?_); rintro e w6 ⟨b, rfl, hG⟩))
    exact ⟨rfl, b, rfl, hG⟩
  · clear F1 F2 F3 F4
    have K5 := Lib.hid (F5 (by decide))
    clear F5
    clear hs hs5
    go_enter Tryz.func88, Tryz.ntmps88
    go_wp2_with (first
      | (go_at_call 106; (with_reducible refine (K5.out _ (by assumption)).mono ?_); rintro e w5 ⟨rfl, hk5⟩)
      | (go_at_call 107; (with_reducible refine (T.out _ (by assumption)).mono ?_); rintro e w6 ⟨b, rfl, hG⟩))
    exact ⟨rfl, b, rfl, hG⟩
set_option maxRecDepth 100000 in
set_option maxHeartbeats 2000000 in
theorem further_none (w : World) (B s : Nat) (a : Int) (p : ByteArray) (Ok : World → Prop)  (hs : 1 ≤ s) (hs5 : s ≤ 5) (hok : Ok w) (hcell : w.cell? ⟨B, 9, none⟩ = some (.int .i64 (s : Int))) (F1 : s ≤ 1 → ∀ w1, Ok w1 → Calls Tryz.prog 102 #[.pointer (some ⟨B, 0, none⟩), .string p] w1 fun e w' => e = .returned (.bool false) ∧ Ok w') (F2 : s ≤ 2 → ∀ w1, Ok w1 → Calls Tryz.prog 103 #[.pointer (some ⟨B, 0, none⟩), .string p] w1 fun e w' => e = .returned (.bool false) ∧ Ok w') (F3 : s ≤ 3 → ∀ w1, Ok w1 → Calls Tryz.prog 104 #[.pointer (some ⟨B, 0, none⟩), .string p] w1 fun e w' => e = .returned (.bool false) ∧ Ok w') (F4 : s ≤ 4 → ∀ w1, Ok w1 → Calls Tryz.prog 105 #[.pointer (some ⟨B, 0, none⟩), .int .i64 a, .string p] w1 fun e w' => e = .returned (.bool false) ∧ Ok w') (F5 : s ≤ 5 → ∀ w1, Ok w1 → Calls Tryz.prog 106 #[.pointer (some ⟨B, 0, none⟩), .string p] w1 fun e w' => e = .returned (.bool false) ∧ Ok w') (F6 : s ≤ 5 → ∀ w1, Ok w1 → Calls Tryz.prog 107 #[.pointer (some ⟨B, 0, none⟩), .int .i64 a, .string p] w1 fun e w' => e = .returned (.bool false) ∧ Ok w') (F7 : s ≤ 5 → ∀ w1, Ok w1 → Calls Tryz.prog 85 #[.pointer (some ⟨B, 0, none⟩), .string p] w1 fun e w' => e = .returned (.bool false) ∧ Ok w') :
    Calls Tryz.prog 88 #[.pointer (some ⟨B, 0, none⟩), .int .i64 a, .string p] w fun e w' => e = .returned (.bool false) ∧ Ok w' := by
  have hcases : s = 1 ∨ s = 2 ∨ s = 3 ∨ s = 4 ∨ s = 5 := by omega
  rcases hcases with rfl | rfl | rfl | rfl | rfl
  · have K1 := Lib.hid (F1 (by decide))
    have K2 := Lib.hid (F2 (by decide))
    have K3 := Lib.hid (F3 (by decide))
    have K4 := Lib.hid (F4 (by decide))
    have K5 := Lib.hid (F5 (by decide))
    have K6 := Lib.hid (F6 (by decide))
    have K7 := Lib.hid (F7 (by decide))
    clear F1 F2 F3 F4 F5 F6 F7
    clear hs hs5
    go_enter Tryz.func88, Tryz.ntmps88
    go_wp2_with (first
      | (go_at_call 102; (with_reducible refine (K1.out _ (by assumption)).mono ?_); rintro e w1 ⟨rfl, hk1⟩)
      | (go_at_call 103; (with_reducible refine (K2.out _ (by assumption)).mono ?_); rintro e w2 ⟨rfl, hk2⟩)
      | (go_at_call 104; (with_reducible refine (K3.out _ (by assumption)).mono ?_); rintro e w3 ⟨rfl, hk3⟩)
      | (go_at_call 105; (with_reducible refine (K4.out _ (by assumption)).mono ?_); rintro e w4 ⟨rfl, hk4⟩)
      | (go_at_call 106; (with_reducible refine (K5.out _ (by assumption)).mono ?_); rintro e w5 ⟨rfl, hk5⟩)
      | (go_at_call 107; (with_reducible refine (K6.out _ (by assumption)).mono ?_); rintro e w6 ⟨rfl, hk6⟩)
      | (go_at_call 85; (with_reducible refine (K7.out _ (by assumption)).mono ?_); rintro e w7 ⟨rfl, hk7⟩))
    go_ret
    exact ⟨rfl, by assumption⟩
  · clear F1
    have K2 := Lib.hid (F2 (by decide))
    have K3 := Lib.hid (F3 (by decide))
    have K4 := Lib.hid (F4 (by decide))
    have K5 := Lib.hid (F5 (by decide))
    have K6 := Lib.hid (F6 (by decide))
    have K7 := Lib.hid (F7 (by decide))
    clear F2 F3 F4 F5 F6 F7
    clear hs hs5
    go_enter Tryz.func88, Tryz.ntmps88
    go_wp2_with (first
      | (go_at_call 103; (with_reducible refine (K2.out _ (by assumption)).mono ?_); rintro e w2 ⟨rfl, hk2⟩)
      | (go_at_call 104; (with_reducible refine (K3.out _ (by assumption)).mono ?_); rintro e w3 ⟨rfl, hk3⟩)
      | (go_at_call 105; (with_reducible refine (K4.out _ (by assumption)).mono ?_); rintro e w4 ⟨rfl, hk4⟩)
      | (go_at_call 106; (with_reducible refine (K5.out _ (by assumption)).mono ?_); rintro e w5 ⟨rfl, hk5⟩)
      | (go_at_call 107; (with_reducible refine (K6.out _ (by assumption)).mono ?_); rintro e w6 ⟨rfl, hk6⟩)
      | (go_at_call 85; (with_reducible refine (K7.out _ (by assumption)).mono ?_); rintro e w7 ⟨rfl, hk7⟩))
    go_ret
    exact ⟨rfl, by assumption⟩
  · clear F1 F2
    have K3 := Lib.hid (F3 (by decide))
    have K4 := Lib.hid (F4 (by decide))
    have K5 := Lib.hid (F5 (by decide))
    have K6 := Lib.hid (F6 (by decide))
    have K7 := Lib.hid (F7 (by decide))
    clear F3 F4 F5 F6 F7
    clear hs hs5
    go_enter Tryz.func88, Tryz.ntmps88
    go_wp2_with (first
      | (go_at_call 104; (with_reducible refine (K3.out _ (by assumption)).mono ?_); rintro e w3 ⟨rfl, hk3⟩)
      | (go_at_call 105; (with_reducible refine (K4.out _ (by assumption)).mono ?_); rintro e w4 ⟨rfl, hk4⟩)
      | (go_at_call 106; (with_reducible refine (K5.out _ (by assumption)).mono ?_); rintro e w5 ⟨rfl, hk5⟩)
      | (go_at_call 107; (with_reducible refine (K6.out _ (by assumption)).mono ?_); rintro e w6 ⟨rfl, hk6⟩)
      | (go_at_call 85; (with_reducible refine (K7.out _ (by assumption)).mono ?_); rintro e w7 ⟨rfl, hk7⟩))
    go_ret
    exact ⟨rfl, by assumption⟩
  · clear F1 F2 F3
    have K4 := Lib.hid (F4 (by decide))
    have K5 := Lib.hid (F5 (by decide))
    have K6 := Lib.hid (F6 (by decide))
    have K7 := Lib.hid (F7 (by decide))
    clear F4 F5 F6 F7
    clear hs hs5
    go_enter Tryz.func88, Tryz.ntmps88
    go_wp2_with (first
      | (go_at_call 105; (with_reducible refine (K4.out _ (by assumption)).mono ?_); rintro e w4 ⟨rfl, hk4⟩)
      | (go_at_call 106; (with_reducible refine (K5.out _ (by assumption)).mono ?_); rintro e w5 ⟨rfl, hk5⟩)
      | (go_at_call 107; (with_reducible refine (K6.out _ (by assumption)).mono ?_); rintro e w6 ⟨rfl, hk6⟩)
      | (go_at_call 85; (with_reducible refine (K7.out _ (by assumption)).mono ?_); rintro e w7 ⟨rfl, hk7⟩))
    go_ret
    exact ⟨rfl, by assumption⟩
  · clear F1 F2 F3 F4
    have K5 := Lib.hid (F5 (by decide))
    have K6 := Lib.hid (F6 (by decide))
    have K7 := Lib.hid (F7 (by decide))
    clear F5 F6 F7
    clear hs hs5
    go_enter Tryz.func88, Tryz.ntmps88
    go_wp2_with (first
      | (go_at_call 106; (with_reducible refine (K5.out _ (by assumption)).mono ?_); rintro e w5 ⟨rfl, hk5⟩)
      | (go_at_call 107; (with_reducible refine (K6.out _ (by assumption)).mono ?_); rintro e w6 ⟨rfl, hk6⟩)
      | (go_at_call 85; (with_reducible refine (K7.out _ (by assumption)).mono ?_); rintro e w7 ⟨rfl, hk7⟩))
    go_ret
    exact ⟨rfl, by assumption⟩
end Go.Proofs.YtpnhjpplfjamkaaGreatDoor

/-! Package parse: the reader takes in a piece. -/
namespace Go.Proofs.YtpnhjpplfjamkaaGreatDoor
open Go Go.RowKit Go.Maps

set_option maxRecDepth 100000 in
theorem take_0m (w : World) (B : Nat) (a : Int) (p : ByteArray) (Ok : World → Prop) (G : World → Prop) (hok : Ok w) (hcell : w.cell? ⟨B, 9, none⟩ = some (.int .i64 0)) (F0 : ∀ w1, Ok w1 → Calls Tryz.prog 85 #[.pointer (some ⟨B, 0, none⟩), .string p] w1 fun e w' => e = .returned (.bool true) ∧ G w') :
    Calls Tryz.prog 68 #[.pointer (some ⟨B, 0, none⟩), .int .i64 a, .string p] w fun e w' => e = .returned (.tuple #[]) ∧ G w' := by
  have K0 := Lib.hid F0
  clear F0
  go_enter Tryz.func68, Tryz.ntmps68
  go_wp2_with (first
    | (go_at_call 85; (with_reducible refine (K0.out _ (by assumption)).mono ?_); rintro e w1 ⟨rfl, hG⟩))
  refine ends_none rfl rfl ?_
  exact ⟨rfl, hG⟩
set_option maxRecDepth 100000 in
theorem take_0l (w : World) (B : Nat) (a : Int) (p : ByteArray) (Ok : World → Prop) (G : World → Prop) (hok : Ok w) (hcell : w.cell? ⟨B, 9, none⟩ = some (.int .i64 0)) (F0 : ∀ w1, Ok w1 → Calls Tryz.prog 85 #[.pointer (some ⟨B, 0, none⟩), .string p] w1 fun e w' => e = .returned (.bool false) ∧ Ok w') (F1 : ∀ w1, Ok w1 → Calls Tryz.prog 86 #[.pointer (some ⟨B, 0, none⟩), .string p] w1 fun e w' => e = .returned (.bool true) ∧ G w') :
    Calls Tryz.prog 68 #[.pointer (some ⟨B, 0, none⟩), .int .i64 a, .string p] w fun e w' => e = .returned (.tuple #[]) ∧ G w' := by
  have K0 := Lib.hid F0
  clear F0
  have K1 := Lib.hid F1
  clear F1
  go_enter Tryz.func68, Tryz.ntmps68
  go_wp2_with (first
    | (go_at_call 85; (with_reducible refine (K0.out _ (by assumption)).mono ?_); rintro e w1 ⟨rfl, hk0⟩)
    | (go_at_call 86; (with_reducible refine (K1.out _ (by assumption)).mono ?_); rintro e w2 ⟨rfl, hG⟩))
  refine ends_none rfl rfl ?_
  exact ⟨rfl, hG⟩
set_option maxRecDepth 100000 in
theorem take_0n (w : World) (B : Nat) (a : Int) (p : ByteArray) (Ok : World → Prop) (G' : Nat → World → Prop) (hok : Ok w) (hcell : w.cell? ⟨B, 9, none⟩ = some (.int .i64 0)) (F0 : ∀ w1, Ok w1 → Calls Tryz.prog 85 #[.pointer (some ⟨B, 0, none⟩), .string p] w1 fun e w' => e = .returned (.bool false) ∧ Ok w') (F1 : ∀ w1, Ok w1 → Calls Tryz.prog 86 #[.pointer (some ⟨B, 0, none⟩), .string p] w1 fun e w' => e = .returned (.bool false) ∧ Ok w') (F2 : ∀ w1, Ok w1 → Calls Tryz.prog 69 #[.int .i64 10, .int .i64 a, .string (⟨#[115, 117, 98, 116, 97, 103]⟩ : ByteArray)] w1 fun e w' => ∃ b, e = .panicked [{ v := .iface 82 (.pointer (some ⟨b, 0, none⟩)), recovered := false }] ∧ G' b w') :
    Calls Tryz.prog 68 #[.pointer (some ⟨B, 0, none⟩), .int .i64 a, .string p] w fun e w' => ∃ b, e = .panicked [{ v := .iface 82 (.pointer (some ⟨b, 0, none⟩)), recovered := false }] ∧ G' b w' := by
  have K0 := Lib.hid F0
  clear F0
  have K1 := Lib.hid F1
  clear F1
  have K2 := Lib.hid F2
  clear F2
  go_enter Tryz.func68, Tryz.ntmps68
  go_wp2_with (first
    | (go_at_call 85; (with_reducible refine (K0.out _ (by assumption)).mono ?_); rintro e w1 ⟨rfl, hk0⟩)
    | (go_at_call 86; (with_reducible refine (K1.out _ (by assumption)).mono ?_); rintro e w2 ⟨rfl, hk1⟩)
    | (go_at_call 69; (with_reducible refine (K2.out _ (by assumption)).mono ?_); rintro e w3 ⟨b, rfl, hG⟩))
  exact ⟨rfl, b, rfl, hG⟩
set_option maxRecDepth 100000 in
theorem take_6y (w : World) (B : Nat) (a : Int) (p : ByteArray) (Ok : World → Prop) (G : World → Prop) (hok : Ok w) (hcell : w.cell? ⟨B, 9, none⟩ = some (.int .i64 6)) (F0 : ∀ w1, Ok w1 → Calls Tryz.prog 87 #[.pointer (some ⟨B, 0, none⟩), .string p] w1 fun e w' => e = .returned (.bool true) ∧ G w') :
    Calls Tryz.prog 68 #[.pointer (some ⟨B, 0, none⟩), .int .i64 a, .string p] w fun e w' => e = .returned (.tuple #[]) ∧ G w' := by
  have K0 := Lib.hid F0
  clear F0
  go_enter Tryz.func68, Tryz.ntmps68
  go_wp2_with (first
    | (go_at_call 87; (with_reducible refine (K0.out _ (by assumption)).mono ?_); rintro e w1 ⟨rfl, hG⟩))
  refine ends_none rfl rfl ?_
  exact ⟨rfl, hG⟩
set_option maxRecDepth 100000 in
theorem take_6n (w : World) (B : Nat) (a : Int) (p : ByteArray) (Ok : World → Prop) (G' : Nat → World → Prop) (hok : Ok w) (hcell : w.cell? ⟨B, 9, none⟩ = some (.int .i64 6)) (F0 : ∀ w1, Ok w1 → Calls Tryz.prog 87 #[.pointer (some ⟨B, 0, none⟩), .string p] w1 fun e w' => e = .returned (.bool false) ∧ Ok w') (F1 : ∀ w1, Ok w1 → Calls Tryz.prog 69 #[.int .i64 10, .int .i64 a, .string (⟨#[115, 117, 98, 116, 97, 103]⟩ : ByteArray)] w1 fun e w' => ∃ b, e = .panicked [{ v := .iface 82 (.pointer (some ⟨b, 0, none⟩)), recovered := false }] ∧ G' b w') :
    Calls Tryz.prog 68 #[.pointer (some ⟨B, 0, none⟩), .int .i64 a, .string p] w fun e w' => ∃ b, e = .panicked [{ v := .iface 82 (.pointer (some ⟨b, 0, none⟩)), recovered := false }] ∧ G' b w' := by
  have K0 := Lib.hid F0
  clear F0
  have K1 := Lib.hid F1
  clear F1
  go_enter Tryz.func68, Tryz.ntmps68
  go_wp2_with (first
    | (go_at_call 87; (with_reducible refine (K0.out _ (by assumption)).mono ?_); rintro e w1 ⟨rfl, hk0⟩)
    | (go_at_call 69; (with_reducible refine (K1.out _ (by assumption)).mono ?_); rintro e w2 ⟨b, rfl, hG⟩))
  exact ⟨rfl, b, rfl, hG⟩
set_option maxRecDepth 100000 in
theorem take_fy (w : World) (B : Nat) (a : Int) (p : ByteArray) (Ok : World → Prop) (G : World → Prop) (hok : Ok w) (s : Nat) (h0 : ((s : Int) == 0) = false) (h6 : ((s : Int) == 6) = false) (hcell : w.cell? ⟨B, 9, none⟩ = some (.int .i64 (s : Int))) (F0 : ∀ w1, Ok w1 → Calls Tryz.prog 88 #[.pointer (some ⟨B, 0, none⟩), .int .i64 a, .string p] w1 fun e w' => e = .returned (.bool true) ∧ G w') :
    Calls Tryz.prog 68 #[.pointer (some ⟨B, 0, none⟩), .int .i64 a, .string p] w fun e w' => e = .returned (.tuple #[]) ∧ G w' := by
  have K0 := Lib.hid F0
  clear F0
  go_enter Tryz.func68, Tryz.ntmps68
  go_wp2_with (first
    | (go_at_call 88; (with_reducible refine (K0.out _ (by assumption)).mono ?_); rintro e w1 ⟨rfl, hG⟩))
  refine ends_none rfl rfl ?_
  exact ⟨rfl, hG⟩
set_option maxRecDepth 100000 in
theorem take_fn (w : World) (B : Nat) (a : Int) (p : ByteArray) (Ok : World → Prop) (G' : Nat → World → Prop) (hok : Ok w) (s : Nat) (h0 : ((s : Int) == 0) = false) (h6 : ((s : Int) == 6) = false) (hcell : w.cell? ⟨B, 9, none⟩ = some (.int .i64 (s : Int))) (F0 : ∀ w1, Ok w1 → Calls Tryz.prog 88 #[.pointer (some ⟨B, 0, none⟩), .int .i64 a, .string p] w1 fun e w' => e = .returned (.bool false) ∧ Ok w') (F1 : ∀ w1, Ok w1 → Calls Tryz.prog 69 #[.int .i64 10, .int .i64 a, .string (⟨#[115, 117, 98, 116, 97, 103]⟩ : ByteArray)] w1 fun e w' => ∃ b, e = .panicked [{ v := .iface 82 (.pointer (some ⟨b, 0, none⟩)), recovered := false }] ∧ G' b w') :
    Calls Tryz.prog 68 #[.pointer (some ⟨B, 0, none⟩), .int .i64 a, .string p] w fun e w' => ∃ b, e = .panicked [{ v := .iface 82 (.pointer (some ⟨b, 0, none⟩)), recovered := false }] ∧ G' b w' := by
  have K0 := Lib.hid F0
  clear F0
  have K1 := Lib.hid F1
  clear F1
  go_enter Tryz.func68, Tryz.ntmps68
  go_wp2_with (first
    | (go_at_call 88; (with_reducible refine (K0.out _ (by assumption)).mono ?_); rintro e w1 ⟨rfl, hk0⟩)
    | (go_at_call 69; (with_reducible refine (K1.out _ (by assumption)).mono ?_); rintro e w2 ⟨b, rfl, hG⟩))
  exact ⟨rfl, b, rfl, hG⟩
set_option maxRecDepth 100000 in
theorem take_fp (w : World) (B : Nat) (a : Int) (p : ByteArray) (Ok : World → Prop) (G' : Nat → World → Prop) (hok : Ok w) (s : Nat) (h0 : ((s : Int) == 0) = false) (h6 : ((s : Int) == 6) = false) (hcell : w.cell? ⟨B, 9, none⟩ = some (.int .i64 (s : Int))) (F0 : ∀ w1, Ok w1 → Calls Tryz.prog 88 #[.pointer (some ⟨B, 0, none⟩), .int .i64 a, .string p] w1 fun e w' => ∃ b, e = .panicked [{ v := .iface 82 (.pointer (some ⟨b, 0, none⟩)), recovered := false }] ∧ G' b w') :
    Calls Tryz.prog 68 #[.pointer (some ⟨B, 0, none⟩), .int .i64 a, .string p] w fun e w' => ∃ b, e = .panicked [{ v := .iface 82 (.pointer (some ⟨b, 0, none⟩)), recovered := false }] ∧ G' b w' := by
  have K0 := Lib.hid F0
  clear F0
  go_enter Tryz.func68, Tryz.ntmps68
  go_wp2_with (first
    | (go_at_call 88; (with_reducible refine (K0.out _ (by assumption)).mono ?_); rintro e w1 ⟨b, rfl, hG⟩))
  exact ⟨rfl, b, rfl, hG⟩

/-! Together. -/
section
variable {w : World} {N B M : Nat} {st : PSt}
/-- What the reader must hold to, so that a piece can be taken in. -/
structure RdGood (st : PSt) : Prop where
  small : RdSmall st
  ext : st.key.size ≠ 0 → st.stage ≠ 6 → st.must = false → st.T.exts ≠ []
  s0 : st.stage = 0 → st.must = false
  s6 : st.stage ≤ 6
def OkR (w : World) (N B M : Nat) (st : PSt) (w1 : World) : Prop := Foot N B M w w1 ∧ Rd w1 N B M st
theorem OkR.refl (h : Rd w N B M st) : OkR w N B M st w := ⟨Foot.refl _ _ _ _, h⟩
theorem OkR.step {w1 w2 : World} {st' : PSt} (h : OkR w N B M st w1) (hb : Foot N B M w1 w2) (hr : Rd w2 N B M st') : OkR w N B M st' w2 := ⟨h.1.trans hb, hr⟩
theorem kind_no {m : FuncId} {args : Array Value} {b : Bool} {f : PSt} (hf : b = false) (he : f = st) (h : ∀ w1, Rd w1 N B M st → Calls Tryz.prog m args w1 fun e w' => e = .returned (.bool b) ∧ Foot N B M w1 w' ∧ Rd w' N B M f) :
    ∀ w1, OkR w N B M st w1 → Calls Tryz.prog m args w1 fun e w' => e = .returned (.bool false) ∧ OkR w N B M st w' := fun w1 h1 =>
  (h w1 h1.2).mono fun e w' ⟨p, q, r⟩ => ⟨by rw [p, hf], h1.step q (he ▸ r)⟩
theorem kind_yes {m : FuncId} {args : Array Value} {b : Bool} {f st' : PSt} (hf : b = true) (he : f = st') (h : ∀ w1, Rd w1 N B M st → Calls Tryz.prog m args w1 fun e w' => e = .returned (.bool b) ∧ Foot N B M w1 w' ∧ Rd w' N B M f) :
    ∀ w1, OkR w N B M st w1 → Calls Tryz.prog m args w1 fun e w' => e = .returned (.bool true) ∧ OkR w N B M st' w' := fun w1 h1 =>
  (h w1 h1.2).mono fun e w' ⟨p, q, r⟩ => ⟨by rw [p, hf], h1.step q (he ▸ r)⟩
end
end Go.Proofs.YtpnhjpplfjamkaaGreatDoor

/-! Package parse: the reader takes in a piece, as the mathematics has it. -/
namespace Go.Proofs.YtpnhjpplfjamkaaGreatDoor
open Go Go.RowKit Go.Maps

/-- How the reading ends: with what, and what the reader holds then. -/
def EndP (w : World) (N B M : Nat) (st : PSt) (x : PErr) (b : Nat) (w' : World) : Prop := OkR w N B M st w' ∧ N ≤ b ∧ w'.heap[b]? = some (faultObj (x.2.1 : Int) x.2.2 (.iface 44 (.int .i64 x.1)))
def panicP (b : Nat) : Ending := .panicked [{ v := .iface 82 (.pointer (some ⟨b, 0, none⟩)), recovered := false }]
section
variable {w : World} {N B M : Nat} {st : PSt}
theorem Rd.stage (h : Rd w N B M st) : w.cell? ⟨B, 9, none⟩ = some (.int .i64 (st.stage : Int)) := by
  obtain ⟨_, _, _, _, _, h⟩ := h
  exact rd_cell 9 h.hb rfl
theorem Rd.lo (h : Rd w N B M st) : N ≤ w.heap.size := by
  obtain ⟨_, _, _, _, _, h⟩ := h
  exact h.nh
theorem Rd.below {w' : World} (h : Rd w N B M st) (hb : Below w.heap.size w w') : Rd w' N B M st := by
  obtain ⟨_, _, _, _, _, h⟩ := h
  exact (h.below hb).rd
theorem failP_ok (k : Int) (a : Nat) (s : ByteArray) (hk : (k == 0) = false) :
    ∀ w1, OkR w N B M st w1 → Calls Tryz.prog 69 #[.int .i64 k, .int .i64 (a : Int), .string s] w1 fun e w' => ∃ b, e = panicP b ∧ EndP w N B M st (k, a, s) b w' := fun w1 h1 =>
  (failP_own k a s w1 hk).mono fun _ _ ⟨⟨b, h2, h3, h4⟩, hb⟩ => ⟨b, h3, ⟨h1.1.trans (Foot.of hb), h1.2.below hb⟩, Nat.le_trans h1.2.lo h2, h4⟩
theorem kindP_no {m : FuncId} {args : Array Value} {is tw : Bool} {st' : PSt} {x : PErr} (hf : is = false) (h : ∀ w1, Rd w1 N B M st → Calls Tryz.prog m args w1 fun e w' => KindP w1 w' N B M st st' e is tw x) :
    ∀ w1, OkR w N B M st w1 → Calls Tryz.prog m args w1 fun e w' => e = .returned (.bool false) ∧ OkR w N B M st w' := fun w1 h1 =>
  (h w1 h1.2).mono fun e w' hk => by
    rcases hk with ⟨_, p, q, r⟩ | ⟨p, _⟩ | ⟨p, _⟩
    · exact ⟨p, h1.step q r⟩
    · rw [hf] at p; cases p
    · rw [hf] at p; cases p
theorem kindP_yes {m : FuncId} {args : Array Value} {is tw : Bool} {st' : PSt} {x : PErr} (hf : is = true) (ht : tw = false) (h : ∀ w1, Rd w1 N B M st → Calls Tryz.prog m args w1 fun e w' => KindP w1 w' N B M st st' e is tw x) :
    ∀ w1, OkR w N B M st w1 → Calls Tryz.prog m args w1 fun e w' => e = .returned (.bool true) ∧ OkR w N B M st' w' := fun w1 h1 =>
  (h w1 h1.2).mono fun e w' hk => by
    rcases hk with ⟨p, _⟩ | ⟨_, _, p, q, r⟩ | ⟨_, p, _⟩
    · rw [hf] at p; cases p
    · exact ⟨p, h1.step q r⟩
    · rw [ht] at p; cases p
theorem kindP_twice {m : FuncId} {args : Array Value} {is tw : Bool} {st' : PSt} {x : PErr} (hf : is = true) (ht : tw = true) (h : ∀ w1, Rd w1 N B M st → Calls Tryz.prog m args w1 fun e w' => KindP w1 w' N B M st st' e is tw x) :
    ∀ w1, OkR w N B M st w1 → Calls Tryz.prog m args w1 fun e w' => ∃ b, e = panicP b ∧ EndP w N B M st x b w' := fun w1 h1 =>
  (h w1 h1.2).mono fun e w' hk => by
    rcases hk with ⟨p, _⟩ | ⟨_, p, _⟩ | ⟨_, _, ⟨b, b1, b2, b3⟩, q, r⟩
    · rw [hf] at p; cases p
    · rw [ht] at p; cases p
    · exact ⟨b, b2, h1.step q r, b1, b3⟩

/-- What comes back of furtherP's outcome. -/
def FurQ (w : World) (N B M : Nat) (st : PSt) (r : Except PErr PSt) (e : Ending) (w' : World) : Prop :=
  (∃ st', r = .ok st' ∧ e = .returned (.bool true) ∧ OkR w N B M st' w') ∨ (∃ x, r = .error x ∧ x.1 = 10 ∧ e = .returned (.bool false) ∧ OkR w N B M st w') ∨ (∃ x b, r = .error x ∧ x.1 = 11 ∧ e = panicP b ∧ EndP w N B M st x b w')
theorem furtherP_own (h : Rd w N B M st) (hg : RdGood st) (a : Nat) (p : ByteArray) (hp : p.size ≤ 1048576) (hpp : pieces p = [(0, p)]) (h1 : 1 ≤ st.stage) (h5 : st.stage ≤ 5) :
    Calls Tryz.prog 88 #[.pointer (some ⟨B, 0, none⟩), .int .i64 (a : Int), .string p] w fun e w' => FurQ w N B M st (furtherP st a p) e w' := by
  have C1 : ∀ w1, Rd w1 N B M st → Calls Tryz.prog _ _ w1 fun e w' => _ := fun w1 ⟨_, _, _, _, _, h⟩ => extlangP_own h hg.small p hp
  have C2 : ∀ w1, Rd w1 N B M st → Calls Tryz.prog _ _ w1 fun e w' => _ := fun w1 ⟨_, _, _, _, _, h⟩ => scriptP_own h p hp
  have C3 : ∀ w1, Rd w1 N B M st → Calls Tryz.prog _ _ w1 fun e w' => _ := fun w1 ⟨_, _, _, _, _, h⟩ => regionP_own h p hp
  have C4 : ∀ w1, Rd w1 N B M st → Calls Tryz.prog _ _ w1 fun e w' => _ := fun w1 ⟨_, _, _, _, _, h⟩ => variantP_own h hg.small p hp a
  have C6 : ∀ w1, Rd w1 N B M st → Calls Tryz.prog _ _ w1 fun e w' => _ := fun w1 ⟨_, _, _, _, _, h⟩ => singletonP_own h hg.small p hp a
  have C7 : ∀ w1, Rd w1 N B M st → Calls Tryz.prog _ _ w1 fun e w' => _ := fun w1 ⟨_, _, _, _, _, h⟩ => markP_own h p
  unfold furtherP
  have ok := OkR.refl h
  have cell := h.stage
  by_cases k1 : st.stage ≤ 1 ∧ extlangS p = true ∧ st.T.extl.length ≠ 3
  · rw [if_pos k1]
    exact (further_1 w B st.stage a p _ _ h1 (by omega) ok cell (kind_yes (by unfold isExtl; exact decide_eq_true k1.2) (by unfold extlP; rw [if_pos k1.2]) C1)).mono fun e w' ⟨x, y⟩ => .inl ⟨_, rfl, x, y⟩
  rw [if_neg k1]
  have F1 : st.stage ≤ 1 → _ := fun hs => kind_no (w := w) (by unfold isExtl; exact decide_eq_false (fun q => k1 ⟨hs, q⟩)) (by unfold extlP; rw [if_neg (fun q => k1 ⟨hs, q⟩)]) C1
  by_cases k2 : st.stage ≤ 2 ∧ scriptS p = true
  · rw [if_pos k2]
    exact (further_2 w B st.stage a p _ _ h1 k2.1 ok cell F1 (kind_yes k2.2 (by unfold scrP; rw [if_pos k2.2]) C2)).mono fun e w' ⟨x, y⟩ => .inl ⟨_, rfl, x, y⟩
  rw [if_neg k2]
  have F2 : st.stage ≤ 2 → _ := fun hs => kind_no (w := w) (by simpa using fun q => k2 ⟨hs, q⟩) (by unfold scrP; rw [if_neg (fun q => k2 ⟨hs, q⟩)]) C2
  by_cases k3 : st.stage ≤ 3 ∧ regionS p = true
  · rw [if_pos k3]
    exact (further_3 w B st.stage a p _ _ h1 k3.1 ok cell F1 F2 (kind_yes k3.2 (by unfold regP; rw [if_pos k3.2]) C3)).mono fun e w' ⟨x, y⟩ => .inl ⟨_, rfl, x, y⟩
  rw [if_neg k3]
  have F3 : st.stage ≤ 3 → _ := fun hs => kind_no (w := w) (by simpa using fun q => k3 ⟨hs, q⟩) (by unfold regP; rw [if_neg (fun q => k3 ⟨hs, q⟩)]) C3
  by_cases k4 : st.stage ≤ 4 ∧ variantS p = true
  · rw [if_pos k4]
    cases ht : hasT st.seen p with
    | true =>
      rw [if_pos rfl]
      exact (further_4t w B st.stage a p _ _ h1 k4.1 ok cell F1 F2 F3 (kindP_twice k4.2 ht C4)).mono fun e w' ⟨b, x, y⟩ => .inr (.inr ⟨_, b, rfl, rfl, x, y⟩)
    | false =>
      rw [if_neg (by decide)]
      exact (further_4 w B st.stage a p _ _ h1 k4.1 ok cell F1 F2 F3 (kindP_yes k4.2 ht C4)).mono fun e w' ⟨x, y⟩ => .inl ⟨_, rfl, x, y⟩
  rw [if_neg k4]
  have F4 : st.stage ≤ 4 → _ := fun hs => kindP_no (w := w) (by simpa using fun q => k4 ⟨hs, q⟩) C4
  by_cases k5 : st.key.size ≠ 0 ∧ 2 ≤ p.size ∧ okS p = true
  · rw [if_pos k5]
    have C5 : ∀ w1, OkR w N B M st w1 → Calls Tryz.prog _ _ w1 fun e w' => e = .returned (.bool true) ∧ OkR w N B M (extendP st p) w' := fun w1 ⟨hb, _, _, _, _, _, h⟩ => (extendedP_some h hg.small p hp hpp (decide_eq_true k5) (fun hm => hg.ext k5.1 (by omega) hm)).mono fun e w' ⟨x, y, z⟩ => ⟨x, hb.trans y, z⟩
    exact (further_5 w B st.stage a p _ _ h1 h5 ok cell F1 F2 F3 F4 C5).mono fun e w' ⟨x, y⟩ => .inl ⟨_, rfl, x, y⟩
  rw [if_neg k5]
  have F5 : st.stage ≤ 5 → ∀ w1, OkR w N B M st w1 → Calls Tryz.prog _ _ w1 fun e w' => e = .returned (.bool false) ∧ OkR w N B M st w' := fun _ w1 ⟨hb, _, _, _, _, _, h⟩ => (extendedP_none h p hp hpp (decide_eq_false k5)).mono fun e w' ⟨x, y, z⟩ => ⟨x, hb.trans y, z⟩
  by_cases k6 : st.must = false ∧ singletonS p = true
  · rw [if_pos k6]
    have hk6 : (!st.must && singletonS p) = true := by rw [k6.1, k6.2]; rfl
    cases ht : hasT st.seen p with
    | true =>
      rw [if_pos rfl]
      exact (further_6t w B st.stage a p _ _ h1 h5 ok cell F1 F2 F3 F4 F5 (kindP_twice hk6 ht C6)).mono fun e w' ⟨b, x, y⟩ => .inr (.inr ⟨_, b, rfl, rfl, x, y⟩)
    | false =>
      rw [if_neg (by decide)]
      exact (further_6 w B st.stage a p _ _ h1 h5 ok cell F1 F2 F3 F4 F5 (kindP_yes hk6 ht C6)).mono fun e w' ⟨x, y⟩ => .inl ⟨_, rfl, x, y⟩
  rw [if_neg k6]
  have F6 : st.stage ≤ 5 → _ := fun _ => kindP_no (w := w) (by
    cases hm : st.must with
    | true => rfl
    | false => simpa using fun q => k6 ⟨hm, q⟩) C6
  by_cases k7 : st.must = false ∧ p = sX
  · rw [if_pos k7]
    exact (further_7 w B st.stage a p _ _ h1 h5 ok cell F1 F2 F3 F4 F5 F6 (kind_yes (by unfold isMark; exact decide_eq_true k7) (by unfold markP isMark; rw [if_pos (decide_eq_true k7)]) C7)).mono fun e w' ⟨x, y⟩ => .inl ⟨_, rfl, x, y⟩
  rw [if_neg k7]
  have F7 : st.stage ≤ 5 → _ := fun _ => kind_no (w := w) (by unfold isMark; exact decide_eq_false k7) (by unfold markP isMark; rw [if_neg (by rw [decide_eq_false k7]; decide)]) C7
  exact (further_none w B st.stage a p _ h1 h5 ok cell F1 F2 F3 F4 F5 F6 F7).mono fun e w' ⟨x, y⟩ => .inr (.inl ⟨_, rfl, rfl, x, y⟩)

/-- What comes back of takeP's outcome. -/
def TakeQ (w : World) (N B M : Nat) (st : PSt) (r : Except PErr PSt) (e : Ending) (w' : World) : Prop :=
  (∃ st', r = .ok st' ∧ e = .returned (.tuple #[]) ∧ OkR w N B M st' w') ∨ (∃ x b, r = .error x ∧ e = panicP b ∧ EndP w N B M st x b w')
theorem further_err {st : PSt} {a : Nat} {p : ByteArray} {x : PErr} (h : furtherP st a p = .error x) (hx : x.1 = 10) : x = (10, a, sSub) := by
  unfold furtherP at h
  repeat' split at h
  all_goals first | (cases h; done) | (cases h; first | rfl | (exact absurd hx (show ¬ ((11 : Int) = 10) by decide)))
theorem takeP_own (h : Rd w N B M st) (hg : RdGood st) (a : Nat) (p : ByteArray) (hp : p.size ≤ 1048576) (hpp : pieces p = [(0, p)]) :
    Calls Tryz.prog 68 #[.pointer (some ⟨B, 0, none⟩), .int .i64 (a : Int), .string p] w fun e w' => TakeQ w N B M st (takeP st a p) e w' := by
  have C7 : ∀ w1, Rd w1 N B M st → Calls Tryz.prog _ _ w1 fun e w' => _ := fun w1 ⟨_, _, _, _, _, h⟩ => markP_own h p
  have C0 : ∀ w1, Rd w1 N B M st → Calls Tryz.prog _ _ w1 fun e w' => _ := fun w1 ⟨_, _, _, _, _, h⟩ => languageP_own h p hp
  have C8 : ∀ w1, Rd w1 N B M st → Calls Tryz.prog _ _ w1 fun e w' => _ := fun w1 ⟨_, _, _, _, _, h⟩ => privateP_own h hg.small p hp hpp
  have FL : ∀ w1, OkR w N B M st w1 → Calls Tryz.prog 69 #[.int .i64 10, .int .i64 (a : Int), .string (⟨#[115, 117, 98, 116, 97, 103]⟩ : ByteArray)] w1 _ := failP_ok 10 a sSub (by decide)
  have ok := OkR.refl h
  have cell := h.stage
  unfold takeP
  by_cases k0 : st.stage = 0
  · rw [if_pos k0]
    rw [k0] at cell
    have hm := hg.s0 k0
    by_cases kx : p = sX
    · rw [if_pos kx]
      exact (take_0m w B a p _ _ ok cell (kind_yes (by unfold isMark; exact decide_eq_true ⟨hm, kx⟩) (by unfold markP isMark; rw [if_pos (decide_eq_true ⟨hm, kx⟩)]) C7)).mono fun e w' ⟨x, y⟩ => .inl ⟨_, rfl, x, y⟩
    rw [if_neg kx]
    have F7 := kind_no (w := w) (by unfold isMark; exact decide_eq_false (fun q => kx q.2)) (by unfold markP isMark; rw [if_neg (by rw [decide_eq_false (fun q => kx q.2)]; decide)]) C7
    by_cases kl : languageS p = true
    · rw [if_pos kl]
      exact (take_0l w B a p _ _ ok cell F7 (kind_yes kl (by unfold langP; rw [if_pos kl]) C0)).mono fun e w' ⟨x, y⟩ => .inl ⟨_, rfl, x, y⟩
    rw [if_neg kl]
    exact (take_0n w B a p _ _ ok cell F7 (kind_no (by simpa using kl) (by unfold langP; rw [if_neg kl]) C0) FL).mono fun e w' ⟨b, x, y⟩ => .inr ⟨_, b, rfl, x, y⟩
  rw [if_neg k0]
  by_cases k6 : st.stage = 6
  · rw [if_pos k6]
    rw [k6] at cell
    by_cases ko : okS p = true
    · rw [if_pos ko]
      exact (take_6y w B a p _ _ ok cell (kind_yes ko (by unfold privP; rw [if_pos ko]) C8)).mono fun e w' ⟨x, y⟩ => .inl ⟨_, rfl, x, y⟩
    rw [if_neg ko]
    exact (take_6n w B a p _ _ ok cell (kind_no (by simpa using ko) (by unfold privP; rw [if_neg ko]) C8) FL).mono fun e w' ⟨b, x, y⟩ => .inr ⟨_, b, rfl, x, y⟩
  rw [if_neg k6]
  have g0 : ((st.stage : Int) == 0) = false := by rw [beq_eq_false_iff_ne]; omega
  have g6 : ((st.stage : Int) == 6) = false := by rw [beq_eq_false_iff_ne]; omega
  have FU : ∀ w1, OkR w N B M st w1 → Calls Tryz.prog 88 #[.pointer (some ⟨B, 0, none⟩), .int .i64 (a : Int), .string p] w1 fun e w' => FurQ w1 N B M st (furtherP st a p) e w' := fun w1 h1 => furtherP_own h1.2 hg a p hp hpp (by omega) (by have := hg.s6; omega)
  cases hr : furtherP st a p with
  | ok st' =>
    exact (take_fy w B a p _ _ ok st.stage g0 g6 cell (fun w1 h1 => (FU w1 h1).mono fun e w' hq => by
      rcases hq with ⟨s2, q, x, y⟩ | ⟨x, q, _⟩ | ⟨x, b, q, _⟩
      · rw [hr] at q; cases q; exact ⟨x, h1.step y.1 y.2⟩
      · rw [hr] at q; cases q
      · rw [hr] at q; cases q)).mono fun e w' ⟨x, y⟩ => .inl ⟨_, rfl, x, y⟩
  | error x =>
    by_cases hx : x.1 = 10
    · obtain rfl := further_err hr hx
      exact (take_fn w B a p _ _ ok st.stage g0 g6 cell (fun w1 h1 => (FU w1 h1).mono fun e w' hq => by
        rcases hq with ⟨s2, q, x, y⟩ | ⟨x, q, _, q2, q3⟩ | ⟨x, b, q, q2, _⟩
        · rw [hr] at q; cases q
        · exact ⟨q2, h1.step q3.1 q3.2⟩
        · rw [hr] at q; cases q; cases q2) FL).mono fun e w' ⟨b, x, y⟩ => .inr ⟨_, b, rfl, x, y⟩
    · exact (take_fp w B a p _ _ ok st.stage g0 g6 cell (fun w1 h1 => (FU w1 h1).mono fun e w' hq => by
        rcases hq with ⟨s2, q, x, y⟩ | ⟨x, q, q1, q2, q3⟩ | ⟨x, b, q, q2, q3, q4⟩
        · rw [hr] at q; cases q
        · rw [hr] at q; cases q; exact absurd q1 hx
        · rw [hr] at q; cases q; exact ⟨b, q3, h1.step q4.1.1 q4.1.2, q4.2⟩)).mono fun e w' ⟨b, x, y⟩ => .inr ⟨_, b, rfl, x, y⟩
end
end Go.Proofs.YtpnhjpplfjamkaaGreatDoor
