/-
  RenderBehind: the walk of the law.
-/
import Derived.Test.YtggfdmhfcpabdaaQKit
namespace Go.Proofs.Ytggfdmhfcpabdaa
open Go Go.RowKit

theorem conv_one8 (w : World) (c : UInt8) : (convert 47 9 (.slice (some ⟨w.heap.size, 0, none⟩) 1 1)).run Try.prog (w.alloc (.cells #[.int .u8 c.toNat] 5)) = .ok (.string (ofL [c])) (w.alloc (.cells #[.int .u8 c.toNat] 5)) :=
  conv_owned (B := 0) [c] ⟨rfl, .inr ⟨w.heap.size, 1, _, rfl, Nat.zero_le _, World.alloc_heap_new w _, Nat.le_refl _, by decide, rfl, by simp [bcells]⟩⟩

set_option maxRecDepth 100000 in
set_option maxHeartbeats 1600000 in
theorem behind_law (a b : ByteArray) (c0 : Int) (w : World) (hsa : a.size ≤ maxLen) (hsb : b.size ≤ maxLen) (hc0 : (Lit.int .u8 c0).wf = true) :
    Calls Try.prog 8 #[.string a, .string b, .int .u8 c0] w fun e w' => e = .returned (.bool true) ∧ Below w.heap.size w w' := by
  obtain ⟨c, rfl⟩ : ∃ c : UInt8, c0 = (c.toNat : Int) := by
    have h : 0 ≤ c0 ∧ c0 ≤ 255 := by simpa [Lit.wf, IntKind.min, IntKind.max, IntKind.signed, IntKind.bits] using hc0
    refine ⟨UInt8.ofNat c0.toNat, ?_⟩
    rw [UInt8.toNat_ofNat']
    omega
  clear hc0
  obtain ⟨x, htx⟩ : ∃ x, cut8 a = x := ⟨_, rfl⟩
  have hx : x.size ≤ 80 := by rw [← htx]; exact size_cut8 a
  have Sx := told (onwardS w fun w5 => short8_any a w5 hsa) (ret_string htx)
  obtain ⟨y, hty⟩ : ∃ y, cut8 b = y := ⟨_, rfl⟩
  have hy : y.size ≤ 80 := by rw [← hty]; exact size_cut8 b
  have Sy := told (onwardS w fun w5 => short8_any b w5 hsb) (ret_string hty)
  clear htx hty
  have A1 := onward w awake8_any
  have hB := Below.refl w.heap.size w
  by_cases hc : c = 45
  · have hce : ((c.toNat : Int) == 45) = true := (mark_true hc).1
    clear hc hx hy hsa hsb
    go_enter Try.func8, Try.ntmps8
    go_wp2_with (first
      | (go_at_call 9; (with_reducible refine (A1.out _ (by assumption)).mono ?_); rintro e w1 ⟨rfl, hb1⟩)
      | (go_at_call 11; (with_reducible refine (Sx.out _ (by assumption)).mono ?_); rintro e w2 ⟨rfl, hb2⟩)
      | (go_at_call 11; (with_reducible refine (Sy.out _ (by assumption)).mono ?_); rintro e w3 ⟨rfl, hb3⟩))
    go_ret
    exact ⟨rfl, hb3⟩
  · have hce : ((c.toNat : Int) == 45) = false := (mark_false hc).1
    have M1 := case_behind x y c hc
    have M2 := case_one y c hc
    have hcv := fun W => conv_one8 W c
    obtain ⟨o, ho⟩ : ∃ o, ofL [c] = o := ⟨_, rfl⟩
    have ho' : (⟨#[c]⟩ : ByteArray) = o := ho
    have hos : o.size = 1 := by rw [← ho]; rfl
    rw [ho'] at M1 M2
    simp only [ho] at hcv
    obtain ⟨cx, hcx⟩ : ∃ cx, caseS x = cx := ⟨_, rfl⟩
    have hcs : cx.size = x.size := by rw [← hcx, size_caseS]
    obtain ⟨l, hl⟩ : ∃ l, lowS (o ++ ⟨#[45]⟩ ++ y) = l := ⟨_, rfl⟩
    have hls : l.size = 2 + y.size := by rw [← hl, size_lowS, size_glue, hos]
    rw [hl] at M1 M2
    rw [hcx] at M1
    have z1 : (x ++ ⟨#[45]⟩ ++ o ++ ⟨#[45]⟩ ++ y).size = x.size + 3 + y.size := by rw [size_glue, size_glue, hos]
    have z2 : (o ++ ⟨#[45]⟩ ++ y).size = 2 + y.size := by rw [size_glue, hos]
    obtain ⟨t1, ht1⟩ : ∃ t1, x ++ ⟨#[45]⟩ ++ o ++ ⟨#[45]⟩ ++ y = t1 := ⟨_, rfl⟩
    obtain ⟨t2, ht2⟩ : ∃ t2, o ++ ⟨#[45]⟩ ++ y = t2 := ⟨_, rfl⟩
    rw [ht1] at M1 z1
    rw [ht2] at M2 z2 hl
    have C1 := told (onward w fun w5 => case_any t1 w5 (by omega)) (ret_string M1)
    have C2 := told (onward w fun w5 => case_any x w5 (by omega)) (ret_string hcx)
    have C3 := told (onward w fun w5 => case_any t2 w5 (by omega)) (ret_string M2)
    have L1 := told (onward w fun w5 => lower_ref t2 w5 (by omega)) (ret_string hl)
    rw [← ht1] at C1
    rw [← ht2] at C3 L1
    have n1 : ¬ 9223372036854775807 < x.size + 1 := by omega
    have n2 : ¬ 9223372036854775807 < x.size + 1 + 1 := by omega
    have n3 : ¬ 9223372036854775807 < x.size + 1 + 1 + 1 := by omega
    have n4 : ¬ 9223372036854775807 < x.size + 1 + 1 + 1 + y.size := by omega
    have n5 : ¬ 9223372036854775807 < cx.size + 1 := by omega
    have n6 : ¬ 9223372036854775807 < cx.size + 1 + l.size := by omega
    have n7 : ¬ 9223372036854775807 < 1 + 1 + y.size := by omega
    clear hc hx hy hsa hsb M1 M2 ho ho' hcx hl hcs hls z1 z2 ht1 ht2
    go_enter Try.func8, Try.ntmps8
    go_wp2_with (first
      | (go_at_call 9; (with_reducible refine (A1.out _ (by assumption)).mono ?_); rintro e w1 ⟨rfl, hb1⟩)
      | (go_at_call 11; (with_reducible refine (Sx.out _ (by assumption)).mono ?_); rintro e w2 ⟨rfl, hb2⟩)
      | (go_at_call 11; (with_reducible refine (Sy.out _ (by assumption)).mono ?_); rintro e w3 ⟨rfl, hb3⟩; have hb4 := hb3.alloc hb3.size (.cells #[.int .u8 c.toNat] 5))
      | (go_at_call 17; (with_reducible refine (C1.out _ (by assumption)).mono ?_); rintro e w4 ⟨rfl, hb5⟩)
      | (go_at_call 17; (with_reducible refine (C2.out _ (by assumption)).mono ?_); rintro e w5 ⟨rfl, hb6⟩)
      | (go_at_call 17; (with_reducible refine (C3.out _ (by assumption)).mono ?_); rintro e w6 ⟨rfl, hb7⟩)
      | (go_at_call 24; (with_reducible refine (L1.out _ (by assumption)).mono ?_); rintro e w7 ⟨rfl, hb8⟩))
    go_ret
    exact ⟨rfl, by assumption⟩
end Go.Proofs.Ytggfdmhfcpabdaa
