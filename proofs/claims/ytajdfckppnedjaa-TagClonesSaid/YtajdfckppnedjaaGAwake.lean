/-
  Layer 6's statements: awake.
-/
import Derived.Test.YtajdfckppnedjaaGKinds
import Derived.Test.YtajdfckppnedjaaFShort
namespace Go.Proofs.Ytajdfckppnedjaa
open Go Go.RowKit

theorem ex_var1 : variantS ⟨#[49, 57, 57, 52]⟩ = true := by decide +kernel
theorem ex_var2 : variantS ⟨#[97, 114, 101, 118]⟩ = false := by decide +kernel
theorem ex_reg : regionS ⟨#[52, 49, 57]⟩ = true := by decide +kernel
theorem awake6_any (w : World) :
    Calls Try.prog 4 #[] w fun e w' => e = .returned (.bool true) ∧ Below w.heap.size w w' := by
  have V1 := onward w (fun w5 => variant_own ⟨#[49, 57, 57, 52]⟩ w5 (by decide))
  have V2 := onward w (fun w5 => variant_own ⟨#[97, 114, 101, 118]⟩ w5 (by decide))
  have R := onward w (fun w5 => region_own ⟨#[52, 49, 57]⟩ w5 (by decide))
  rw [ex_var1] at V1
  rw [ex_var2] at V2
  rw [ex_reg] at R
  have hB0 : Below w.heap.size w w := Below.refl _ _
  go_enter Try.func4, Try.ntmps4
  go_wp2_with (first | (go_at_call 8; (first | (with_reducible refine (V1.out _ (by assumption)).mono ?_) | (with_reducible refine (V2.out _ (by assumption)).mono ?_)); rintro e w1 ⟨rfl, hb1⟩) | (go_at_call 9; (with_reducible refine (R.out _ (by assumption)).mono ?_); rintro e w1 ⟨rfl, hb1⟩))
  go_ret
  exact ⟨rfl, by assumption⟩
end Go.Proofs.Ytajdfckppnedjaa
