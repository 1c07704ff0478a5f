/-
  Package split: Each and its iterator.
-/
import Derived.Test.YtajdfckppnedjaaDTrim
import Derived.Test.YtajdfckppnedjaaDSeq
import Derived.OwnWalkIn
import Derived.OneCell
import Derived.TacticsInMore
import Derived.LoopNIn
import Derived.LoopIn
namespace Go.Proofs.Ytajdfckppnedjaa
open Go Go.RowKit

attribute [local go_sem] Oper.semAt_some

theorem drop_extract (s : ByteArray) (a : Nat) : s.extract a s.size = ofL ((bs s).drop a) := by
  apply ofL_ext
  rw [bs_ofL, bs_extract, List.take_of_length_le]
  rw [List.length_drop, size_bs]
  exact Nat.le_refl _
/-- One round of Each: the last piece, or one piece more. -/
theorem each_step (s : ByteArray) (a : Nat) (ha : a ≤ s.size) :
    (Lib.indexByte (bs (s.extract a s.size)) 45 = -1 ∧ placed a (spl ((bs s).drop a)) = [(a, s.extract a s.size)]) ∨
    ∃ m : Nat, Lib.indexByte (bs (s.extract a s.size)) 45 = (m : Int) ∧ a + m + 1 ≤ s.size ∧ placed a (spl ((bs s).drop a)) = (a, s.extract a (a + m)) :: placed (a + m + 1) (spl ((bs s).drop (a + m + 1))) := by
  rw [drop_extract, bs_ofL]
  rcases idx_cases ((bs s).drop a) with ⟨h1, h2⟩ | ⟨p, r, h1, h2, h3⟩
  · refine .inl ⟨h1, ?_⟩
    rw [spl_plain h2]; rfl
  · refine .inr ⟨p.length, h1, ?_, ?_⟩
    · have := congrArg List.length h2
      rw [List.length_drop, size_bs] at this
      simp at this; omega
    · have hr : (bs s).drop (a + p.length + 1) = r := by
        have e := congrArg (List.drop (p.length + 1)) h2
        rw [List.drop_drop, ← Nat.add_assoc] at e
        rw [e, show p ++ 45 :: r = (p ++ [45]) ++ r by simp, List.drop_left' (by simp)]
      have hp : s.extract a (a + p.length) = ofL p := by
        apply ofL_ext
        rw [bs_ofL, bs_extract, h2, show a + p.length - a = p.length by omega, List.take_left]
      rw [hr, hp]
      conv => lhs; rw [h2, spl_app, spl_plain h3]
      rfl

theorem slice_mid (s : ByteArray) (a m : Nat) (h : a + m ≤ s.size) (w : World) :
    (Instr.slice 9 (.string s) (some (.int .i64 (a : Int))) (some (.int .i64 ((a : Int) + (m : Int)))) none).run Try.prog w = .ok (.string (s.extract a (a + m))) w := by
  rw [run_slice_string w 9 s .i64 .i64 (a : Int) ((a : Int) + (m : Int)) Try.underlying9 (by omega) (by omega) (by omega), show ((a : Int) + (m : Int)).toNat = a + m by omega, Int.toNat_natCast]

end Go.Proofs.Ytajdfckppnedjaa
