/-
  Package parse: Parse, Valid. Package parse: what is wrong, asked for its kind and place; the statements' own examples. Package parse: cases change nothing (the mathematics); Valid.
-/
import Derived.Test.YtpnhjpplfjamkaaPReading
/-! Package parse: Parse, Valid. -/
namespace Go.Proofs.Ytpnhjpplfjamkaa
open Go Go.RowKit

end Go.Proofs.Ytpnhjpplfjamkaa

/-! Package parse: what is wrong, asked for its kind and place; the statements' own examples. -/
namespace Go.Proofs.Ytpnhjpplfjamkaa
open Go Go.RowKit

/-! The examples. -/
end Go.Proofs.Ytpnhjpplfjamkaa

/-! Package parse: cases change nothing (the mathematics); Valid. -/
namespace Go.Proofs.Ytpnhjpplfjamkaa
open Go Go.RowKit

theorem spl_low (l : List UInt8) : spl (l.map lowB) = (spl l).map (·.map lowB) := by
  induction l with
  | nil => rfl
  | cons c r ih =>
    rw [List.map_cons]
    obtain ⟨h, t, e⟩ := spl_cons r
    by_cases hc : c = 45
    · simp [spl, hc, ih, show lowB 45 = 45 from rfl]
    · have h1 : ¬ lowB c = 45 := fun h => hc (lowB_dash c h)
      simp [spl, hc, h1, ih, e]
theorem placed_low (n : Nat) (ps : List (List UInt8)) : placed n (ps.map (·.map lowB)) = (placed n ps).map fun x => (x.1, lowS x.2) := by
  induction ps generalizing n with
  | nil => rfl
  | cons p r ih => simp [placed, ih, lowS, bs_ofL]
theorem pieces_low (s : ByteArray) : pieces (lowS s) = (pieces s).map fun x => (x.1, lowS x.2) := by
  unfold pieces
  rw [show bs (lowS s) = (bs s).map lowB by unfold lowS; rw [bs_ofL], spl_low, placed_low]
theorem runP_low (l : List (Nat × ByteArray)) (st : PSt) : runP (l.map fun x => (x.1, lowS x.2)) st = runP l st := by
  induction l generalizing st with
  | nil => rfl
  | cons x r ih =>
    simp only [List.map_cons, runP, low_lowS, size_lowS]
    cases takeP st x.1 (lowS x.2) with
    | error e => rfl
    | ok s2 => exact ih _
theorem findV_low (s : ByteArray) : findV (lowS s) = findV s := by
  cases h : findV s with
  | none =>
    cases h2 : findV (lowS s) with
    | none => rfl
    | some k =>
      have := (findV_iff (lowS s) k (findV_lt h2)).1 h2
      rw [low_lowS] at this
      exact absurd this (findV_none s h k (findV_lt h2))
  | some k =>
    have := (findV_iff s k (findV_lt h)).1 h
    exact (findV_iff (lowS s) k (findV_lt h)).2 (by rw [low_lowS]; exact this)
theorem readS_low (s : ByteArray) : readS (lowS s) = readS s := by
  unfold readS
  rw [pieces_low, runP_low, size_lowS]
/-- P7.1: cases change nothing. -/
theorem parseS_low (s : ByteArray) : parseS (lowS s) = parseS s := by
  unfold parseS
  rw [findV_low, readS_low, low_lowS]
theorem parseS_same {s t : ByteArray} (h : lowS s = lowS t) : parseS s = parseS t := by rw [← parseS_low s, h, parseS_low]

end Go.Proofs.Ytpnhjpplfjamkaa
