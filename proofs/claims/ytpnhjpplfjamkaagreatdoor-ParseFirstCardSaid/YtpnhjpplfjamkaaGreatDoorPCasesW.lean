/-
  Package parse: the statement of cases, of one text.
-/
import Derived.Test.YtpnhjpplfjamkaaGreatDoorPSame
import Derived.Test.YtpnhjpplfjamkaaGreatDoorECasesLaw
namespace Go.Proofs.YtpnhjpplfjamkaaGreatDoor
open Go Go.RowKit

theorem parse_wide (s : ByteArray) (hs : s.size ≤ 40000) : TagWide (parseS s).1 := by
  have hno : TagWide pNo := by unfold TagWide pNo; simp
  unfold parseS
  split
  · unfold TagWide pNo
    simp [size_lowS]
    omega
  · unfold readS
    have hl : (pieces s).length ≤ 40001 := by rw [pieces_length]; have := splS_le s; omega
    cases hr : runP (pieces s) pSt0 with
    | mk st o =>
      cases o with
      | some e => exact hno
      | none =>
        have h := (runP_good (pieces s) pSt0 0 st PInv.start (fun _ => rfl) (by decide) hr).1
        have h1 := h.len
        have hw : TagWide st.T := ⟨by omega, by omega, by omega, fun x hx => by have := h.subs x hx; omega, by omega, by rw [h.grand]; exact Nat.zero_le _⟩
        unfold finP
        dsimp only
        split
        · exact hno
        · exact hw

end Go.Proofs.YtpnhjpplfjamkaaGreatDoor
