/-
  ParseBack: the walk of the law.
-/
import Derived.Test.YtpnhjpplfjamkaaPSame
import Derived.Test.YtpnhjpplfjamkaaPParsed
import Derived.Test.YtpnhjpplfjamkaaPParsedRight
import Derived.Test.YtpnhjpplfjamkaaKTags
namespace Go.Proofs.Ytpnhjpplfjamkaa
open Go Go.RowKit

theorem parse_wide2 (s : ByteArray) (hs : s.size ≤ 40000) : TagWide (parseS s).1 := by
  have hno : TagWide pNo := by unfold TagWide pNo; simp
  unfold parseS
  split
  · unfold TagWide pNo
    simp [size_lowS]
    omega
  · unfold readS
    have hl : (pieces s).length ≤ 40001 := by rw [pieces_length]; have := splS_le s; omega
    cases hr : runP (pieces s) pSt0 with
    | mk st o =>
      cases o with
      | some e => exact hno
      | none =>
        have h := (runP_good (pieces s) pSt0 0 st PInv.start (fun _ => rfl) (by decide) hr).1
        have h1 := h.len
        have hw : TagWide st.T := ⟨by omega, by omega, by omega, fun x hx => by have := h.subs x hx; omega, by omega, by rw [h.grand]; exact Nat.zero_le _⟩
        unfold finP
        dsimp only
        split
        · exact hno
        · exact hw

theorem text_size2 {T : TagM} (h : TagTiny T) : (joinS (subtagsT T)).size ≤ 30000 := by
  have h1 := joinS_size 100 (subtagsT T) (tiny_sizes h)
  have h2 := tiny_len h
  omega
theorem sameT_eq {A B : TagM} (h : sameT A B = true) : A = B := by
  unfold sameT at h
  simp only [Bool.and_eq_true, decide_eq_true_eq] at h
  obtain ⟨⟨h1, h2, h3⟩, ⟨h4, h5, h6, h7⟩, h8⟩ := h
  obtain ⟨la, ea, sa, ra, va, xa, pa, ga⟩ := A
  obtain ⟨lb, eb, sb, rb, vb, xb, pb, gb⟩ := B
  simp only at *
  subst h1 h2 h3 h4 h5 h6 h7 h8
  rfl
theorem right_ref2 (v : Value) (T : TagM) (w : World) (hT : TagIs w v T) (hF : TagTiny T) :
    Calls Try.prog 6 #[v] w fun e w' => e = .returned (.bool (rightT T)) ∧ Below w.heap.size w w' :=
  right_ref v T w hT hF.fits (by have := tiny_len hF; omega) (fun x hx => by
    rcases List.mem_append.1 hx with h | h
    · have := tiny_sizes hF x h; omega
    · simp only [List.mem_cons, List.not_mem_nil, or_false] at h
      have h1 := hF.sl; have h2 := hF.ss; have h3 := hF.sr
      rcases h with rfl | rfl | rfl <;> omega) (fun x hx => by have := hF.sp x hx; omega) (fun x hx => by have := hF.sv x hx; omega) (fun x hx => ⟨by have := (hF.sx x hx).1; omega, fun y hy => by have := (hF.sx x hx).2.2 y hy; omega⟩) (fun x hx => by have := hF.se x hx; omega)
end Go.Proofs.Ytpnhjpplfjamkaa
