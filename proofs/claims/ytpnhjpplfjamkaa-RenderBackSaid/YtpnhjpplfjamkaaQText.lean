/-
  Package render: Lower, String; the document's Case, String.
-/
import Derived.Test.YtpnhjpplfjamkaaQKit
import Derived.Test.YtpnhjpplfjamkaaKTags
import Derived.Test.YtpnhjpplfjamkaaLSubtags
namespace Go.Proofs.Ytpnhjpplfjamkaa
open Go Go.RowKit

/-- .. and by the project. -/
theorem joinOwn8 {W : World} {base : Nat} {u : Value} {l : List ByteArray} (h : W.ownsRow base 9 1 u l.length (strs l)) (hl : l.length ≤ 1048576) (hz : (joinS l).size ≤ 1048576) :
    Calls Try.prog 39 #[u] W fun e w' => e = .returned (.string (joinS l)) ∧ Below W.heap.size W w' := by
  rcases owned_cases h with ⟨h1, h2⟩ | ⟨g, c, h1⟩
  · rw [h1, List.eq_nil_of_length_eq_zero h2]
    exact (join_none W).mono fun e w' ⟨p, q⟩ => ⟨p, q ▸ Below.refl _ _⟩
  · rw [h1] at h ⊢
    exact join_row W rfl (own_cap h) hl (h.lt g rfl).2 (own_cell h) hz
theorem tiny_join {T : TagM} (h : TagTiny T) : (joinS (subtagsT T)).size ≤ 20200 := by
  have h1 := joinS_size 100 (subtagsT T) (tiny_sizes h)
  have h2 := tiny_len h
  omega

set_option maxRecDepth 100000 in
theorem lowr_own (v : Value) (T : TagM) (w : World) (hT : TagIs w v T) (ht : TagTiny T) :
    Calls Try.prog 11 #[v] w fun e w' => e = .returned (.string (joinS (subtagsT T))) ∧ Below w.heap.size w w' := by
  have SR := Lib.hid (fun w5 (hb : Below w.heap.size w w5) => subtags_own v T w5 (hT.below hb) ht.fits)
  have HLN := Lib.hid (tiny_len ht)
  have HSZ := Lib.hid (tiny_join ht)
  obtain ⟨ve, vv, vx, vp, rfl, ⟨a1, c1, rfl, _⟩, ⟨a2, c2, rfl, _⟩, ⟨a3, c3, rfl, _⟩, ⟨a4, c4, rfl, _⟩⟩ := hT
  clear ht
  go_enter Try.func11, Try.ntmps11
  go_wp2_with (first
    | (go_at_call 40; (with_reducible refine (SR.out _ ((Below.refl _ w).alloc (Nat.le_refl _) _)).mono ?_); rintro e w6 ⟨u, rfl, ho, hb6⟩; have JR := Lib.hid (joinOwn8 ho (by have := HLN.out; omega) (by have := HSZ.out; omega)); clear ho)
    | (go_at_call 39; (with_reducible refine JR.out.mono ?_); rintro e w7 ⟨rfl, hb7⟩))
  go_ret
  have h6 := ((Below.refl w.heap.size w).alloc (Nat.le_refl _) _).trans (hb6.mono (by simp))
  exact ⟨rfl, h6.trans (hb7.mono h6.size)⟩
set_option maxRecDepth 100000 in
theorem stringr_own (v : Value) (T : TagM) (w : World) (hT : TagIs w v T) (ht : TagTiny T) :
    Calls Try.prog 7 #[v] w fun e w' => e = .returned (.string (caseS (joinS (subtagsT T)))) ∧ Below w.heap.size w w' := by
  have LR := Lib.hid (fun w5 (hb : Below w.heap.size w w5) => lowr_own v T w5 (hT.below hb) ht)
  have CR := Lib.hid (fun w5 => case_any (joinS (subtagsT T)) w5 (by have := tiny_join ht; omega))
  obtain ⟨ve, vv, vx, vp, rfl, ⟨a1, c1, rfl, _⟩, ⟨a2, c2, rfl, _⟩, ⟨a3, c3, rfl, _⟩, ⟨a4, c4, rfl, _⟩⟩ := hT
  clear ht
  generalize joinS (subtagsT T) = t at *
  go_enter Try.func7, Try.ntmps7
  go_wp2_with (first
    | (go_at_call 11; (with_reducible refine (LR.out _ ((Below.refl _ w).alloc (Nat.le_refl _) _)).mono ?_); rintro e w6 ⟨rfl, hb6⟩)
    | (go_at_call 12; (with_reducible refine (CR.out _).mono ?_); rintro e w7 ⟨rfl, hb7⟩))
  go_ret
  have h6 := ((Below.refl w.heap.size w).alloc (Nat.le_refl _) _).trans (hb6.mono (by simp))
  exact ⟨rfl, h6.trans (hb7.mono h6.size)⟩

end Go.Proofs.Ytpnhjpplfjamkaa
