/-
  Package split: Join (strings.Join by the shelf).
-/
import Derived.Test.YtpnhjpplfjamkaaShelf
import Derived.Test.YtpnhjpplfjamkaaPieceR
namespace Go.Proofs.Ytpnhjpplfjamkaa
open Go Go.RowKit

set_option maxRecDepth 100000 in
theorem join_none (w : World) : Calls Try.prog 39 #[.slice none 0 0] w fun e w' => e = .returned (.string ⟨#[]⟩) ∧ w = w' := by
  have H := Lib.hid (fun w5 => Go.Proofs.Try.strings_Join_none none 0 ⟨#[45]⟩ w5)
  go_enter Try.func39, Try.ntmps39
  go_wp2_with (go_at_call 51; refine (H.out _).mono ?_; rintro e w' ⟨rfl, rfl⟩)
  go_ret
  exact ⟨rfl, rfl⟩
set_option maxRecDepth 100000 in
theorem join_row {g n cap : Nat} {l : List ByteArray} (w : World) (hn : l.length = n) (hcap : n ≤ cap) (hb : n ≤ 1048576) (hg : g < w.heap.size) (hc : ∀ i p, l[i]? = some p → w.cell? ⟨g, i, none⟩ = some (.string p)) (hlen : (joinS l).size ≤ 1048576) :
    Calls Try.prog 39 #[.slice (some ⟨g, 0, none⟩) n cap] w fun e w' => e = .returned (.string (joinS l)) ∧ Below w.heap.size w w' := by
  subst hn
  have H := Lib.hid (Go.Proofs.Try.strings_Join g 0 cap l ⟨#[45]⟩ w (fun j x hx => by rw [Nat.zero_add]; exact hc j x hx) hg (by omega) hcap (by unfold joinS at hlen; rw [size_ofL] at hlen; exact Nat.le_trans hlen (by omega)))
  have HE := Lib.hid (show (⟨(Lib.join (l.map (·.data.toList)) (⟨#[45]⟩ : ByteArray).data.toList).toArray⟩ : ByteArray) = joinS l from rfl)
  clear hc hlen
  go_enter Try.func39, Try.ntmps39
  go_wp2_with (go_at_call 51; refine H.out.mono ?_; rintro e w' ⟨rfl, hb⟩)
  go_ret
  exact ⟨ret_string HE.out, hb⟩
end Go.Proofs.Ytpnhjpplfjamkaa
