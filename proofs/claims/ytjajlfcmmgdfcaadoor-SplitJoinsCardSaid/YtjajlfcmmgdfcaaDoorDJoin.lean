/-
  Package split: Join (strings.Join by the shelf).
-/
import Derived.Test.YtjajlfcmmgdfcaaDoorShelf
import Derived.Test.YtjajlfcmmgdfcaaDoorDKit
namespace Go.Proofs.YtjajlfcmmgdfcaaDoor
open Go Go.RowKit

/-- Texts joined. -/
def joinS (l : List ByteArray) : ByteArray := ofL (joinP (l.map bs))

theorem join_none (w : World) : Calls Tryd.prog 23 #[.slice none 0 0] w fun e w' => e = .returned (.string ⟨#[]⟩) ∧ w = w' := by
  have H := Lib.hid (fun w5 => Go.Proofs.Tryd.strings_Join_none none 0 ⟨#[45]⟩ w5)
  go_enter Tryd.func23, Tryd.ntmps23
  go_wp2_with (go_at_call 36; refine (H.out _).mono ?_; rintro e w' ⟨rfl, rfl⟩)
  go_ret
  exact ⟨rfl, rfl⟩
theorem join_row {g n cap : Nat} {l : List ByteArray} (w : World) (hn : l.length = n) (hcap : n ≤ cap) (hb : n ≤ 1048576) (hg : g < w.heap.size) (hc : ∀ i p, l[i]? = some p → w.cell? ⟨g, i, none⟩ = some (.string p)) (hlen : (joinS l).size ≤ 1048576) :
    Calls Tryd.prog 23 #[.slice (some ⟨g, 0, none⟩) n cap] w fun e w' => e = .returned (.string (joinS l)) ∧ Below w.heap.size w w' := by
  subst hn
  have H := Lib.hid (Go.Proofs.Tryd.strings_Join g 0 cap l ⟨#[45]⟩ w (fun j x hx => by rw [Nat.zero_add]; exact hc j x hx) hg (by omega) hcap (by unfold joinS at hlen; rw [size_ofL] at hlen; exact Nat.le_trans hlen (by omega)))
  have HE := Lib.hid (show (⟨(Lib.join (l.map (·.data.toList)) (⟨#[45]⟩ : ByteArray).data.toList).toArray⟩ : ByteArray) = joinS l from rfl)
  clear hc hlen
  go_enter Tryd.func23, Tryd.ntmps23
  go_wp2_with (go_at_call 36; refine H.out.mono ?_; rintro e w' ⟨rfl, hb⟩)
  go_ret
  exact ⟨ret_string HE.out, hb⟩
end Go.Proofs.YtjajlfcmmgdfcaaDoor
