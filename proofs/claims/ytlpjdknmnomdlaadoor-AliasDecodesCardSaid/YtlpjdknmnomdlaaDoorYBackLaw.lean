/-
  AliasBack: the walk of the law.
-/
import Derived.Test.YtlpjdknmnomdlaaDoorYKit
import Derived.Test.YtlpjdknmnomdlaaDoorYRowR
import Derived.Deep.CutRange
namespace Go.Proofs.YtlpjdknmnomdlaaDoor
open Go Go.RowKit

theorem okA_empty : okA ⟨#[]⟩ = false := by
  rw [okA_eq]; unfold okR; rw [decide_eq_false (by decide)]; rfl
theorem back_of (a : Al) : okA (encS a) = rightA a ∧ (rightA a = true → decV (encS a) = a) ∧ (encS a).size ≤ 1048576 := by
  cases h : rightA a with
  | true =>
    obtain ⟨h1, h2⟩ := dec_right h
    have e : encS a = rowB a := by unfold encS; rw [h]; rfl
    rw [e]
    exact ⟨h2, fun _ => by unfold decV; rw [if_pos h2, h1], by rw [size_rowB]; decide⟩
  | false =>
    have e : encS a = ⟨#[]⟩ := by unfold encS; rw [h]; rfl
    rw [e]
    exact ⟨okA_empty, fun h => Bool.noConfusion h, by decide⟩
theorem zero_wrong : rightA zeroA = false := by decide
theorem dec_facts (y : ByteArray) : AlS (decV y) ∧ rightA (decV y) = okA y ∧ (okA y = true → encS (decV y) = y) := by
  cases h : okA y with
  | true =>
    have e : decV y = unA y := by unfold decV; rw [h]; rfl
    have h' := h
    unfold okA at h'
    rw [Bool.and_eq_true, decide_eq_true_iff] at h'
    rw [e]
    exact ⟨unA_small y, h'.1, fun _ => by unfold encS; rw [h'.1, if_pos rfl, h'.2]⟩
  | false =>
    have e : decV y = zeroA := by unfold decV; rw [h]; rfl
    rw [e]
    exact ⟨⟨by decide, by decide, by decide, by decide, by decide, by decide⟩, zero_wrong, fun h => Bool.noConfusion h⟩
theorem conv_oneB (z : Int) (W : World) : ∃ cc : ByteArray, cc.size = 1 ∧ ∀ w2 : World, w2.cell? ⟨W.heap.size, 0, none⟩ = some (.int .u8 (z % 256)) → (convert 32 9 (.slice (some ⟨W.heap.size, 0, none⟩) 1 1)).run Tryd.prog w2 = .ok (.string cc) w2 := by
  have hz : ((UInt8.ofNat (z % 256).toNat).toNat : Int) = z % 256 := by
    rw [UInt8.toNat_ofNat', Nat.mod_eq_of_lt (by omega)]; omega
  exact ⟨⟨[UInt8.ofNat (z % 256).toNat].toArray⟩, rfl, fun w2 h => run_convert_bytes_back (P := Tryd.prog) w2 32 9 5 ⟨W.heap.size, 0, none⟩ 1 [UInt8.ofNat (z % 256).toNat] Tryd.underlying32 Tryd.underlying5 Tryd.underlying9 (fun j hj => by
    obtain rfl : j = 0 := by simpa using hj
    rw [Addr.add_lit]
    show w2.cell? ⟨W.heap.size, 0, none⟩ = some (.int .u8 ((UInt8.ofNat (z % 256).toNat).toNat : Int))
    rw [h, hz])⟩
theorem cells2Y {W : World} {B : Nat} {a b : Value} {t : TypeId} (h : W.heap[B]? = some (.cells #[a, b] t (0, 0))) :
    W.cell? ⟨B, 0, none⟩ = some a ∧ W.cell? ⟨B, 1, none⟩ = some b := by
  simp [World.cell?, h]
theorem cell_newB (W : World) (v : Value) (t : TypeId) : (W.alloc (.cells #[v] t)).cell? ⟨W.heap.size, 0, none⟩ = some v := cellAtY (World.alloc_heap_new W _) 0 v rfl

end Go.Proofs.YtlpjdknmnomdlaaDoor
