/-
  Tags by numbers: words by a number.
-/
import Derived.Test.YtpnhjpplfjamkaaGreatDoorHExt
namespace Go.Proofs.YtpnhjpplfjamkaaGreatDoor
open Go Go.RowKit

/-- A row that lies whole in a block of its own. -/
theorem Row.of_block {W : World} {g : Nat} (l : List ByteArray) {t : TypeId} (n cap : Nat) (hn : n = l.length) (h : W.heap[g]? = some (.cells (strs l).toArray t (0, 0))) : Row W (.slice (some ⟨g, 0, none⟩) n cap) l := by
  subst hn
  refine ⟨some ⟨g, 0, none⟩, cap, rfl, fun i x hx => ⟨g, rfl, ?_⟩⟩
  simp [World.cell?, h, strs, hx]
/-- One of words by a number. -/
def pickI (L : Nat) (n : Int) : Nat := (Int.tmod (Int.tmod n L + L) L).toNat
def pickT (l : List ByteArray) (n : Int) : ByteArray := l.getD (pickI l.length n) ByteArray.empty
theorem pick_facts (L : Nat) (n : Int) (hL : 0 < L) : -(L : Int) < Int.tmod n L ∧ Int.tmod n L < L ∧ Int.tmod (Int.tmod n L + L) L = (pickI L n : Int) ∧ pickI L n < L := by
  have h1 := Int.lt_tmod_of_pos n (show (0 : Int) < L by omega)
  have h2 := Int.tmod_lt_of_pos n (show (0 : Int) < L by omega)
  have h3 : 0 ≤ Int.tmod (Int.tmod n L + L) L := Int.tmod_nonneg _ (by omega)
  have h4 := Int.tmod_lt_of_pos (Int.tmod n L + L) (show (0 : Int) < L by omega)
  refine ⟨h1, h2, ?_, ?_⟩
  · unfold pickI; omega
  · unfold pickI; omega
set_option maxRecDepth 100000 in
set_option maxHeartbeats 1000000 in
theorem pick_ref (v : Value) (l : List ByteArray) (n : Int) (w : World) (hv : Row w v l) (h0 : 0 < l.length) (hl : l.length ≤ 100) :
    Calls Tryz.prog 21 #[v, .int .i64 n] w fun e w' => e = .returned (.string (pickT l n)) ∧ w = w' := by
  obtain ⟨ao, cap, rfl, hc⟩ := hv
  obtain ⟨h1, h2, h3, h4⟩ := pick_facts l.length n h0
  obtain ⟨x, hx⟩ : ∃ x, l[pickI l.length n]? = some x := ⟨_, List.getElem?_eq_getElem h4⟩
  obtain ⟨g, rfl, hcell⟩ := hc _ x hx
  have HE := Lib.hid (show pickT l n = x by unfold pickT; rw [List.getD_eq_getElem?_getD, hx]; rfl)
  generalize hm : pickI l.length n = m at *
  have hz : ((l.length : Int) == 0) = false := by rw [beq_eq_false_iff_ne]; omega
  have hnz : ¬ (l.length : Int) = 0 := by omega
  generalize hr : Int.tmod n (l.length : Int) = r at *
  have hm0 : (0 : Int) ≤ (m : Int) := by omega
  have hml : (m : Int) < (l.length : Int) := by omega
  clear hc hx hm h0
  go_enter Tryz.func21, Tryz.ntmps21
  go_wp2
  go_ret
  exact ⟨ret_string HE.out.symm, rfl⟩

def langsL : List ByteArray := [⟨#[101, 110]⟩, ⟨#[122, 104]⟩, ⟨#[115, 114]⟩, ⟨#[117, 110, 100]⟩, ⟨#[105, 119]⟩, ⟨#[110, 111]⟩, ⟨#[115, 103, 110]⟩, ⟨#[109, 111]⟩, ⟨#[104, 97, 110, 116]⟩, ⟨#[97, 98, 99, 100, 101, 102, 103, 104]⟩, ⟨#[100, 101]⟩, ⟨#[114, 111, 111, 116]⟩]
set_option maxRecDepth 100000 in
theorem langs_ref (w : World) :
    Calls Tryz.prog 22 #[] w fun e w' => ∃ u, e = .returned u ∧ Row w' u langsL ∧ Below w.heap.size w w' := by
  go_enter Tryz.func22, Tryz.ntmps22
  go_wp2
  go_ret
  exact ⟨_, rfl, Row.of_block langsL _ _ rfl (World.alloc_heap_new w _), (Below.refl _ w).alloc (Nat.le_refl _) _⟩

def scriptsL : List ByteArray := [⟨#[]⟩, ⟨#[]⟩, ⟨#[108, 97, 116, 110]⟩, ⟨#[99, 121, 114, 108]⟩, ⟨#[104, 97, 110, 115]⟩, ⟨#[113, 97, 97, 105]⟩, ⟨#[104, 97, 110, 116]⟩]
set_option maxRecDepth 100000 in
theorem scripts_ref (w : World) :
    Calls Tryz.prog 23 #[] w fun e w' => ∃ u, e = .returned u ∧ Row w' u scriptsL ∧ Below w.heap.size w w' := by
  go_enter Tryz.func23, Tryz.ntmps23
  go_wp2
  go_ret
  exact ⟨_, rfl, Row.of_block scriptsL _ _ rfl (World.alloc_heap_new w _), (Below.refl _ w).alloc (Nat.le_refl _) _⟩

def regionsL : List ByteArray := [⟨#[]⟩, ⟨#[]⟩, ⟨#[117, 115]⟩, ⟨#[103, 98]⟩, ⟨#[52, 49, 57]⟩, ⟨#[100, 100]⟩, ⟨#[99, 110]⟩, ⟨#[98, 114]⟩, ⟨#[115, 117]⟩]
set_option maxRecDepth 100000 in
theorem regions_ref (w : World) :
    Calls Tryz.prog 24 #[] w fun e w' => ∃ u, e = .returned u ∧ Row w' u regionsL ∧ Below w.heap.size w w' := by
  go_enter Tryz.func24, Tryz.ntmps24
  go_wp2
  go_ret
  exact ⟨_, rfl, Row.of_block regionsL _ _ rfl (World.alloc_heap_new w _), (Below.refl _ w).alloc (Nat.le_refl _) _⟩

def variantsL : List ByteArray := [⟨#[49, 57, 57, 52]⟩, ⟨#[104, 101, 112, 108, 111, 99]⟩, ⟨#[102, 111, 110, 105, 112, 97]⟩, ⟨#[97, 114, 101, 118, 101, 108, 97]⟩, ⟨#[49, 97, 50, 98]⟩, ⟨#[115, 99, 111, 117, 115, 101]⟩]
set_option maxRecDepth 100000 in
theorem variants_ref (w : World) :
    Calls Tryz.prog 25 #[] w fun e w' => ∃ u, e = .returned u ∧ Row w' u variantsL ∧ Below w.heap.size w w' := by
  go_enter Tryz.func25, Tryz.ntmps25
  go_wp2
  go_ret
  exact ⟨_, rfl, Row.of_block variantsL _ _ rfl (World.alloc_heap_new w _), (Below.refl _ w).alloc (Nat.le_refl _) _⟩

def wordsL : List ByteArray := [⟨#[99, 97]⟩, ⟨#[98, 117, 100, 100, 104, 105, 115, 116]⟩, ⟨#[99, 111]⟩, ⟨#[116, 114, 117, 101]⟩, ⟨#[107, 110]⟩, ⟨#[112, 104, 111, 110, 101, 98, 107]⟩, ⟨#[109, 48]⟩, ⟨#[101, 110]⟩, ⟨#[97, 98, 49]⟩, ⟨#[105, 115, 108, 97, 109, 105, 99, 99]⟩, ⟨#[104, 48]⟩]
set_option maxRecDepth 100000 in
theorem words_ref (w : World) :
    Calls Tryz.prog 26 #[] w fun e w' => ∃ u, e = .returned u ∧ Row w' u wordsL ∧ Below w.heap.size w w' := by
  go_enter Tryz.func26, Tryz.ntmps26
  go_wp2
  go_ret
  exact ⟨_, rfl, Row.of_block wordsL _ _ rfl (World.alloc_heap_new w _), (Below.refl _ w).alloc (Nat.le_refl _) _⟩
end Go.Proofs.YtpnhjpplfjamkaaGreatDoor
