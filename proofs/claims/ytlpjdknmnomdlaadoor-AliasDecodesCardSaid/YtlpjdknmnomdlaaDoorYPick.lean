/-
  Aliases by numbers: words by a number; lists of words.
-/
import Derived.Test.YtlpjdknmnomdlaaDoorYMath
namespace Go.Proofs.YtlpjdknmnomdlaaDoor
open Go Go.RowKit

/-- A row of texts that lies whole in a block. -/
def RowP (W : World) (v : Value) (l : List ByteArray) : Prop := ∃ g cap, v = .slice (some ⟨g, 0, none⟩) l.length cap ∧ ∀ i x, l[i]? = some x → W.cell? ⟨g, i, none⟩ = some (.string x)
theorem RowP.of_block {W : World} {g : Nat} (l : List ByteArray) {t : TypeId} (n cap : Nat) (hn : n = l.length) (h : W.heap[g]? = some (.cells (l.map Value.string).toArray t (0, 0))) : RowP W (.slice (some ⟨g, 0, none⟩) n cap) l := by
  subst hn
  refine ⟨g, cap, rfl, fun i x hx => ?_⟩
  simp [World.cell?, h, hx]
def pickY (L : Nat) (n : Int) : Nat := (Int.tmod (Int.tmod n L + L) L).toNat
def pickS (l : List ByteArray) (n : Int) : ByteArray := l.getD (pickY l.length n) ByteArray.empty
theorem pickY_facts (L : Nat) (n : Int) (hL : 0 < L) : -(L : Int) < Int.tmod n L ∧ Int.tmod n L < L ∧ Int.tmod (Int.tmod n L + L) L = (pickY L n : Int) ∧ pickY L n < L := by
  have h1 := Int.lt_tmod_of_pos n (show (0 : Int) < L by omega)
  have h2 := Int.tmod_lt_of_pos n (show (0 : Int) < L by omega)
  have h3 : 0 ≤ Int.tmod (Int.tmod n L + L) L := Int.tmod_nonneg _ (by omega)
  have h4 := Int.tmod_lt_of_pos (Int.tmod n L + L) (show (0 : Int) < L by omega)
  refine ⟨h1, h2, ?_, ?_⟩
  · unfold pickY; omega
  · unfold pickY; omega
theorem pickS_mem (l : List ByteArray) (n : Int) (hl : 0 < l.length) : pickS l n ∈ l := by
  have h4 := (pickY_facts l.length n hl).2.2.2
  unfold pickS
  rw [List.getD_eq_getElem?_getD, List.getElem?_eq_getElem h4]
  exact List.getElem_mem _
set_option maxRecDepth 100000 in
set_option maxHeartbeats 1000000 in
theorem pickY_ref (v : Value) (l : List ByteArray) (n : Int) (w : World) (hv : RowP w v l) (h0 : 0 < l.length) (hl : l.length ≤ 100) :
    Calls Tryd.prog 13 #[v, .int .i64 n] w fun e w' => e = .returned (.string (pickS l n)) ∧ w = w' := by
  obtain ⟨g, cap, rfl, hc⟩ := hv
  obtain ⟨h1, h2, h3, h4⟩ := pickY_facts l.length n h0
  obtain ⟨x, hx⟩ : ∃ x, l[pickY l.length n]? = some x := ⟨_, List.getElem?_eq_getElem h4⟩
  have hcell := hc _ x hx
  have HE := Lib.hid (show pickS l n = x by unfold pickS; rw [List.getD_eq_getElem?_getD, hx]; rfl)
  generalize hm : pickY l.length n = m at *
  have hz : ((l.length : Int) == 0) = false := by rw [beq_eq_false_iff_ne]; omega
  have hnz : ¬ (l.length : Int) = 0 := by omega
  generalize hr : Int.tmod n (l.length : Int) = r at *
  have hm0 : (0 : Int) ≤ (m : Int) := by omega
  have hml : (m : Int) < (l.length : Int) := by omega
  clear hc hx hm h0
  go_enter Tryd.func13, Tryd.ntmps13
  go_wp2
  go_ret
  exact ⟨ret_string HE.out.symm, rfl⟩

def toLangsY : List ByteArray := [⟨#[104, 101]⟩, ⟨#[114, 111]⟩, ⟨#[110, 98]⟩, ⟨#[115, 114]⟩, ⟨#[102, 105, 108]⟩, ⟨#[120, 120]⟩, ⟨#[99, 109, 110]⟩, ⟨#[101, 110]⟩]
set_option maxRecDepth 100000 in
theorem toLangs_y (w : World) :
    Calls Tryd.prog 14 #[] w fun e w' => ∃ u, e = .returned u ∧ RowP w' u toLangsY ∧ Below w.heap.size w w' := by
  go_enter Tryd.func14, Tryd.ntmps14
  go_wp2
  go_ret
  exact ⟨_, rfl, RowP.of_block toLangsY _ _ rfl (World.alloc_heap_new w _), (Below.refl _ w).alloc (Nat.le_refl _) _⟩

def langsY : List ByteArray := [⟨#[105, 119]⟩, ⟨#[109, 111]⟩, ⟨#[110, 111]⟩, ⟨#[115, 104]⟩, ⟨#[116, 108]⟩, ⟨#[115, 103, 110]⟩, ⟨#[122, 104]⟩, ⟨#[104, 97, 110, 116]⟩]
set_option maxRecDepth 100000 in
theorem langs_y (w : World) :
    Calls Tryd.prog 15 #[] w fun e w' => ∃ u, e = .returned u ∧ RowP w' u langsY ∧ Below w.heap.size w w' := by
  go_enter Tryd.func15, Tryd.ntmps15
  go_wp2
  go_ret
  exact ⟨_, rfl, RowP.of_block langsY _ _ rfl (World.alloc_heap_new w _), (Below.refl _ w).alloc (Nat.le_refl _) _⟩

def scriptsY : List ByteArray := [⟨#[113, 97, 97, 105]⟩, ⟨#[104, 97, 110, 115]⟩, ⟨#[97, 114, 97, 110]⟩]
set_option maxRecDepth 100000 in
theorem scripts_y (w : World) :
    Calls Tryd.prog 16 #[] w fun e w' => ∃ u, e = .returned u ∧ RowP w' u scriptsY ∧ Below w.heap.size w w' := by
  go_enter Tryd.func16, Tryd.ntmps16
  go_wp2
  go_ret
  exact ⟨_, rfl, RowP.of_block scriptsY _ _ rfl (World.alloc_heap_new w _), (Below.refl _ w).alloc (Nat.le_refl _) _⟩

def toScriptsY : List ByteArray := [⟨#[122, 105, 110, 104]⟩, ⟨#[108, 97, 116, 110]⟩, ⟨#[97, 114, 97, 98]⟩]
set_option maxRecDepth 100000 in
theorem toScripts_y (w : World) :
    Calls Tryd.prog 17 #[] w fun e w' => ∃ u, e = .returned u ∧ RowP w' u toScriptsY ∧ Below w.heap.size w w' := by
  go_enter Tryd.func17, Tryd.ntmps17
  go_wp2
  go_ret
  exact ⟨_, rfl, RowP.of_block toScriptsY _ _ rfl (World.alloc_heap_new w _), (Below.refl _ w).alloc (Nat.le_refl _) _⟩

def regionsY : List ByteArray := [⟨#[100, 100]⟩, ⟨#[115, 117]⟩, ⟨#[98, 117]⟩, ⟨#[56, 52, 48]⟩]
set_option maxRecDepth 100000 in
theorem regions_y (w : World) :
    Calls Tryd.prog 18 #[] w fun e w' => ∃ u, e = .returned u ∧ RowP w' u regionsY ∧ Below w.heap.size w w' := by
  go_enter Tryd.func18, Tryd.ntmps18
  go_wp2
  go_ret
  exact ⟨_, rfl, RowP.of_block regionsY _ _ rfl (World.alloc_heap_new w _), (Below.refl _ w).alloc (Nat.le_refl _) _⟩

def toRegionsY : List ByteArray := [⟨#[100, 101]⟩, ⟨#[114, 117]⟩, ⟨#[109, 109]⟩, ⟨#[117, 115]⟩]
set_option maxRecDepth 100000 in
theorem toRegions_y (w : World) :
    Calls Tryd.prog 19 #[] w fun e w' => ∃ u, e = .returned u ∧ RowP w' u toRegionsY ∧ Below w.heap.size w w' := by
  go_enter Tryd.func19, Tryd.ntmps19
  go_wp2
  go_ret
  exact ⟨_, rfl, RowP.of_block toRegionsY _ _ rfl (World.alloc_heap_new w _), (Below.refl _ w).alloc (Nat.le_refl _) _⟩
end Go.Proofs.YtlpjdknmnomdlaaDoor
