/-
  Texts written into a clone's rows: what stays; Join of a row.
-/
import Derived.Test.YtajdfckppnedjaaKTags
import Derived.Test.YtajdfckppnedjaaMClone
import Derived.Test.YtajdfckppnedjaaDRef2
namespace Go.Proofs.Ytajdfckppnedjaa
open Go Go.RowKit

/-- Texts stay texts; all else stays. -/
structure StrKeep (W W' : World) : Prop where
  str : ∀ b o s, W.cell? ⟨b, o, none⟩ = some (.string s) → ∃ s', W'.cell? ⟨b, o, none⟩ = some (.string s')
  oth : ∀ b o v, W.cell? ⟨b, o, none⟩ = some v → (∀ s, v ≠ .string s) → W'.cell? ⟨b, o, none⟩ = some v
  frz : ∀ b o, W'.frozen? ⟨b, o, none⟩ = W.frozen? ⟨b, o, none⟩
theorem StrKeep.refl (W : World) : StrKeep W W := ⟨fun _ _ s h => ⟨s, h⟩, fun _ _ _ h _ => h, fun _ _ => rfl⟩
theorem StrKeep.store {W W' : World} (h : StrKeep W W') {g i : Nat} {s0 : ByteArray} (x : ByteArray) (hs : W.cell? ⟨g, i, none⟩ = some (.string s0)) : StrKeep W (W'.setCell ⟨g, i, none⟩ (.string x)) := by
  obtain ⟨s1, h1⟩ := h.str g i s0 hs
  refine ⟨fun b o s hb => ?_, fun b o v hb hv => ?_, fun b o => by rw [World.frozen?_setCell]; exact h.frz b o⟩
  · by_cases e : (⟨g, i, none⟩ : Addr) = ⟨b, o, none⟩
    · rw [← e]; exact ⟨x, World.cell?_setCell_same _ _ _ h1⟩
    · rw [World.cell?_setCell_other _ _ _ _ e]; exact h.str b o s hb
  · have e : (⟨g, i, none⟩ : Addr) ≠ ⟨b, o, none⟩ := fun e => by
      rw [← e, hs] at hb; cases hb; exact hv s0 rfl
    rw [World.cell?_setCell_other _ _ _ _ e]; exact h.oth b o v hb hv
/-- While a clone is written into. -/
def CI (K : Nat) (W2 Wc wr : World) : Prop := Below K W2 wr ∧ StrKeep Wc wr
theorem CI.store {K : Nat} {W2 Wc wr : World} (h : CI K W2 Wc wr) {g i : Nat} {s0 : ByteArray} (x : ByteArray) (hg : K ≤ g) (hs : Wc.cell? ⟨g, i, none⟩ = some (.string s0)) : CI K W2 Wc (wr.setCell ⟨g, i, none⟩ (.string x)) :=
  ⟨h.1.setCell (p := ⟨g, i, none⟩) hg _, h.2.store x hs⟩
/-- A row of texts that may be written into. -/
def RowC (W : World) (K : Nat) (v : Value) (n : Nat) : Prop :=
  ∃ ao cap, v = .slice ao n cap ∧ ∀ i, i < n → ∃ g s, ao = some ⟨g, 0, none⟩ ∧ K ≤ g ∧ W.cell? ⟨g, i, none⟩ = some (.string s) ∧ W.frozen? ⟨g, i, none⟩ = false
theorem RowC.of_own {w : World} {K : Nat} {v : Value} {l : List ByteArray} (h : w.ownsRow K 9 1 v l.length (strs l)) : RowC w K v l.length := by
  rcases owned_cases h with ⟨rfl, h0⟩ | ⟨g, cap, rfl⟩
  · exact ⟨none, 0, by rw [h0], fun i hi => by omega⟩
  · refine ⟨some ⟨g, 0, none⟩, cap, rfl, fun i hi => ⟨g, l[i], rfl, (h.lt g rfl).1, own_cell h i _ (List.getElem?_eq_getElem hi), h.frozenAt i⟩⟩
theorem RowC.below {W W' : World} {K : Nat} {v : Value} {n : Nat} (h : RowC W K v n) (hb : Below W.heap.size W W') : RowC W' K v n := by
  obtain ⟨ao, cap, rfl, hc⟩ := h
  refine ⟨ao, cap, rfl, fun i hi => ?_⟩
  obtain ⟨g, s, h1, h2, h3, h4⟩ := hc i hi
  have hl := lt_of_cellF h3
  exact ⟨g, s, h1, h2, (hb.cell (p := ⟨g, i, none⟩) hl).trans h3, (hb.frozen (p := ⟨g, i, none⟩) hl).trans h4⟩
/-- A row of extensions whose texts may be written over. -/
def ExtC (W : World) (K : Nat) (v : Value) (n : Nat) : Prop :=
  ∃ ao cap, v = .slice ao n cap ∧ ∀ i, i < n → ∃ g s u m, ao = some ⟨g, 0, none⟩ ∧ K ≤ g ∧ W.cell? ⟨g, i * 2, none⟩ = some (.string s) ∧ W.frozen? ⟨g, i * 2, none⟩ = false ∧ W.cell? ⟨g, i * 2 + 1, none⟩ = some u ∧ m ≤ 1000 ∧ RowC W K u m
theorem ExtC.of_own {w : World} {K : Nat} {v : Value} {L : List (ByteArray × List ByteArray)} (h : ExtO w K v L) (hm : ∀ x ∈ L, x.2.length ≤ 1000) : ExtC w K v L.length := by
  obtain ⟨us, h1, h2, h3⟩ := h
  rcases owned_cases h2 with ⟨rfl, h0⟩ | ⟨g, cap, rfl⟩
  · exact ⟨none, 0, by rw [h0], fun i hi => by omega⟩
  · refine ⟨some ⟨g, 0, none⟩, cap, rfl, fun i hi => ?_⟩
    obtain ⟨u, hu⟩ : ∃ u, us[i]? = some u := ⟨_, List.getElem?_eq_getElem (by omega)⟩
    have hx : L[i]? = some L[i] := List.getElem?_eq_getElem hi
    obtain ⟨c1, c2⟩ := extCells_get h1 hx hu
    have k1 := h2.cells rfl _ _ c1
    have k2 := h2.cells rfl _ _ c2
    rw [Addr.add_lit, Nat.zero_add] at k1 k2
    exact ⟨g, _, u, _, rfl, (h2.lt g rfl).1, k1, h2.frozenAt _, k2, hm _ (List.getElem_mem hi), RowC.of_own (h3 i u _ hu hx)⟩
theorem ExtC.below {W W' : World} {K : Nat} {v : Value} {n : Nat} (h : ExtC W K v n) (hb : Below W.heap.size W W') : ExtC W' K v n := by
  obtain ⟨ao, cap, rfl, hc⟩ := h
  refine ⟨ao, cap, rfl, fun i hi => ?_⟩
  obtain ⟨g, s, u, m, h1, h2, h3, h4, h5, h6, h7⟩ := hc i hi
  have hl := lt_of_cellF h3
  exact ⟨g, s, u, m, h1, h2, (hb.cell (p := ⟨g, i * 2, none⟩) hl).trans h3, (hb.frozen (p := ⟨g, i * 2, none⟩) hl).trans h4, (hb.cell (p := ⟨g, i * 2 + 1, none⟩) hl).trans h5, h6, h7.below hb⟩

theorem join_zero (ao : Option Addr) (cap : Nat) (w : World) :
    Calls Try.prog 10 #[.slice ao 0 cap] w fun e w' => e = .returned (.string ⟨#[]⟩) ∧ w = w' := by
  go_enter Try.func10, Try.ntmps10
  go_wp2
  go_loop [3, 4] (fun t i => i = .int .i64 0 ∧ t = .string ⟨#[]⟩) (fun _ i => 1)
  case atStart => exact ⟨rfl, rfl⟩
  case round =>
    obtain ⟨rfl, rfl⟩ := hrel
    go_wp2
    go_ret
    exact ⟨rfl, rfl⟩
theorem join_row (v : Value) (l : List ByteArray) (w : World) (hv : Row w v l) (hl : l.length ≤ 20003) (hp : ∀ p ∈ l, p.size ≤ 1048576) :
    Calls Try.prog 10 #[v] w fun e w' => e = .returned (.string (joinS l)) ∧ w = w' := by
  obtain ⟨ao, cap, rfl, hc⟩ := hv
  cases l with
  | nil => exact (join_zero ao cap w)
  | cons x r =>
    obtain ⟨g, rfl, -⟩ := hc 0 x rfl
    have := join_big g (x :: r).length cap (x :: r) w (Nat.le_refl _) hl hp (fun i p h => by obtain ⟨g', h1, h2⟩ := hc i p h; cases h1; exact h2)
    rwa [List.take_of_length_le (Nat.le_refl _)] at this
end Go.Proofs.Ytajdfckppnedjaa
