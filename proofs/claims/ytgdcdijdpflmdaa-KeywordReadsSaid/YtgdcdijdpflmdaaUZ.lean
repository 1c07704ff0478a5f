/-
  Extensions in memory, as an append reads them.
-/
import Derived.Test.YtgdcdijdpflmdaaUOrder
namespace Go.Proofs.Ytgdcdijdpflmdaa
open Go Go.RowKit

theorem ExtU.z {W : World} {ao : Option Addr} {n c : Nat} {L : KX} (h : ExtU W (.slice ao n c) L) :
    n = L.length ∧ ∃ Z : List ZE, Z.map (·.1) = L ∧ (∀ z ∈ Z, RowU W (slc z.2) z.1.2) ∧ (ao = none → n = 0) ∧ ∀ ad, ao = some ad → ∀ j u, (zcells Z)[j]? = some u → W.cell? (ad.add j) = some u := by
  have hn : n = L.length := by
    obtain ⟨_, _, he, _⟩ := h
    injection he
  subst hn
  refine ⟨rfl, ?_⟩
  have hat := fun (k : Nat) (x : ByteArray × List ByteArray) (hx : L[k]? = some x) => ExtU.at h hx
  have pre : ∀ k, k ≤ L.length → ∃ Z : List ZE, Z.map (·.1) = L.take k ∧ (∀ z ∈ Z, RowU W (slc z.2) z.1.2) ∧ ∀ i z, Z[i]? = some z → ∃ g o, ao = some ⟨g, o, none⟩ ∧ W.cell? ⟨g, o + i * 2, none⟩ = some (.string z.1.1) ∧ W.cell? ⟨g, o + i * 2 + 1, none⟩ = some (slc z.2) := by
    intro k
    induction k with
    | zero => exact fun _ => ⟨[], rfl, fun z hz => (nomatch hz), fun i z hz => by simp at hz⟩
    | succ k ih =>
      intro hk
      obtain ⟨Z, h1, h2, h3⟩ := ih (by omega)
      obtain ⟨x, hx⟩ : ∃ x, L[k]? = some x := ⟨_, List.getElem?_eq_getElem hk⟩
      obtain ⟨g, o, t, ha, c1, c2, hr, _⟩ := hat k x hx
      have hl : Z.length = k := by
        have := congrArg List.length h1
        simp at this
        omega
      refine ⟨Z ++ [(x, t)], by rw [List.map_append, h1, take_next hx]; rfl, fun z hz => ?_, fun i z hz => ?_⟩
      · rcases List.mem_append.1 hz with hz | hz
        · exact h2 z hz
        · obtain rfl := List.mem_singleton.1 hz
          exact hr
      · rcases Nat.lt_or_ge i Z.length with hi | hi
        · rw [List.getElem?_append_left hi] at hz
          exact h3 i z hz
        · have hi2 : i < (Z ++ [(x, t)]).length := (List.getElem?_eq_some_iff.1 hz).1
          obtain rfl : i = k := by simp at hi2; omega
          rw [List.getElem?_append_right hi, hl, Nat.sub_self] at hz
          simp at hz
          subst hz
          exact ⟨g, o, ha, c1, c2⟩
  obtain ⟨Z, h1, h2, h3⟩ := pre L.length (Nat.le_refl _)
  rw [List.take_of_length_le (Nat.le_refl _)] at h1
  refine ⟨Z, h1, h2, fun ha => ?_, fun ad had j u hu => ?_⟩
  · cases hL : L with
    | nil => rfl
    | cons x r =>
      obtain ⟨g, o, t, ha', _⟩ := hat 0 x (by rw [hL]; rfl)
      rw [ha] at ha'
      cases ha'
  · rw [zcells_at] at hu
    cases hz : Z[j / 2]? with
    | none => rw [hz] at hu; cases hu
    | some z =>
      rw [hz, Option.bind_some] at hu
      obtain ⟨g, o, ha, c1, c2⟩ := h3 _ z hz
      rw [had] at ha
      cases ha
      rw [Addr.add_lit]
      have hj : j % 2 < 2 := Nat.mod_lt _ (by decide)
      rcases (show j % 2 = 0 ∨ j % 2 = 1 by omega) with h0 | h0
      · rw [h0] at hu
        have e : encZ z = [.string z.1.1, slc z.2] := rfl
        rw [e] at hu
        simp at hu
        subst hu
        rw [show o + j = o + j / 2 * 2 by omega]
        exact c1
      · rw [h0] at hu
        have e : encZ z = [.string z.1.1, slc z.2] := rfl
        rw [e] at hu
        simp at hu
        subst hu
        rw [show o + j = o + j / 2 * 2 + 1 by omega]
        exact c2
theorem zcells_one {Z : List ZE} : ∀ u ∈ zcells Z, u.oneCell' = true := by
  intro u hu
  unfold zcells at hu
  obtain ⟨z, _, hz⟩ := List.mem_flatMap.1 hu
  exact encZ_one z u hz
theorem zcells_app2 (A C : List ZE) : zcells (A ++ C) = zcells A ++ zcells C := by simp [zcells]
/-- A row just made of what stands in the text. -/
theorem own_lit {W : World} {g base : Nat} {l : List ByteArray} {cs : Array Value} (h : W.heap[g]? = some (.cells cs 9 (0, 0))) (hc : cs.toList = strs l) (hb : base ≤ g) (hl : l.length ≤ maxLen) : W.ownsRow base 9 1 (.slice (some ⟨g, 0, none⟩) l.length l.length) l.length (strs l) := by
  have hs : cs.size = l.length := by
    have := congrArg List.length hc
    simpa [strs] using this
  refine ⟨by simp [strs], .inr ⟨g, l.length, cs, rfl, hb, h, Nat.le_refl _, hl, by omega, ?_⟩⟩
  rw [hc, List.take_of_length_le (by simp [strs])]
end Go.Proofs.Ytgdcdijdpflmdaa
