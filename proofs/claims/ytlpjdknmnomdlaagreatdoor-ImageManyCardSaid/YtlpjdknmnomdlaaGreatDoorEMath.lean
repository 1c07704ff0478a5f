/-
  Layer 5's texts: the grandfathered tags in their order; where a text stands among them. No dump.
-/
import Derived.Test.YtlpjdknmnomdlaaGreatDoorBMath
namespace Go.Proofs.YtlpjdknmnomdlaaGreatDoor

/-- The tags, in order, and which are regular. -/
def gL : List (ByteArray × Bool) := [
  (⟨#[97, 114, 116, 45, 108, 111, 106, 98, 97, 110]⟩, true),
  (⟨#[99, 101, 108, 45, 103, 97, 117, 108, 105, 115, 104]⟩, true),
  (⟨#[101, 110, 45, 103, 98, 45, 111, 101, 100]⟩, false),
  (⟨#[105, 45, 97, 109, 105]⟩, false),
  (⟨#[105, 45, 98, 110, 110]⟩, false),
  (⟨#[105, 45, 100, 101, 102, 97, 117, 108, 116]⟩, false),
  (⟨#[105, 45, 101, 110, 111, 99, 104, 105, 97, 110]⟩, false),
  (⟨#[105, 45, 104, 97, 107]⟩, false),
  (⟨#[105, 45, 107, 108, 105, 110, 103, 111, 110]⟩, false),
  (⟨#[105, 45, 108, 117, 120]⟩, false),
  (⟨#[105, 45, 109, 105, 110, 103, 111]⟩, false),
  (⟨#[105, 45, 110, 97, 118, 97, 106, 111]⟩, false),
  (⟨#[105, 45, 112, 119, 110]⟩, false),
  (⟨#[105, 45, 116, 97, 111]⟩, false),
  (⟨#[105, 45, 116, 97, 121]⟩, false),
  (⟨#[105, 45, 116, 115, 117]⟩, false),
  (⟨#[110, 111, 45, 98, 111, 107]⟩, true),
  (⟨#[110, 111, 45, 110, 121, 110]⟩, true),
  (⟨#[115, 103, 110, 45, 98, 101, 45, 102, 114]⟩, false),
  (⟨#[115, 103, 110, 45, 98, 101, 45, 110, 108]⟩, false),
  (⟨#[115, 103, 110, 45, 99, 104, 45, 100, 101]⟩, false),
  (⟨#[122, 104, 45, 103, 117, 111, 121, 117]⟩, true),
  (⟨#[122, 104, 45, 104, 97, 107, 107, 97]⟩, true),
  (⟨#[122, 104, 45, 109, 105, 110]⟩, true),
  (⟨#[122, 104, 45, 109, 105, 110, 45, 110, 97, 110]⟩, true),
  (⟨#[122, 104, 45, 120, 105, 97, 110, 103]⟩, true)]
def nameG (k : Nat) : ByteArray := (gL.getD k (ByteArray.empty, false)).1
def regG (k : Nat) : Bool := (gL.getD k (ByteArray.empty, false)).2
/-- The tags as the document's own list has them: a regular one with its star. -/
def gS : List ByteArray := [
  ⟨#[97, 114, 116, 45, 108, 111, 106, 98, 97, 110, 42]⟩,
  ⟨#[99, 101, 108, 45, 103, 97, 117, 108, 105, 115, 104, 42]⟩,
  ⟨#[101, 110, 45, 103, 98, 45, 111, 101, 100]⟩,
  ⟨#[105, 45, 97, 109, 105]⟩,
  ⟨#[105, 45, 98, 110, 110]⟩,
  ⟨#[105, 45, 100, 101, 102, 97, 117, 108, 116]⟩,
  ⟨#[105, 45, 101, 110, 111, 99, 104, 105, 97, 110]⟩,
  ⟨#[105, 45, 104, 97, 107]⟩,
  ⟨#[105, 45, 107, 108, 105, 110, 103, 111, 110]⟩,
  ⟨#[105, 45, 108, 117, 120]⟩,
  ⟨#[105, 45, 109, 105, 110, 103, 111]⟩,
  ⟨#[105, 45, 110, 97, 118, 97, 106, 111]⟩,
  ⟨#[105, 45, 112, 119, 110]⟩,
  ⟨#[105, 45, 116, 97, 111]⟩,
  ⟨#[105, 45, 116, 97, 121]⟩,
  ⟨#[105, 45, 116, 115, 117]⟩,
  ⟨#[110, 111, 45, 98, 111, 107, 42]⟩,
  ⟨#[110, 111, 45, 110, 121, 110, 42]⟩,
  ⟨#[115, 103, 110, 45, 98, 101, 45, 102, 114]⟩,
  ⟨#[115, 103, 110, 45, 98, 101, 45, 110, 108]⟩,
  ⟨#[115, 103, 110, 45, 99, 104, 45, 100, 101]⟩,
  ⟨#[122, 104, 45, 103, 117, 111, 121, 117, 42]⟩,
  ⟨#[122, 104, 45, 104, 97, 107, 107, 97, 42]⟩,
  ⟨#[122, 104, 45, 109, 105, 110, 42]⟩,
  ⟨#[122, 104, 45, 109, 105, 110, 45, 110, 97, 110, 42]⟩,
  ⟨#[122, 104, 45, 120, 105, 97, 110, 103, 42]⟩]
def starG (k : Nat) : ByteArray := gS.getD k ByteArray.empty

theorem name_all (P : Nat → Prop) (h : ∀ k : Fin 26, P k.val) (k : Nat) (hk : k < 26) : P k := h ⟨k, hk⟩
theorem name_low (k : Nat) (hk : k < 26) : lowS (nameG k) = nameG k := name_all (fun k => lowS (nameG k) = nameG k) (by decide +kernel) k hk
theorem name_size (k : Nat) (hk : k < 26) : 3 ≤ (nameG k).size ∧ (nameG k).size ≤ 11 := name_all (fun k => 3 ≤ (nameG k).size ∧ (nameG k).size ≤ 11) (by decide +kernel) k hk
theorem star_size (k : Nat) (hk : k < 26) : 1 ≤ (starG k).size ∧ (starG k).size ≤ 12 := name_all (fun k => 1 ≤ (starG k).size ∧ (starG k).size ≤ 12) (by decide +kernel) k hk
theorem star_reg (k : Nat) (hk : k < 26) (h : regG k = true) : (starG k).data[(starG k).size - 1]? = some 42 ∧ (starG k).extract 0 ((starG k).size - 1) = nameG k :=
  name_all (fun k => regG k = true → (starG k).data[(starG k).size - 1]? = some 42 ∧ (starG k).extract 0 ((starG k).size - 1) = nameG k) (by decide +kernel) k hk h
theorem star_not (k : Nat) (hk : k < 26) (h : regG k = false) : (starG k).data[(starG k).size - 1]? ≠ some 42 ∧ starG k = nameG k :=
  name_all (fun k => regG k = false → (starG k).data[(starG k).size - 1]? ≠ some 42 ∧ starG k = nameG k) (by decide +kernel) k hk h
theorem star_ne (k : Nat) (hk : k < 26) : decide (starG k ≠ nameG k) = regG k := name_all (fun k => decide (starG k ≠ nameG k) = regG k) (by decide +kernel) k hk
theorem name_lt2 : ∀ j k : Fin 26, j.val < k.val → cmpS (nameG j.val) (nameG k.val) = -1 := by decide +kernel
theorem name_lt (j k : Nat) (hk : k < 26) (h : j < k) : cmpS (nameG j) (nameG k) = -1 := name_lt2 ⟨j, by omega⟩ ⟨k, hk⟩ h
theorem name_inj (j k : Nat) (hj : j < 26) (hk : k < 26) (h : nameG j = nameG k) : j = k := by
  rcases Nat.lt_trichotomy j k with h1 | h1 | h1
  · have := name_lt j k hk h1
    rw [h, show cmpS (nameG k) (nameG k) = 0 from cmpL_self _] at this
    cases this
  · exact h1
  · have := name_lt k j hj h1
    rw [h, show cmpS (nameG k) (nameG k) = 0 from cmpL_self _] at this
    cases this

theorem low_bs (s : ByteArray) : bs (lowS s) = (bs s).map lowB := by simp [lowS, bs_ofL]
theorem same_low (a b : ByteArray) : sameS a b = true ↔ lowS a = lowS b := by
  unfold sameS
  rw [decide_eq_true_iff]
  constructor
  · intro h
    exact ofL_ext (by rw [low_bs, low_bs]; exact cmpL_zero h)
  · intro h
    unfold cmpS
    rw [← low_bs, ← low_bs, h]
    exact cmpL_self _

/-- Where a text stands: the first tag that is not ahead of it. -/
def searchV (s : ByteArray) : Nat := (List.range 26).findIdx fun k => decide (0 ≤ cmpS (nameG k) s)
theorem search_le (s : ByteArray) : searchV s ≤ 26 := by
  have := List.findIdx_le_length (p := fun k => decide (0 ≤ cmpS (nameG k) s)) (xs := List.range 26)
  rw [List.length_range] at this
  exact this
theorem search_iff (s : ByteArray) (i : Nat) (hi : i < 26) : 0 ≤ cmpS (nameG i) s ↔ searchV s ≤ i := by
  constructor
  · intro h
    rcases Nat.lt_or_ge i (searchV s) with h1 | h1
    · have := List.not_of_lt_findIdx (p := fun k => decide (0 ≤ cmpS (nameG k) s)) (xs := List.range 26) h1
      simp at this
      omega
    · exact h1
  · intro h
    have hl : searchV s < (List.range 26).length := by rw [List.length_range]; omega
    have h0 := List.findIdx_getElem (p := fun k => decide (0 ≤ cmpS (nameG k) s)) (xs := List.range 26) (w := hl)
    have h1 : decide (0 ≤ cmpS (nameG ((List.range 26)[searchV s]'hl)) s) = true := h0
    rw [List.getElem_range, decide_eq_true_iff] at h1
    clear h0
    rcases Nat.lt_or_eq_of_le h with h2 | h2
    · have h3 := name_lt _ i hi h2
      have h4 : cmpS s (nameG i) ≤ 0 := cmpL_trans _ ((bs (nameG (searchV s))).map lowB) _ (by have := cmpS_swap (nameG (searchV s)) s; unfold cmpS at this h1; rw [this]; omega) (by unfold cmpS at h3; rw [h3]; decide)
      have := cmpS_swap s (nameG i)
      omega
    · rw [← h2]; exact h1

/-- Which tag a text is. -/
def findV (s : ByteArray) : Option Nat := if searchV s < 26 ∧ sameS (nameG (searchV s)) s = true then some (searchV s) else none
theorem findV_iff (s : ByteArray) (k : Nat) (hk : k < 26) : findV s = some k ↔ lowS s = nameG k := by
  unfold findV
  constructor
  · intro h
    split at h
    · rename_i h1
      obtain rfl := Option.some.inj h
      rw [← name_low _ hk]
      exact ((same_low _ _).1 h1.2).symm
    · cases h
  · intro h
    have h0 : lowS (nameG k) = lowS s := by rw [name_low k hk, h]
    have hz : cmpS (nameG k) s = 0 := by
      have := (same_low _ _).2 h0
      unfold sameS at this
      exact of_decide_eq_true this
    have h1 : searchV s ≤ k := (search_iff s k hk).1 (by omega)
    have h2 : searchV s = k := by
      rcases Nat.lt_or_eq_of_le h1 with h3 | h3
      · have h4 := (search_iff s (searchV s) (by omega)).2 (Nat.le_refl _)
        have h5 := name_lt (searchV s) k hk h3
        have h6 : cmpS (nameG (searchV s)) (nameG k) = cmpS (nameG (searchV s)) s := by
          unfold cmpS
          rw [← low_bs, ← low_bs, ← low_bs, h0]
        omega
      · exact h3
    rw [h2, if_pos ⟨hk, (same_low _ _).2 h0⟩]
theorem findV_lt {s : ByteArray} {k : Nat} (h : findV s = some k) : k < 26 := by
  unfold findV at h
  split at h
  · rename_i h1; obtain rfl := Option.some.inj h; exact h1.1
  · cases h
theorem findV_none (s : ByteArray) (h : findV s = none) (k : Nat) (hk : k < 26) : lowS s ≠ nameG k := fun e => by rw [(findV_iff s k hk).2 e] at h; cases h
theorem findV_name (k : Nat) (hk : k < 26) : findV (nameG k) = some k := (findV_iff _ k hk).2 (name_low k hk)
end Go.Proofs.YtlpjdknmnomdlaaGreatDoor
