/-
  Images whose aliases, likely rows and members stand in another order: what Encode tells stays (plain mathematics).
-/
import Derived.Test.YtbafmnafhaoggaaGreatDoorZPacks
namespace Go.Proofs.YtbafmnafhaoggaaGreatDoor
open Go Go.RowKit

structure PermI (a b : Im) : Prop where
  als : a.als.Perm b.als
  lks : a.lks.Perm b.lks
  rls : a.rls = b.rls
  mbs : a.mbs.Perm b.mbs
  th : a.th = b.th
  de : a.de = b.de
theorem badL_permZ {α : Type} {p : α → Bool} {l l' : List α} (h : l.Perm l') : (badL p l = none) ↔ (badL p l' = none) := by
  unfold badL
  rw [List.findIdx?_eq_none_iff, List.findIdx?_eq_none_iff]
  exact ⟨fun hh x hx => hh x (h.mem_iff.2 hx), fun hh x hx => hh x (h.mem_iff.1 hx)⟩
theorem PermI.cnt {a b : Im} (h : PermI a b) (k : Nat) : cntN a k = cntN b k := by
  rcases k with _ | _ | _ | k
  · exact h.als.length_eq
  · exact h.lks.length_eq
  · show a.rls.length = b.rls.length; rw [h.rls]
  · exact h.mbs.length_eq
theorem PermI.bad {a b : Im} (h : PermI a b) (k : Nat) : (badN a k = none) ↔ (badN b k = none) := by
  rcases k with _ | _ | _ | k
  · exact badL_permZ h.als
  · exact badL_permZ h.lks
  · show (badL rightRl a.rls = none) ↔ _; rw [h.rls]; exact Iff.rfl
  · exact badL_permZ h.mbs
theorem PermI.rows {a b : Im} (h : PermI a b) (k : Nat) : (rowsN a k).Perm (rowsN b k) := by
  rcases k with _ | _ | _ | k
  · exact h.als.map _
  · exact h.lks.map _
  · show (a.rls.map rowRl).Perm _; rw [h.rls]; exact List.Perm.refl _
  · exact h.mbs.map _
theorem PermI.dup {a b : Im} (h : PermI a b) (k : Nat) : dupN a k = dupN b k := by
  rcases k with _ | _ | _ | k
  · show (badW _ (sortW (rowsN a 0))).isSome = _; rw [sortW_congr (h.rows 0)]; rfl
  · show (badW _ (sortW (rowsN a 1))).isSome = _; rw [sortW_congr (h.rows 1)]; rfl
  · rfl
  · show (badW _ (sortW (rowsN a (k + 3)))).isSome = _; rw [sortW_congr (h.rows (k + 3))]; rfl
theorem PermI.part {a b : Im} (h : PermI a b) (k : Nat) : partB a k = partB b k := by
  rcases k with _ | _ | _ | k
  · show catW (sortW (rowsN a 0)) = _; rw [sortW_congr (h.rows 0)]; rfl
  · show catW (sortW (rowsN a 1)) = _; rw [sortW_congr (h.rows 1)]; rfl
  · show catW (a.rls.map rowRl) = catW (b.rls.map rowRl); rw [h.rls]
  · show catW (sortW (rowsN a (k + 3))) = _; rw [sortW_congr (h.rows (k + 3))]; rfl
theorem PermI.head {a b : Im} (h : PermI a b) : headB a = headB b := by
  have hu : ∀ k, headUp a k = headUp b k := fun k => by
    induction k with
    | zero => rfl
    | succ k ih => show headUp a k ++ _ = headUp b k ++ _; rw [ih, h.cnt k]
  unfold headB
  rw [hu 4, h.th, h.de]
theorem PermI.out {a b : Im} (h : PermI a b) (k : Nat) : outN a k = outN b k := by
  induction k with
  | zero => exact h.head
  | succ k ih => show outN a k ++ partB a k = outN b k ++ partB b k; rw [ih, h.part k]
theorem encE_noneZ (im : Im) : encE im = none ↔ manyB im = false ∧ argB im = false ∧ (∀ j, j < 4 → badN im j = none) ∧ (∀ j, j < 4 → dupN im j = false) := by
  constructor
  · intro h
    unfold encE at h
    by_cases hm : manyB im = true
    · rw [if_pos hm] at h; cases h
    · rw [if_neg hm] at h
      by_cases ha : argB im = true
      · rw [if_pos ha] at h; cases h
      · rw [if_neg ha] at h
        have hm : manyB im = false := by simpa using hm
        have ha : argB im = false := by simpa using ha
        have hw : wrongZ im = none := by
          cases hw : wrongZ im with
          | none => rfl
          | some e => rw [hw] at h; cases h
        rw [hw] at h
        have hd : dupZ im = none := h
        have q0 : ∀ j, j < 0 → badN im j = none := (fun j hj => absurd hj (Nat.not_lt_zero _))
        have w0 : badN im 0 = none := by
          cases hb : badN im 0 with
          | none => rfl
          | some i => rw [wrongZ_at (k := 0) (by decide) q0 hb] at hw; cases hw
        have q1 : ∀ j, j < 1 → badN im j = none := (fun j hj => by rcases (show j = 0 from by omega) with rfl <;> assumption)
        have w1 : badN im 1 = none := by
          cases hb : badN im 1 with
          | none => rfl
          | some i => rw [wrongZ_at (k := 1) (by decide) q1 hb] at hw; cases hw
        have q2 : ∀ j, j < 2 → badN im j = none := (fun j hj => by rcases (show j = 0 ∨ j = 1 from by omega) with rfl | rfl <;> assumption)
        have w2 : badN im 2 = none := by
          cases hb : badN im 2 with
          | none => rfl
          | some i => rw [wrongZ_at (k := 2) (by decide) q2 hb] at hw; cases hw
        have q3 : ∀ j, j < 3 → badN im j = none := (fun j hj => by rcases (show j = 0 ∨ j = 1 ∨ j = 2 from by omega) with rfl | rfl | rfl <;> assumption)
        have w3 : badN im 3 = none := by
          cases hb : badN im 3 with
          | none => rfl
          | some i => rw [wrongZ_at (k := 3) (by decide) q3 hb] at hw; cases hw
        have r0 : ∀ j, j < 0 → dupN im j = false := (fun j hj => absurd hj (Nat.not_lt_zero _))
        have v0 : dupN im 0 = false := by
          cases hb : dupN im 0 with
          | false => rfl
          | true => rw [dupZ_at (k := 0) (by decide) r0 hb] at hd; cases hd
        have r1 : ∀ j, j < 1 → dupN im j = false := (fun j hj => by rcases (show j = 0 from by omega) with rfl <;> assumption)
        have v1 : dupN im 1 = false := by
          cases hb : dupN im 1 with
          | false => rfl
          | true => rw [dupZ_at (k := 1) (by decide) r1 hb] at hd; cases hd
        have r2 : ∀ j, j < 2 → dupN im j = false := (fun j hj => by rcases (show j = 0 ∨ j = 1 from by omega) with rfl | rfl <;> assumption)
        have v2 : dupN im 2 = false := by
          cases hb : dupN im 2 with
          | false => rfl
          | true => rw [dupZ_at (k := 2) (by decide) r2 hb] at hd; cases hd
        have r3 : ∀ j, j < 3 → dupN im j = false := (fun j hj => by rcases (show j = 0 ∨ j = 1 ∨ j = 2 from by omega) with rfl | rfl | rfl <;> assumption)
        have v3 : dupN im 3 = false := by
          cases hb : dupN im 3 with
          | false => rfl
          | true => rw [dupZ_at (k := 3) (by decide) r3 hb] at hd; cases hd
        refine ⟨hm, ha, fun j hj => ?_, fun j hj => ?_⟩
        · rcases four j hj with rfl | rfl | rfl | rfl <;> assumption
        · rcases four j hj with rfl | rfl | rfl | rfl <;> assumption
  · rintro ⟨h1, h2, h3, h4⟩
    rw [encE_rest h1 h2, wrongZ_none h3, dupZ_none h4]; rfl
theorem PermI.none {a b : Im} (h : PermI a b) (ha : encE a = none) : encE b = none := by
  obtain ⟨h1, h2, h3, h4⟩ := (encE_noneZ a).1 ha
  refine (encE_noneZ b).2 ⟨?_, ?_, fun j hj => (h.bad j).1 (h3 j hj), fun j hj => (h.dup j).symm.trans (h4 j hj)⟩
  · unfold manyB at h1 ⊢
    rwa [h.cnt 0, h.cnt 1, h.cnt 2, h.cnt 3] at h1
  · unfold argB at h2 ⊢
    rwa [h.th, h.de] at h2
theorem PermI.symm {a b : Im} (h : PermI a b) : PermI b a := ⟨h.als.symm, h.lks.symm, h.rls.symm, h.mbs.symm, h.th.symm, h.de.symm⟩
theorem PermI.bytes {a b : Im} (h : PermI a b) : encB a = encB b := by
  unfold encB
  cases ha : encE a with
  | none => rw [h.none ha, h.out 4]
  | some e =>
    cases hb : encE b with
    | none => rw [h.symm.none hb] at ha; cases ha
    | some e' => rfl
theorem PermI.some {a b : Im} (h : PermI a b) {e : ErrT} (ha : encE a = some e) : ∃ e', encE b = some e' := by
  cases hb : encE b with
  | none => rw [h.symm.none hb] at ha; cases ha
  | some e' => exact ⟨e', rfl⟩
end Go.Proofs.YtbafmnafhaoggaaGreatDoor
