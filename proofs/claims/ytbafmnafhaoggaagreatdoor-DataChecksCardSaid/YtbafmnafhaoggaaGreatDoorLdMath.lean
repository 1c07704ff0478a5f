/-
  What is checked of an image whose rows stand in another order; the image that is handed out may be used, and its bytes are loaded (plain mathematics).
-/
import Derived.Test.YtbafmnafhaoggaaGreatDoorLdData
import Derived.Test.YtbafmnafhaoggaaGreatDoorOMath
import Derived.Test.YtbafmnafhaoggaaGreatDoorODMath
namespace Go.Proofs.YtbafmnafhaoggaaGreatDoor
open Go Go.RowKit

theorem perm_chk {a b : Im} (h : PermI a b) (ha : chkE a = none) : chkE b = none := by
  rw [chkE_none] at ha ⊢
  obtain ⟨he, hm⟩ := ha
  refine ⟨h.none he, fun j hj i hi => ?_⟩
  rcases four j hj with rfl | rfl | rfl | rfl
  · obtain ⟨x, hx⟩ : ∃ x, b.als[i]? = some x := ⟨_, List.getElem?_eq_getElem hi⟩
    rw [holds_0 hx]
    obtain ⟨n, hn⟩ := List.getElem?_of_mem (h.als.mem_iff.2 (List.mem_of_getElem? hx))
    have := hm 0 (by decide) n (List.getElem?_eq_some_iff.1 hn).1
    rw [holds_0 hn] at this
    exact endsN_sub (fun z hz => by obtain ⟨y, hy, rfl⟩ := List.mem_map.1 hz; exact List.mem_map.2 ⟨y, h.als.mem_iff.2 hy, rfl⟩) this
  · obtain ⟨x, hx⟩ : ∃ x, b.lks[i]? = some x := ⟨_, List.getElem?_eq_getElem hi⟩
    rw [holds_1 hx]
    obtain ⟨n, hn⟩ := List.getElem?_of_mem (h.lks.mem_iff.2 (List.mem_of_getElem? hx))
    have := hm 1 (by decide) n (List.getElem?_eq_some_iff.1 hn).1
    rw [holds_1 hn] at this
    unfold rowsB at this ⊢
    rw [List.any_eq_true] at this ⊢
    obtain ⟨y, hy, e⟩ := this
    exact ⟨y, h.lks.mem_iff.1 hy, e⟩
  · have hi' : i < mustN a 2 := by
      have e : mustN a 2 = mustN b 2 := by show a.rls.length = b.rls.length; rw [h.rls]
      omega
    obtain ⟨x, hx⟩ : ∃ x, b.rls[i]? = some x := ⟨_, List.getElem?_eq_getElem hi⟩
    have := hm 2 (by decide) i hi'
    rw [holds_2 (by rw [h.rls]; exact hx)] at this
    rw [holds_2 hx]
    have hs : ∀ s, setB b.mbs s = setB a.mbs s := fun s => by
      unfold setB
      rw [Bool.eq_iff_iff, List.any_eq_true, List.any_eq_true]
      exact ⟨fun ⟨y, hy, e⟩ => ⟨y, h.mbs.mem_iff.2 hy, e⟩, fun ⟨y, hy, e⟩ => ⟨y, h.mbs.mem_iff.1 hy, e⟩⟩
    have hk : ∀ s, knownB b.mbs s = knownB a.mbs s := fun s => by unfold knownB; rw [hs]
    unfold ruleB at this ⊢
    rw [hk, hk]
    exact this
  · have e : everyB a.rls = true := hm 3 (by decide) 0 (show 0 < 1 by decide)
    show everyB b.rls = true
    rw [← h.rls]
    exact e
theorem rise_keysD {K : Nat} {l : List ByteArray} (hK : 0 < K) (h : ∀ x ∈ l, K ≤ x.size) : badW K (sortW l) = none ↔ (l.map (keyW K)).Nodup := by
  have hs : ∀ x ∈ sortW l, K ≤ x.size := fun x hx => h x ((sortW_perm l).mem_iff.1 hx)
  rw [badW_none hK hs, ← ((sortW_perm l).map (keyW K)).nodup_iff]
  unfold RisingW List.Nodup
  rw [List.pairwise_map]
  constructor
  · intro hp
    exact hp.imp fun hlt e => by rw [e, ltW_irrefl] at hlt; cases hlt
  · intro hp
    refine ((sortW_sorted l).and hp).imp fun {a b} hab => ?_
    obtain ⟨h1, h2⟩ := hab
    cases hx : ltW (keyW K a) (keyW K b) with
    | true => rfl
    | false =>
      have hy : ltW (keyW K b) (keyW K a) = false := by
        cases hy : ltW (keyW K b) (keyW K a) with
        | false => rfl
        | true => rw [ltW_of_key hy] at h1; cases h1
      exact absurd (ltW_tri hx hy) h2
theorem dup_keysD (im : Im) (k K : Nat) (e : dupN im k = (badW K (sortW (rowsN im k))).isSome) (hK : 0 < K) (hs : K ≤ wdR k) (h : (((rowsN im k).map (keyW K)).map fun r => r.data.toList).Nodup) : dupN im k = false := by
  have h' : ((rowsN im k).map (keyW K)).Nodup := by
    unfold List.Nodup at h ⊢
    rw [List.pairwise_map] at h
    exact h.imp fun hne e => hne (by rw [e])
  rw [e, (rise_keysD hK (fun x hx => by rw [rowsN_size im k x hx]; exact hs)).2 h']
  rfl
theorem enc15 : encE im15 = none := (encE_noneZ im15).2 ⟨by decide +kernel, by decide +kernel, fun j hj => by
    rcases four j hj with rfl | rfl | rfl | rfl
    · decide +kernel
    · decide +kernel
    · decide +kernel
    · decide +kernel, fun j hj => by
    rcases four j hj with rfl | rfl | rfl | rfl
    · exact dup_keysD im15 0 17 rfl (by decide) (by decide) (by decide +kernel)
    · exact dup_keysD im15 1 24 rfl (by decide) (by decide) (by decide +kernel)
    · rfl
    · exact dup_keysD im15 3 16 rfl (by decide) (by decide) (by decide +kernel)⟩
theorem must15 : (mustE im15).isNone = true := by decide +kernel
theorem chk15 : chkE im15 = none := by
  rw [chkE_must enc15]
  exact Option.isNone_iff_eq_none.1 must15
theorem load15 : (encB im15).size = 4641 ∧ decOk (encB im15) ∧ chkE (unpI (encB im15)) = none ∧ cntN (unpI (encB im15)) 0 = 54 := by
  have h := enc15
  refine ⟨?_, back_ok h, perm_chk (back_perm h).1.symm chk15, ((back_perm h).1.cnt 0).trans cnt15.1⟩
  have hz : (encB im15).size = 14 + cntN im15 0 * 41 + cntN im15 1 * 48 + cntN im15 2 * 51 + cntN im15 3 * 16 := by unfold encB; rw [h]; exact outN_size im15
  obtain ⟨e0, e1, e2, e3⟩ := cnt15
  rw [hz, e0, e1, e2, e3]
end Go.Proofs.YtbafmnafhaoggaaGreatDoor
