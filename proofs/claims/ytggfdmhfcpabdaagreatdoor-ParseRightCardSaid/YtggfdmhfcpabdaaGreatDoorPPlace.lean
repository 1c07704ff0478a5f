/-
  Package parse: where it is wrong (the mathematics).
-/
import Derived.Test.YtggfdmhfcpabdaaGreatDoorPParsedRight
namespace Go.Proofs.YtggfdmhfcpabdaaGreatDoor
open Go Go.RowKit

theorem placed_behind : ∀ (ps : List (List UInt8)) (pre : List UInt8), ∀ x ∈ placed pre.length ps, x.1 = pre.length ∨ (1 ≤ x.1 ∧ (pre ++ joinP ps)[x.1 - 1]? = some 45)
  | [], _, x, hx => by cases hx
  | p :: r, pre, x, hx => by
    rw [placed] at hx
    rcases List.mem_cons.1 hx with rfl | hx
    · exact .inl rfl
    · have hne : r ≠ [] := fun e => by rw [e] at hx; cases hx
      have hl : (pre ++ p ++ [45]).length = pre.length + p.length + 1 := by simp; omega
      rw [← hl] at hx
      have hj : pre ++ joinP (p :: r) = (pre ++ p ++ [45]) ++ joinP r := by rw [joinP_cons p hne]; simp
      rw [hj]
      refine .inr ?_
      rcases placed_behind r (pre ++ p ++ [45]) x hx with h | h
      · rw [h, hl]
        refine ⟨by omega, ?_⟩
        rw [List.append_assoc, List.getElem?_append_right (by simp)]
        simp
      · exact h
theorem pieces_behind (s : ByteArray) : ∀ x ∈ pieces s, x.1 = 0 ∨ (1 ≤ x.1 ∧ (bs s)[x.1 - 1]? = some 45) := by
  intro x hx
  have := placed_behind (spl (bs s)) [] x hx
  rw [List.nil_append, joinP_spl] at this
  exact this
theorem further_place {st : PSt} {a : Nat} {p : ByteArray} {e : PErr} (h : furtherP st a p = .error e) : e.2.1 = a := by
  unfold furtherP at h
  split at h
  · cases h
  split at h
  · cases h
  split at h
  · cases h
  split at h
  · split at h
    · cases h; rfl
    · cases h
  split at h
  · cases h
  split at h
  · split at h
    · cases h; rfl
    · cases h
  split at h
  · cases h
  · cases h; rfl
theorem take_place {st : PSt} {a : Nat} {p : ByteArray} {e : PErr} (h : takeP st a p = .error e) : e.2.1 = a := by
  unfold takeP at h
  split at h
  · split at h
    · cases h
    split at h
    · cases h
    · cases h; rfl
  split at h
  · split at h
    · cases h
    · cases h; rfl
  · exact further_place h
theorem run_place : ∀ (xs : List (Nat × ByteArray)) (st st' : PSt) (e : PErr), runP xs st = (st', some e) → ∃ x ∈ xs, e.2.1 = x.1
  | [], _, _, _, h => by cases h
  | x :: r, st, st', e, h => by
    rw [runP] at h
    cases ht : takeP st x.1 (lowS x.2) with
    | error e' =>
      rw [ht] at h
      cases h
      exact ⟨x, List.mem_cons_self, take_place ht⟩
    | ok s2 =>
      rw [ht] at h
      obtain ⟨y, hy, he⟩ := run_place r _ st' e h
      exact ⟨y, List.mem_cons_of_mem _ hy, he⟩
/-- P7.3: what is told of a text that is wrong. -/
theorem wrong_place (s : ByteArray) (T : TagM) (e : PErr) (h : parseS s = (T, some e)) : T = pNo ∧ (e.2.1 = 0 ∨ e.2.1 = s.size ∨ (1 ≤ e.2.1 ∧ (bs s)[e.2.1 - 1]? = some 45)) := by
  unfold parseS at h
  split at h
  · cases h
  · unfold readS at h
    cases hr : runP (pieces s) pSt0 with
    | mk st o =>
      rw [hr] at h
      cases o with
      | some e' =>
        cases h
        refine ⟨rfl, ?_⟩
        obtain ⟨x, hx, he⟩ := run_place _ _ _ _ hr
        rw [he]
        rcases pieces_behind s x hx with h | h
        · exact .inl h
        · exact .inr (.inr h)
      | none =>
        unfold finP at h
        cases hm : st.must with
        | true =>
          simp only [hm, if_true] at h
          cases h
          exact ⟨rfl, .inr (.inl rfl)⟩
        | false => simp only [hm] at h; cases h
end Go.Proofs.YtggfdmhfcpabdaaGreatDoor
