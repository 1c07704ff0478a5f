/-
  What a table finds, against what the document finds: mathematics.
-/
import Derived.Test.YtbkbnkpgldemkaaDoorWRefF
import Derived.Test.YtbkbnkpgldemkaaDoorWCount
namespace Go.Proofs.YtbkbnkpgldemkaaDoor
open Go Go.RowKit

theorem find_cases {K : Nat} {L : List ByteArray} (hr : RisingW K L) (key : ByteArray) : (∃ j r, L[j]? = some r ∧ findW K L key = some r ∧ refF K L key = ((j : Nat) : Int)) ∨ (findW K L key = none ∧ refF K L key = -1) := by
  unfold refF
  cases hx : L.findIdx? fun r => decide (keyW K r = key) with
  | none =>
    right
    refine ⟨find_miss fun r h => ?_, rfl⟩
    simpa using List.findIdx?_eq_none_iff.1 hx r h
  | some j =>
    left
    obtain ⟨hj, h1, _⟩ := List.findIdx?_eq_some_iff_getElem.1 hx
    have h1 : keyW K L[j] = key := by simpa using h1
    refine ⟨j, L[j], List.getElem?_eq_getElem hj, ?_, rfl⟩
    rw [← h1]
    exact (find_hit hr (List.getElem?_eq_getElem hj)).2
theorem begins_iff {K i : Nat} {L : List ByteArray} {r key : ByteArray} (hr : RisingW K L) (hi : L[i]? = some r) : startsW (keyW K r) key = decide (searchW K L key ≤ i ∧ i < searchW K L key + (tookW K L key).length) := by
  by_cases h1 : i < searchW K L key
  · rw [decide_eq_false (by omega)]
    cases h : startsW (keyW K r) key with
    | false => rfl
    | true => have := search_lo h1 hi; rw [starts_nlt h] at this; cases this
  · by_cases h2 : i < searchW K L key + (tookW K L key).length
    · rw [decide_eq_true (by omega)]
      obtain ⟨y, hy⟩ : ∃ y, (tookW K L key)[i - searchW K L key]? = some y := ⟨_, List.getElem?_eq_getElem (by omega)⟩
      obtain ⟨h3, h4⟩ := took_at hy
      rw [show searchW K L key + (i - searchW K L key) = i by omega, hi] at h3
      cases h3; exact h4
    · rw [decide_eq_false (by omega)]
      have hil := (List.getElem?_eq_some_iff.1 hi).1
      rcases took_end K L key with h | ⟨y, hy, hs⟩
      · omega
      · rcases Nat.eq_or_lt_of_le (Nat.le_of_not_lt h2) with h | h
        · rw [h, hi] at hy; cases hy; exact hs
        · have h5 := (mono_rising hr key _ y hy).2 (by omega)
          refine starts_stop h5 hs ?_
          obtain ⟨a1, rfl⟩ := List.getElem?_eq_some_iff.1 hy
          obtain ⟨a2, rfl⟩ := List.getElem?_eq_some_iff.1 hi
          exact List.pairwise_iff_getElem.1 hr _ _ a1 a2 h
theorem prefix_next {K : Nat} {L : List ByteArray} {key : ByteArray} {pre : List (Nat × ByteArray)} {x : Nat × ByteArray} (h : pre ++ [x] <+: prefixW K L key) : ∃ r, L[searchW K L key + pre.length]? = some r ∧ x = (searchW K L key + pre.length, r) ∧ pre.length < (tookW K L key).length := by
  obtain ⟨t, ht⟩ := h
  have h2 := congrArg (fun l => l[pre.length]?) ht
  unfold prefixW at h2
  rw [fromW_at] at h2
  simp at h2
  cases hr : (tookW K L key)[pre.length]? with
  | none => rw [hr] at h2; simp at h2
  | some r =>
    rw [hr] at h2; simp at h2
    exact ⟨r, (took_at hr).1, h2, (List.getElem?_eq_some_iff.1 hr).1⟩
/-- Where the law's count stands, when so many rows have been told. -/
def nW (V : Nat) (pre : List (Nat × ByteArray)) : Nat := if pre.length = 0 then 0 else V + pre.length
theorem nW_nil (V : Nat) : nW V [] = 0 := rfl
theorem nW_snoc (V : Nat) (pre : List (Nat × ByteArray)) (x : Nat × ByteArray) : nW V (pre ++ [x]) = V + pre.length + 1 := by simp [nW]; omega
/-- A number in a cell. -/
def cellN (w : World) (M : Nat) : Nat := match w.cell? ⟨M, 0, none⟩ with
  | some (.int _ i) => i.toNat
  | _ => 0
theorem cellN_of {w : World} {M : Nat} {m : Nat} (h : w.heap[M]? = some (.cells #[.int .i64 (m : Int)] 3 (0, 0))) : cellN w M = m := by
  unfold cellN; rw [cell_of_one h]; simp
/-- What a round keeps: all but the count. -/
def StPW (W7 : World) (M V : Nat) (pre : List (Nat × ByteArray)) (W : World) : Prop :=
  W7.grownBy W (some M) ∧ W.heap[M]? = some (.cells #[.int .i64 (nW V pre : Int)] 3 (0, 0))
theorem prefL_seqW {fr : Obj → Bool} {q : Nat → Prop} {w : World} {b B1 B2 W K : Nat} {L : List ByteArray} (key : ByteArray) (h : TabL w b W K L) (hq : q b ∧ q B1 ∧ q B2)
    (h1 : w.heap[B1]? = some (.cells #[.pointer (some ⟨b, 0, none⟩)] 31 (0, 0))) (h2 : w.heap[B2]? = some (.cells #[.string key] 9 (0, 0))) :
    SeqQ Tryd.prog 33 #[.pointer (some ⟨B1, 0, none⟩), .pointer (some ⟨B2, 0, none⟩)] (fun x : Nat × ByteArray => #[.int .i64 x.1, .string x.2]) q fr (fun ys => ys = prefixW K L key) (fun pre => pre <+: prefixW K L key) w := by
  have := prefix_seq (fr := fr) (q := q) (w := w) h.wid (by rw [h.rows]; exact mono_rising h.rise key) hq ⟨h.tab, h1, h2⟩
  rwa [h.rows] at this
end Go.Proofs.YtbkbnkpgldemkaaDoor
