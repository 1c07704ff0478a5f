/-
  The document's Same: are two rows of texts the same?
-/
import Derived.Test.YtajdfckppnedjaaDSplit
import Derived.Deep.QuietTactic
import Derived.BigQuiet
namespace Go.Proofs.Ytajdfckppnedjaa
open Go Go.RowKit

theorem own_lower {w : World} {base base' : Nat} {e : TypeId} {size : Nat} {v : Value} {n : Nat} {xs : List Value} (h : w.ownsRow base e size v n xs) (hb : base' ≤ base) : w.ownsRow base' e size v n xs := by
  obtain ⟨h1, h2⟩ := h
  refine ⟨h1, ?_⟩
  rcases h2 with h2 | ⟨g, cap, cur, a, b, c⟩
  · exact .inl h2
  · exact .inr ⟨g, cap, cur, a, by omega, c⟩
theorem own_below {w w' : World} {base : Nat} {e : TypeId} {size : Nat} {v : Value} {n : Nat} {xs : List Value} (h : w.ownsRow base e size v n xs) (hb : Below w.heap.size w w') : w'.ownsRow base e size v n xs :=
  h.kept (grown_of_below hb) (by cases hv : v.ownBlock <;> simp)
theorem strs_get {l : List ByteArray} {k : Nat} {p : ByteArray} (h : l[k]? = some p) : (strs l)[k]? = some (.string p) := by
  unfold strs; rw [List.getElem?_map, h]; rfl
theorem own_cell {w : World} {base g cap n : Nat} {l : List ByteArray} (h : w.ownsRow base 9 1 (.slice (some ⟨g, 0, none⟩) n cap) n (strs l)) : ∀ i p, l[i]? = some p → w.cell? ⟨g, i, none⟩ = some (.string p) := fun i p hp => by
  have hl : l.length = n := by have := h.1; rw [strs_length] at this; omega
  have hi := (List.getElem?_eq_some_iff.1 hp).1
  exact (h.cellAt i (by omega)).trans (strs_get hp)

theorem toList_ne {p q : ByteArray} (h : ¬ p = q) : (p.toList == q.toList) = false := by
  rw [beq_eq_false_iff_ne, ByteArray.toList_eq, ByteArray.toList_eq]
  exact fun e => h (ofL_ext e)
theorem take_eq_succ {l1 l2 : List ByteArray} {k : Nat} (h : l1.take k = l2.take k) (h1 : k < l1.length) (h2 : k < l2.length) (e : l1[k] = l2[k]) : l1.take (k + 1) = l2.take (k + 1) := by
  rw [List.take_succ_eq_append_getElem h1, List.take_succ_eq_append_getElem h2, h, e]

set_option maxHeartbeats 2000000 in
theorem same_texts (g1 g2 c1 c2 n1 n2 : Nat) (l1 l2 : List ByteArray) (w : World) (hn1 : l1.length = n1) (hn2 : l2.length = n2) (hb : n1 ≤ 1048576)
    (h1 : ∀ i p, l1[i]? = some p → w.cell? ⟨g1, i, none⟩ = some (.string p)) (h2 : ∀ i p, l2[i]? = some p → w.cell? ⟨g2, i, none⟩ = some (.string p)) :
    Calls Try.prog 32 #[.slice (some ⟨g1, 0, none⟩) n1 c1, .slice (some ⟨g2, 0, none⟩) n2 c2] w fun e w' => e = .returned (.bool (decide (l1 = l2))) ∧ Below w.heap.size w w' := by
  have H1 := Lib.hid h1
  have H2 := Lib.hid h2
  clear h1 h2
  by_cases hn : n1 = n2
  · subst hn
    have HN1 := Lib.hid hn1
    have HN2 := Lib.hid hn2
    clear hn1 hn2
    go_enter Try.func32, Try.ntmps32
    go_wp2
    go_loopw [5] (fun i wr => ∃ k : Nat, k ≤ n1 ∧ i = .int .i64 k ∧ Hid (l1.take k = l2.take k) ∧ Below w.heap.size w wr) (fun i _ => n1 - (intOf i).toNat)
    case atStart => exact ⟨0, Nat.zero_le _, rfl, Lib.hid (by simp), Below.refl _ _⟩
    case round =>
      obtain ⟨k, hk, rfl, HT, hB⟩ := hrel
      by_cases hlt : k < n1
      · have hk1 : k < l1.length := by rw [HN1.out]; exact hlt
        have hk2 : k < l2.length := by rw [HN2.out]; exact hlt
        obtain ⟨p, hp⟩ : ∃ p, l1[k] = p := ⟨_, rfl⟩
        obtain ⟨q, hq⟩ : ∃ q, l2[k] = q := ⟨_, rfl⟩
        have e1 : wr.cell? ⟨g1, k, none⟩ = some (.string p) := by
          have h := H1.out k p (by rw [List.getElem?_eq_getElem hk1, hp])
          exact (hB.cell (p := ⟨g1, k, none⟩) (lt_of_cell h)).trans h
        have e2 : wr.cell? ⟨g2, k, none⟩ = some (.string q) := by
          have h := H2.out k q (by rw [List.getElem?_eq_getElem hk2, hq])
          exact (hB.cell (p := ⟨g2, k, none⟩) (lt_of_cell h)).trans h
        have hki : (k : Int) < (n1 : Int) := by omega
        have hk0 : (0 : Int) ≤ (k : Int) := by omega
        by_cases hpq : p = q
        · subst hpq
          have HS := Lib.hid (take_eq_succ HT.out hk1 hk2 (by rw [hp, hq]))
          clear hp hq hk1 hk2
          go_wp2
          go_quiet (fail)
          go_wp2
          go_roundw
          case rel => exact ⟨k + 1, by omega, by go_num, HS, below_drewN hB _⟩
          case measure => simp [intOf]; omega
        · have HD := Lib.hid (show decide (l1 = l2) = false from decide_eq_false (fun e => hpq (by rw [← hp, ← hq]; simp [e])))
          have hpt := toList_ne hpq
          clear hp hq hk1 hk2
          go_wp2
          go_quiet (fail)
          go_wp2
          go_ret
          exact ⟨ret_bool HD.out.symm, below_drewN hB _⟩
      · obtain rfl : k = n1 := by omega
        have HD := Lib.hid (show decide (l1 = l2) = true from decide_eq_true (by
          have := HT.out
          rwa [List.take_of_length_le (by rw [HN1.out]; exact Nat.le_refl _), List.take_of_length_le (by rw [HN2.out]; exact Nat.le_refl _)] at this))
        go_wp2
        go_ret
        exact ⟨ret_bool HD.out.symm, hB⟩
  · have HD := Lib.hid (show decide (l1 = l2) = false from decide_eq_false (fun e => hn (by rw [← hn1, ← hn2, e])))
    have hne : ((n1 : Int) != (n2 : Int)) = true := by simp; omega
    clear hn1 hn2 hn
    go_enter Try.func32, Try.ntmps32
    go_wp2
    go_ret
    exact ⟨ret_bool HD.out.symm, Below.refl _ _⟩
end Go.Proofs.Ytajdfckppnedjaa
