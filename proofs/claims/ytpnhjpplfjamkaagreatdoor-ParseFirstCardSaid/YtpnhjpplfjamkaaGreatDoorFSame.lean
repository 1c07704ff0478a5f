/-
  The document's own answers for package tag: Same.
-/
import Derived.Test.YtpnhjpplfjamkaaGreatDoorFTag
namespace Go.Proofs.YtpnhjpplfjamkaaGreatDoor
open Go Go.RowKit

theorem take_eq_next {α : Type} {l1 l2 : List α} {k : Nat} {x : α} (h : l1.take k = l2.take k) (h1 : l1[k]? = some x) (h2 : l2[k]? = some x) : l1.take (k + 1) = l2.take (k + 1) := by
  rw [take_next h1, take_next h2, h]

set_option maxRecDepth 100000 in
set_option maxHeartbeats 2000000 in
theorem same_rows (v1 v2 : Value) (l1 l2 : List ByteArray) (w : World) (h1 : Row w v1 l1) (h2 : Row w v2 l2) (hb : l1.length ≤ 1048576) :
    Calls Tryz.prog 56 #[v1, v2] w fun e w' => e = .returned (.bool (decide (l1 = l2))) ∧ Below w.heap.size w w' := by
  obtain ⟨a1, c1, rfl, H1⟩ := h1
  obtain ⟨a2, c2, rfl, H2⟩ := h2
  have H1 := Lib.hid H1
  have H2 := Lib.hid H2
  by_cases hn : l1.length = l2.length
  · have HN := Lib.hid hn
    have hni : ((l1.length : Int) != (l2.length : Int)) = false := by rw [hn]; simp
    go_enter Tryz.func56, Tryz.ntmps56
    go_wp2
    go_loopw [5] (fun i wr => ∃ k : Nat, k ≤ l1.length ∧ i = .int .i64 k ∧ Hid (l1.take k = l2.take k) ∧ Below w.heap.size w wr) (fun i _ => l1.length - (intOf i).toNat)
    case atStart => exact ⟨0, Nat.zero_le _, rfl, Lib.hid (by simp), Below.refl _ _⟩
    case round =>
      obtain ⟨k, hk, rfl, HT, hB⟩ := hrel
      by_cases hlt : k < l1.length
      · obtain ⟨p, hp⟩ : ∃ p, l1[k]? = some p := ⟨_, List.getElem?_eq_getElem hlt⟩
        obtain ⟨q, hq⟩ : ∃ q, l2[k]? = some q := ⟨_, List.getElem?_eq_getElem (by omega)⟩
        obtain ⟨g1, rfl, e1'⟩ := H1.out k p hp
        obtain ⟨g2, rfl, e2'⟩ := H2.out k q hq
        have e1 := (hB.cell (p := ⟨g1, k, none⟩) (lt_of_cellF e1')).trans e1'
        have e2 := (hB.cell (p := ⟨g2, k, none⟩) (lt_of_cellF e2')).trans e2'
        have hki : (k : Int) < (l1.length : Int) := by omega
        have hki2 : (k : Int) < (l2.length : Int) := by omega
        have hk0 : (0 : Int) ≤ (k : Int) := by omega
        by_cases hpq : p = q
        · subst hpq
          have HS := Lib.hid (take_eq_next HT.out hp hq)
          clear hp hq e1' e2'
          go_wp2
          go_quiet (fail)
          go_wp2
          go_roundw
          case rel => exact ⟨k + 1, by omega, by go_num, HS, below_drewN hB _⟩
          case measure => simp [intOf]; omega
        · have HD := Lib.hid (show decide (l1 = l2) = false from decide_eq_false (fun e => hpq (by rw [e, hq] at hp; exact (Option.some.inj hp).symm)))
          have hpt := toList_ne hpq
          clear hp hq e1' e2'
          go_wp2
          go_quiet (fail)
          go_wp2
          go_ret
          exact ⟨ret_bool HD.out.symm, below_drewN hB _⟩
      · obtain rfl : k = l1.length := by omega
        have HD := Lib.hid (show decide (l1 = l2) = true from decide_eq_true (by
          have h := HT.out
          rwa [List.take_of_length_le (Nat.le_refl _), List.take_of_length_le (by omega)] at h))
        go_wp2
        go_ret
        exact ⟨ret_bool HD.out.symm, hB⟩
  · have hni : ((l1.length : Int) != (l2.length : Int)) = true := by rw [bne_iff_ne]; omega
    have HD := Lib.hid (show decide (l1 = l2) = false from decide_eq_false (fun e => hn (by rw [e])))
    clear hn
    go_enter Tryz.func56, Tryz.ntmps56
    go_wp2
    go_ret
    exact ⟨ret_bool HD.out.symm, Below.refl _ _⟩
def sameT (A B : TagM) : Bool := (decide (A.extl = B.extl) && (decide (A.vars = B.vars) && decide (A.priv = B.priv))) && ((decide (A.lang = B.lang) && (decide (A.script = B.script) && (decide (A.region = B.region) && decide (A.grand = B.grand)))) && decide (A.exts = B.exts))

end Go.Proofs.YtpnhjpplfjamkaaGreatDoor
