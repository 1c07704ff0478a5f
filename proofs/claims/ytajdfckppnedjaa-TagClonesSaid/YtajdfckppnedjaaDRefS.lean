/-
  The document's own answers for package split: Split.
-/
import Derived.Test.YtajdfckppnedjaaDRef
namespace Go.Proofs.Ytajdfckppnedjaa
open Go Go.RowKit

theorem own_pieces {w : World} {base g n cap : Nat} {l : List (Nat × ByteArray)} (h : w.ownsRow base 57 2 (.slice (some ⟨g, 0, none⟩) n cap) n (pcells l)) : ∀ i x, l[i]? = some x → w.cell? ⟨g, i * 2, none⟩ = some (.int .i64 (x.1 : Int)) ∧ w.cell? ⟨g, i * 2 + 1, none⟩ = some (.string x.2) := fun i x hx => by
  have hl : l.length = n := by have := h.1; rw [pcells_length] at this; omega
  have hi := (List.getElem?_eq_some_iff.1 hx).1
  obtain ⟨h1, h2⟩ := pcells_get hx
  exact ⟨(h.cellAt (i * 2) (by omega)).trans h1, (h.cellAt (i * 2 + 1) (by omega)).trans h2⟩

set_option maxRecDepth 100000 in
set_option maxHeartbeats 4000000 in
theorem split_ref (s : ByteArray) (w : World) (hs : s.size ≤ 1048576) :
    Calls Try.prog 27 #[.string s] w fun e w' => ∃ u, e = .returned u ∧ w'.ownsRow w.heap.size 9 1 u (splS s).length (strs (splS s)) ∧ Below w.heap.size w w' := by
  obtain ⟨i0, hi, hz0, hz1, hz2⟩ := info_parts stringInfo
  obtain ⟨n, hn⟩ : ∃ m, (pieces s).length = m + 1 := ⟨(pieces s).length - 1, by have := splS_pos s; rw [pieces_length]; omega⟩
  have hnb : n ≤ 1048576 := by have := splS_le s; rw [← pieces_length] at this; omega
  have HN := Lib.hid hn
  have E1 := Lib.hid (each_ref s w hs)
  rw [hn] at E1
  clear hn
  go_enter Try.func27, Try.ntmps27
  go_wp2_with (go_at_call 36; ((with_reducible refine E1.out.mono ?_); rintro e w1 ⟨u, rfl, ho, hb1⟩; obtain ⟨g, cap, rfl⟩ := ownsRow_succ ho; have HC := Lib.hid (own_pieces ho); have hg1 : g < w1.heap.size := (ho.lt g rfl).2; clear ho))
  go_loopw [3, 5] (fun o i wr => ∃ k : Nat, k ≤ n + 1 ∧ i = .int .i64 k ∧ wr.ownsRow w1.heap.size 9 1 o k (strs (((pieces s).take k).map (·.2))) ∧ Below w1.heap.size w1 wr) (fun _ i _ => n + 1 - (intOf i).toNat)
  case atStart => exact ⟨0, Nat.zero_le _, rfl, World.ownsRow_nil _ _ _ _, Below.refl _ _⟩
  case round =>
    obtain ⟨k, hk, rfl, hown, hB⟩ := hrel
    have HO := Lib.hid hown
    have hsz : w1.heap.size ≤ wr.heap.size := hB.size
    rcases Nat.lt_or_ge k (n + 1) with hlt | hge
    · have hkl : k < (pieces s).length := by rw [HN.out]; exact hlt
      obtain ⟨x, hx⟩ : ∃ x, (pieces s)[k] = x := ⟨_, rfl⟩
      have hc2 : wr.cell? ⟨g, k * 2 + 1, none⟩ = some (.string x.2) := (hB.cell (p := ⟨g, k * 2 + 1, none⟩) hg1).trans (HC.out k x (by rw [List.getElem?_eq_getElem hkl, hx])).2
      have HS := Lib.hid (show strs (((pieces s).take (k + 1)).map (·.2)) = strs (((pieces s).take k).map (·.2)) ++ [.string x.2] by
        rw [List.take_succ_eq_append_getElem hkl, List.map_append, strs_append, hx]; rfl)
      have hki : (k : Int) < (n : Int) + 1 := by omega
      have hk0 : (0 : Int) ≤ (k : Int) := by omega
      clear hown hx hkl
      go_wp2_with (at_builtin; refine wpList_append_own _ rfl _ _ 25 rfl w1.heap.size 9 i0 (.string ByteArray.empty) 1 16 Try.underlying25 hi hz0 hz1 hz2 rfl (by decide) _ k _ rfl (HO.out.alloc _) ⟨wr.heap.size, 0, none⟩ 1 1 [.string x.2] rfl rfl (cell_one_new _ _ _) (by intro u hu; simp at hu; subst hu; rfl) (by unfold maxLen; omega) (by omega) (by simp; omega) ?_; intro v' w2 hown1 hgrow _)
      go_roundw
      case rel => exact ⟨k + 1, by omega, by go_num, by rw [HS.out]; exact hown1, (hB.alloc hB.size _).grown hgrow (by simp; omega) (fun r e => (HO.out.lt r e).1)⟩
      case measure => simp [intOf]; omega
    · obtain rfl : k = n + 1 := by omega
      have hall : (pieces s).take (n + 1) = pieces s := List.take_of_length_le (by rw [HN.out]; exact Nat.le_refl _)
      have HF := Lib.hid (show wr.ownsRow w1.heap.size 9 1 u3 (splS s).length (strs (splS s)) by
        have h := HO.out
        rw [hall, pieces_map] at h
        rw [← pieces_length, HN.out]; exact h)
      clear hown hall
      go_wp2
      go_ret
      exact ⟨_, rfl, own_lower HF.out hb1.size, hb1.trans (hB.mono hb1.size)⟩
end Go.Proofs.Ytajdfckppnedjaa
