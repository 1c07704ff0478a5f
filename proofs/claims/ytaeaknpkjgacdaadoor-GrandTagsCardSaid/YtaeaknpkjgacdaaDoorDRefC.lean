/-
  The document's own answers for package split: Sub, Check.
-/
import Derived.Test.YtaeaknpkjgacdaaDoorDRefS
import Derived.Test.YtaeaknpkjgacdaaDoorLrow
namespace Go.Proofs.YtaeaknpkjgacdaaDoor
open Go Go.RowKit

theorem class_pos (s : ByteArray) : decide ((0 : Int) < classS s) = alnumS s := by
  obtain ⟨c, a, d, n, h⟩ := classIs s
  cases h with
  | none h0 h1 h2 h3 => rw [h0, h3]; rfl
  | alpha h0 h1 h2 h3 => rw [h0, h3]; rfl
  | digit h0 h1 h2 h3 => rw [h0, h3]; rfl
  | alnum h0 h1 h2 h3 => rw [h0, h3]; rfl
set_option maxHeartbeats 1000000 in
theorem sub_ref (s : ByteArray) (w : World) (hs : s.size ≤ 1048576) :
    Calls Tryd.prog 29 #[.string s] w fun e w' => e = .returned (.bool (okS s)) ∧ w = w' := by
  have C1 := Lib.hid (fun w5 => class_ref s w5 (by omega))
  have hcp := class_pos s
  by_cases h8 : s.size ≤ 8
  · have h8i : (s.size : Int) ≤ 8 := by omega
    have HE := Lib.hid (show okS s = alnumS s by unfold okS; rw [decide_eq_true h8, Bool.true_and])
    generalize alnumS s = t at *
    generalize classS s = c at *
    have HCP := Lib.hid hcp
    clear h8
    cases t
    · have hc0 : ¬ (0 : Int) < c := by simpa using hcp
      clear hcp
      go_enter Tryd.func29, Tryd.ntmps29
      go_wp2_with (go_at_call 34; refine (C1.out _).mono ?_; rintro e w' ⟨rfl, rfl⟩)
      go_ret
      exact ⟨ret_bool (by rw [HE.out]; exact HCP.out), rfl⟩
    · have hc0 : (0 : Int) < c := by simpa using hcp
      clear hcp
      go_enter Tryd.func29, Tryd.ntmps29
      go_wp2_with (go_at_call 34; refine (C1.out _).mono ?_; rintro e w' ⟨rfl, rfl⟩)
      go_ret
      exact ⟨ret_bool HE.out.symm, rfl⟩
  · have h8i : ¬ (s.size : Int) ≤ 8 := by omega
    have HE := Lib.hid (show okS s = false by unfold okS; rw [decide_eq_false h8, Bool.false_and])
    clear h8 hcp
    go_enter Tryd.func29, Tryd.ntmps29
    go_wp2
    go_ret
    exact ⟨ret_bool HE.out.symm, rfl⟩

theorem badOf_succ {l : List (Nat × ByteArray)} {k : Nat} {x : Nat × ByteArray} (h : l[k]? = some x) (hb : badOf (l.take k) = none) : badOf (l.take (k + 1)) = if okS x.2 then none else some x.1 := by
  obtain ⟨hk, he⟩ := List.getElem?_eq_some_iff.1 h
  rw [List.take_succ_eq_append_getElem hk, he, badOf_append, if_pos hb]
  rfl
theorem badOf_full {l : List (Nat × ByteArray)} {k : Nat} {a : Nat} (h : badOf (l.take k) = some a) : badOf l = some a := by
  conv => lhs; rw [← List.take_append_drop k l]
  rw [badOf_append, h]; rfl

theorem got_end {w w1 : World} {p q : Value} {k a : Int} (hq : w1.heap[w.heap.size]? = some (.cells #[p, q] 44 (0, 0))) (hB : Below w.heap.size w w1) :
    ((w1.setCell ⟨w.heap.size, 0, none⟩ (.int .i64 k)).setCell ⟨w.heap.size, 1, none⟩ (.int .i64 a)).cell? ⟨w.heap.size, 0, none⟩ = some (.int .i64 k) ∧
    ((w1.setCell ⟨w.heap.size, 0, none⟩ (.int .i64 k)).setCell ⟨w.heap.size, 1, none⟩ (.int .i64 a)).cell? ⟨w.heap.size, 1, none⟩ = some (.int .i64 a) ∧
    Below w.heap.size w ((w1.setCell ⟨w.heap.size, 0, none⟩ (.int .i64 k)).setCell ⟨w.heap.size, 1, none⟩ (.int .i64 a)) := by
  obtain ⟨c0, c1, _, _⟩ := two_cells (two_setCell1 (.int .i64 a) (two_setCell (.int .i64 k) hq))
  exact ⟨c0, c1, (hB.setCell (p := ⟨w.heap.size, 0, none⟩) (Nat.le_refl _) _).setCell (p := ⟨w.heap.size, 1, none⟩) (Nat.le_refl _) _⟩

set_option maxRecDepth 100000 in
set_option maxHeartbeats 4000000 in
theorem check_ref (s : ByteArray) (w : World) (hs : s.size ≤ 1048576) :
    Calls Tryd.prog 21 #[.string s] w fun e w' => e = .returned (.agg #[.int .i64 (kindE s), .int .i64 (placeE s)]) ∧ Below w.heap.size w w' := by
  obtain ⟨n, hn⟩ : ∃ m, (pieces s).length = m + 1 := ⟨(pieces s).length - 1, by have := splS_pos s; rw [pieces_length]; omega⟩
  have hnb : n ≤ 1048576 := by have := splS_le s; rw [← pieces_length] at this; omega
  have HN := Lib.hid hn
  have E1 := Lib.hid (fun w5 => each_ref s w5 hs)
  rw [hn] at E1
  clear hn
  go_enter Tryd.func21, Tryd.ntmps21
  go_wp2_with (go_at_call 27; ((with_reducible refine (E1.out _).mono ?_); rintro e w1 ⟨u, rfl, ho, hb1⟩; obtain ⟨g, cap, rfl⟩ := ownsRow_succ ho; have HC := Lib.hid (own_pieces ho); have hg1 : g < w1.heap.size := (ho.lt g rfl).2; clear ho))
  have hq1 := (hb1.block w.heap.size (by simp)).trans (World.alloc_heap_new w _)
  have hB1 : Below w.heap.size w w1 := ((Below.refl _ w).alloc (Nat.le_refl _) _).trans (hb1.mono (by simp))
  have HQ := Lib.hid hq1
  have hsz1 := lt_of_block hq1
  clear hb1 hq1
  go_loop [4] (fun i => ∃ k : Nat, k ≤ n + 1 ∧ i = .int .i64 k ∧ badOf ((pieces s).take k) = none) (fun i => n + 1 - (intOf i).toNat)
  case atStart => exact ⟨0, Nat.zero_le _, rfl, rfl⟩
  case round =>
    obtain ⟨k, hk, rfl, hbad⟩ := hrel
    rcases Nat.lt_or_ge k (n + 1) with hlt | hge
    · have hkl : k < (pieces s).length := by rw [HN.out]; exact hlt
      obtain ⟨x, hx⟩ : ∃ x, (pieces s)[k]? = some x := ⟨_, List.getElem?_eq_getElem hkl⟩
      obtain ⟨hc1, hc2⟩ := HC.out k x hx
      have hbs := badOf_succ hx hbad
      have hxs : x.2.size ≤ 1048576 := by
        have hm : x.2 ∈ splS s := by rw [← pieces_map]; exact List.mem_map.2 ⟨x, List.mem_of_getElem? hx, rfl⟩
        exact Nat.le_trans (splS_size s _ hm) hs
      have SB := Lib.hid (fun w5 => sub_ref x.2 w5 hxs)
      have hki : (k : Int) < (n : Int) + 1 := by omega
      have hk0 : (0 : Int) ≤ (k : Int) := by omega
      rcases hok : okS x.2 with _ | _
      · rw [hok] at SB hbs
        have hf := badOf_full hbs
        have HK := Lib.hid (show kindE s = 10 by unfold kindE chkS; rw [hf]; rfl)
        have HP := Lib.hid (show placeE s = (x.1 : Int) by unfold placeE chkS; rw [hf])
        obtain ⟨d0, d1, f0, f1⟩ := two_cells HQ.out
        clear hok hbs hf hbad hx hkl
        go_wp2_with (go_at_call 29; refine (SB.out _).mono ?_; rintro e w' ⟨rfl, rfl⟩)
        obtain ⟨c0, c1, hBe⟩ := got_end (k := 10) (a := (x.1 : Int)) HQ.out hB1
        refine bodyPost_ret (v := .agg #[.int .i64 10, .int .i64 (x.1 : Int)]) (by simp [results, Tryd.results21, go_sem, c0, c1]) rfl ⟨by rw [HK.out, HP.out], hBe⟩
      · rw [hok] at SB hbs
        have HS := Lib.hid hbs
        clear hok hbs hbad hx hkl
        go_wp2_with (go_at_call 29; refine (SB.out _).mono ?_; rintro e w' ⟨rfl, rfl⟩)
        go_round
        case rel => exact ⟨k + 1, by omega, by go_num, HS.out⟩
        case measure => simp [intOf]; omega
    · obtain rfl : k = n + 1 := by omega
      rw [List.take_of_length_le (by rw [HN.out]; exact Nat.le_refl _)] at hbad
      have HK := Lib.hid (show kindE s = 0 by unfold kindE chkS; rw [hbad]; rfl)
      have HP := Lib.hid (show placeE s = -1 by unfold placeE chkS; rw [hbad])
      obtain ⟨d0, d1, f0, f1⟩ := two_cells HQ.out
      clear hbad
      go_wp2
      obtain ⟨c0, c1, hBe⟩ := got_end (k := 0) (a := -1) HQ.out hB1
      refine bodyPost_ret (v := .agg #[.int .i64 0, .int .i64 (-1)]) (by simp [results, Tryd.results21, go_sem, c0, c1]) rfl ⟨by rw [HK.out, HP.out], hBe⟩
end Go.Proofs.YtaeaknpkjgacdaaDoor
