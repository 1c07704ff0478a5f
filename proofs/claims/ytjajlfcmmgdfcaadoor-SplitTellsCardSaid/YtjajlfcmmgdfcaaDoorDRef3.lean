/-
  The document's own answers for package split: Trim, Sub, Check.
-/
import Derived.Test.YtjajlfcmmgdfcaaDoorDRef2
import Derived.Test.YtjajlfcmmgdfcaaDoorLrow
namespace Go.Proofs.YtjajlfcmmgdfcaaDoor
open Go Go.RowKit

theorem take_dropLast_strip (ps : List (List UInt8)) (m : Nat) (h : m + 2 ≤ ps.length) {p : List UInt8} (hp : ps[m + 1]? = some p) : stripP (ps.take (m + 2)) = if p.length = 1 then stripP (ps.take (m + 1)) else ps.take (m + 2) := by
  obtain ⟨hm, he⟩ := List.getElem?_eq_some_iff.1 hp
  have e : ps.take (m + 2) = ps.take (m + 1) ++ [p] := by rw [show m + 2 = m + 1 + 1 from rfl, List.take_succ_eq_append_getElem hm, he]
  rw [e, stripP_snoc (fun e => by have h' := congrArg List.length e; rw [List.length_take, Nat.min_eq_left (by omega)] at h'; simp at h')]
theorem strip_small (ps : List (List UInt8)) (m : Nat) (h : m ≤ 1) : stripP (ps.take m) = ps.take m := by
  rcases m with _ | m
  · rfl
  · obtain rfl : m = 0 := by omega
    cases ps with
    | nil => rfl
    | cons p r => rfl
theorem trimS_take {s : ByteArray} {m : Nat} (h : stripP (spl (bs s)).dropLast = (spl (bs s)).take m) : joinS ((splS s).take m) = trimS s := by
  unfold joinS trimS trimL splS
  rw [h, ← List.map_take, map_bs_ofL]

set_option maxRecDepth 100000 in
set_option maxHeartbeats 8000000 in
theorem trim_ref (s : ByteArray) (w : World) (hs : s.size ≤ 1000) :
    Calls Tryd.prog 22 #[.string s] w fun e w' => e = .returned (.string (trimS s)) ∧ Below w.heap.size w w' := by
  obtain ⟨n, hn⟩ : ∃ m, (splS s).length = m + 1 := ⟨(splS s).length - 1, by have := splS_pos s; omega⟩
  have hnb : n ≤ 1000 := by have := splS_le s; omega
  have HN := Lib.hid hn
  have hn2 : (spl (bs s)).length = n + 1 := by rw [← splS_length]; exact hn
  have HN2 := Lib.hid hn2
  have E1 := Lib.hid (split_ref s w (by omega))
  rw [hn] at E1
  have HSZ := Lib.hid (fun p (hp : p ∈ splS s) => Nat.le_trans (splS_size s p hp) (Nat.le_trans hs (by omega : 1000 ≤ 1024)))
  have hdl : (spl (bs s)).dropLast = (spl (bs s)).take n := by rw [List.dropLast_eq_take, hn2, Nat.add_sub_cancel]
  have HD := Lib.hid hdl
  clear hn hn2 hdl
  go_enter Tryd.func22, Tryd.ntmps22
  go_wp2_with (go_at_call 15; ((with_reducible refine E1.out.mono ?_); rintro e w1 ⟨u, rfl, ho, hb1⟩; obtain ⟨g, cap, rfl⟩ := ownsRow_succ ho; have HC := Lib.hid (own_cell ho); have hcap : ((n : Int) + 1 ≤ (cap : Int)) := (by have := own_cap ho; omega); have hcap2 : ((n : Int) ≤ (cap : Int)) := (by have := own_cap ho; omega); have hn0 : (0 : Int) ≤ (n : Int) := (by omega); clear ho))
  go_loop [3] (fun x => ∃ m : Nat, m ≤ n ∧ x = .slice (some ⟨g, 0, none⟩) m cap ∧ Hid (stripP (spl (bs s)).dropLast = stripP ((spl (bs s)).take m))) (fun x => match x with | .slice _ m _ => m | _ => 0)
  case atStart => exact ⟨n, Nat.le_refl _, rfl, Lib.hid (by rw [HD.out])⟩
  case round =>
    obtain ⟨m, hm, rfl, HT⟩ := hrel
    have JR := Lib.hid (fun w5 (hc : ∀ i p, (splS s)[i]? = some p → w5.cell? ⟨g, i, none⟩ = some (.string p)) => join_ref g m cap (splS s) w5 (by rw [HN.out]; omega) (by rw [HN.out]; omega) HSZ.out hc)
    rcases Nat.lt_or_ge 1 m with h1 | h1
    · obtain ⟨j, rfl⟩ : ∃ j, m = j + 2 := ⟨m - 2, by omega⟩
      have hjl : j + 1 < (spl (bs s)).length := by rw [HN2.out]; omega
      obtain ⟨p, hp⟩ : ∃ p, (spl (bs s))[j + 1]? = some p := ⟨_, List.getElem?_eq_getElem hjl⟩
      have hst := take_dropLast_strip (spl (bs s)) j (by omega) hp
      have hcj := HC.out (j + 1) (ofL p) (by unfold splS; rw [List.getElem?_map, hp]; rfl)
      have hj0 : (0 : Int) ≤ (j : Int) := by omega
      have hjb : (j : Int) ≤ 1000 := by omega
      have hjc : (j : Int) + 1 ≤ (cap : Int) := by omega
      have hjn : (j : Int) + 2 ≤ (n : Int) := by omega
      have hsz : ((ofL p).size : Int) = (p.length : Int) := by rw [size_ofL]
      have HP := Lib.hid hp
      by_cases hl : p.length = 1
      · rw [if_pos hl] at hst
        have e1 : (((ofL p).size : Int) == 1) = true := by rw [hsz, hl]; rfl
        have HS := Lib.hid (HT.out.trans hst)
        clear hst hl hsz hp hjl
        go_wp2
        go_round
        case rel => exact ⟨j + 1, by omega, rfl, HS⟩
        case measure => show j + 1 < j + 2; omega
      · rw [if_neg hl] at hst
        have e1 : (((ofL p).size : Int) == 1) = false := by rw [hsz, beq_eq_false_iff_ne]; omega
        have HS := Lib.hid (trimS_take (HT.out.trans hst))
        clear hst hl hsz hp hjl
        go_wp2_with (go_at_call 35; refine (JR.out _ HC.out).mono ?_; rintro e w' ⟨rfl, rfl⟩)
        go_ret
        exact ⟨ret_string HS.out, hb1⟩
    · have HS := Lib.hid (trimS_take (HT.out.trans (strip_small _ m h1)))
      have h1i : ¬ (1 : Int) < (m : Int) := by omega
      go_wp2_with (go_at_call 35; refine (JR.out _ HC.out).mono ?_; rintro e w' ⟨rfl, rfl⟩)
      go_ret
      exact ⟨ret_string HS.out, hb1⟩

theorem class_pos (s : ByteArray) : decide ((0 : Int) < classS s) = alnumS s := by
  obtain ⟨c, a, d, n, h⟩ := classIs s
  cases h with
  | none h0 h1 h2 h3 => rw [h0, h3]; rfl
  | alpha h0 h1 h2 h3 => rw [h0, h3]; rfl
  | digit h0 h1 h2 h3 => rw [h0, h3]; rfl
  | alnum h0 h1 h2 h3 => rw [h0, h3]; rfl
set_option maxHeartbeats 1000000 in
theorem sub_ref (s : ByteArray) (w : World) (hs : s.size ≤ 1048576) :
    Calls Tryd.prog 29 #[.string s] w fun e w' => e = .returned (.bool (okS s)) ∧ w = w' := by
  have C1 := Lib.hid (fun w5 => class_ref s w5 (by omega))
  have hcp := class_pos s
  by_cases h8 : s.size ≤ 8
  · have h8i : (s.size : Int) ≤ 8 := by omega
    have HE := Lib.hid (show okS s = alnumS s by unfold okS; rw [decide_eq_true h8, Bool.true_and])
    generalize alnumS s = t at *
    generalize classS s = c at *
    have HCP := Lib.hid hcp
    clear h8
    cases t
    · have hc0 : ¬ (0 : Int) < c := by simpa using hcp
      clear hcp
      go_enter Tryd.func29, Tryd.ntmps29
      go_wp2_with (go_at_call 40; refine (C1.out _).mono ?_; rintro e w' ⟨rfl, rfl⟩)
      go_ret
      exact ⟨ret_bool (by rw [HE.out]; exact HCP.out), rfl⟩
    · have hc0 : (0 : Int) < c := by simpa using hcp
      clear hcp
      go_enter Tryd.func29, Tryd.ntmps29
      go_wp2_with (go_at_call 40; refine (C1.out _).mono ?_; rintro e w' ⟨rfl, rfl⟩)
      go_ret
      exact ⟨ret_bool HE.out.symm, rfl⟩
  · have h8i : ¬ (s.size : Int) ≤ 8 := by omega
    have HE := Lib.hid (show okS s = false by unfold okS; rw [decide_eq_false h8, Bool.false_and])
    clear h8 hcp
    go_enter Tryd.func29, Tryd.ntmps29
    go_wp2
    go_ret
    exact ⟨ret_bool HE.out.symm, rfl⟩

theorem badOf_succ {l : List (Nat × ByteArray)} {k : Nat} {x : Nat × ByteArray} (h : l[k]? = some x) (hb : badOf (l.take k) = none) : badOf (l.take (k + 1)) = if okS x.2 then none else some x.1 := by
  obtain ⟨hk, he⟩ := List.getElem?_eq_some_iff.1 h
  rw [List.take_succ_eq_append_getElem hk, he, badOf_append, if_pos hb]
  rfl
theorem badOf_full {l : List (Nat × ByteArray)} {k : Nat} {a : Nat} (h : badOf (l.take k) = some a) : badOf l = some a := by
  conv => lhs; rw [← List.take_append_drop k l]
  rw [badOf_append, h]; rfl

theorem got_end {w w1 : World} {p q : Value} {k a : Int} (hq : w1.heap[w.heap.size]? = some (.cells #[p, q] 39 (0, 0))) (hB : Below w.heap.size w w1) :
    ((w1.setCell ⟨w.heap.size, 0, none⟩ (.int .i64 k)).setCell ⟨w.heap.size, 1, none⟩ (.int .i64 a)).cell? ⟨w.heap.size, 0, none⟩ = some (.int .i64 k) ∧
    ((w1.setCell ⟨w.heap.size, 0, none⟩ (.int .i64 k)).setCell ⟨w.heap.size, 1, none⟩ (.int .i64 a)).cell? ⟨w.heap.size, 1, none⟩ = some (.int .i64 a) ∧
    Below w.heap.size w ((w1.setCell ⟨w.heap.size, 0, none⟩ (.int .i64 k)).setCell ⟨w.heap.size, 1, none⟩ (.int .i64 a)) := by
  obtain ⟨c0, c1, _, _⟩ := two_cells (two_setCell1 (.int .i64 a) (two_setCell (.int .i64 k) hq))
  exact ⟨c0, c1, (hB.setCell (p := ⟨w.heap.size, 0, none⟩) (Nat.le_refl _) _).setCell (p := ⟨w.heap.size, 1, none⟩) (Nat.le_refl _) _⟩

set_option maxRecDepth 100000 in
set_option maxHeartbeats 4000000 in
theorem check_ref (s : ByteArray) (w : World) (hs : s.size ≤ 1048576) :
    Calls Tryd.prog 17 #[.string s] w fun e w' => e = .returned (.agg #[.int .i64 (kindE s), .int .i64 (placeE s)]) ∧ Below w.heap.size w w' := by
  obtain ⟨n, hn⟩ : ∃ m, (pieces s).length = m + 1 := ⟨(pieces s).length - 1, by have := splS_pos s; rw [pieces_length]; omega⟩
  have hnb : n ≤ 1048576 := by have := splS_le s; rw [← pieces_length] at this; omega
  have HN := Lib.hid hn
  have E1 := Lib.hid (fun w5 => each_ref s w5 hs)
  rw [hn] at E1
  clear hn
  go_enter Tryd.func17, Tryd.ntmps17
  go_wp2_with (go_at_call 11; ((with_reducible refine (E1.out _).mono ?_); rintro e w1 ⟨u, rfl, ho, hb1⟩; obtain ⟨g, cap, rfl⟩ := ownsRow_succ ho; have HC := Lib.hid (own_pieces ho); have hg1 : g < w1.heap.size := (ho.lt g rfl).2; clear ho))
  have hq1 := (hb1.block w.heap.size (by simp)).trans (World.alloc_heap_new w _)
  have hB1 : Below w.heap.size w w1 := ((Below.refl _ w).alloc (Nat.le_refl _) _).trans (hb1.mono (by simp))
  have HQ := Lib.hid hq1
  have hsz1 := lt_of_block hq1
  clear hb1 hq1
  go_loop [4] (fun i => ∃ k : Nat, k ≤ n + 1 ∧ i = .int .i64 k ∧ badOf ((pieces s).take k) = none) (fun i => n + 1 - (intOf i).toNat)
  case atStart => exact ⟨0, Nat.zero_le _, rfl, rfl⟩
  case round =>
    obtain ⟨k, hk, rfl, hbad⟩ := hrel
    rcases Nat.lt_or_ge k (n + 1) with hlt | hge
    · have hkl : k < (pieces s).length := by rw [HN.out]; exact hlt
      obtain ⟨x, hx⟩ : ∃ x, (pieces s)[k]? = some x := ⟨_, List.getElem?_eq_getElem hkl⟩
      obtain ⟨hc1, hc2⟩ := HC.out k x hx
      have hbs := badOf_succ hx hbad
      have hxs : x.2.size ≤ 1048576 := by
        have hm : x.2 ∈ splS s := by rw [← pieces_map]; exact List.mem_map.2 ⟨x, List.mem_of_getElem? hx, rfl⟩
        exact Nat.le_trans (splS_size s _ hm) hs
      have SB := Lib.hid (fun w5 => sub_ref x.2 w5 hxs)
      have hki : (k : Int) < (n : Int) + 1 := by omega
      have hk0 : (0 : Int) ≤ (k : Int) := by omega
      rcases hok : okS x.2 with _ | _
      · rw [hok] at SB hbs
        have hf := badOf_full hbs
        have HK := Lib.hid (show kindE s = 10 by unfold kindE chkS; rw [hf]; rfl)
        have HP := Lib.hid (show placeE s = (x.1 : Int) by unfold placeE chkS; rw [hf])
        obtain ⟨d0, d1, f0, f1⟩ := two_cells HQ.out
        clear hok hbs hf hbad hx hkl
        go_wp2_with (go_at_call 29; refine (SB.out _).mono ?_; rintro e w' ⟨rfl, rfl⟩)
        obtain ⟨c0, c1, hBe⟩ := got_end (k := 10) (a := (x.1 : Int)) HQ.out hB1
        refine bodyPost_ret (v := .agg #[.int .i64 10, .int .i64 (x.1 : Int)]) (by simp [results, Tryd.results17, go_sem, c0, c1]) rfl ⟨by rw [HK.out, HP.out], hBe⟩
      · rw [hok] at SB hbs
        have HS := Lib.hid hbs
        clear hok hbs hbad hx hkl
        go_wp2_with (go_at_call 29; refine (SB.out _).mono ?_; rintro e w' ⟨rfl, rfl⟩)
        go_round
        case rel => exact ⟨k + 1, by omega, by go_num, HS.out⟩
        case measure => simp [intOf]; omega
    · obtain rfl : k = n + 1 := by omega
      rw [List.take_of_length_le (by rw [HN.out]; exact Nat.le_refl _)] at hbad
      have HK := Lib.hid (show kindE s = 0 by unfold kindE chkS; rw [hbad]; rfl)
      have HP := Lib.hid (show placeE s = -1 by unfold placeE chkS; rw [hbad])
      obtain ⟨d0, d1, f0, f1⟩ := two_cells HQ.out
      clear hbad
      go_wp2
      obtain ⟨c0, c1, hBe⟩ := got_end (k := 0) (a := -1) HQ.out hB1
      refine bodyPost_ret (v := .agg #[.int .i64 0, .int .i64 (-1)]) (by simp [results, Tryd.results17, go_sem, c0, c1]) rfl ⟨by rw [HK.out, HP.out], hBe⟩
end Go.Proofs.YtjajlfcmmgdfcaaDoor
