/-
  Package render: Lower, String; the document's Case, String.
-/
import Derived.Test.YtggfdmhfcpabdaaQKit
import Derived.Test.YtggfdmhfcpabdaaKTags
import Derived.Test.YtggfdmhfcpabdaaLSubtags
namespace Go.Proofs.Ytggfdmhfcpabdaa
open Go Go.RowKit

theorem take_snoc8 {α : Type} {l : List α} {k : Nat} {x : α} (h : l[k]? = some x) : l.take (k + 1) = l.take k ++ [x] := by
  obtain ⟨hk, rfl⟩ := List.getElem?_eq_some_iff.1 h
  exact List.take_succ_eq_append_getElem hk
theorem sgl_succ8 {l : List ByteArray} {k : Nat} {p : ByteArray} (h : l[k]? = some p) : sglL (l.take (k + 1)) = (sglL (l.take k) || oneB p) := by rw [take_snoc8 h, sglL_snoc]
theorem empty_take {l : List ByteArray} {k : Nat} {p : ByteArray} (h : l[k]? = some p) : (l.take k).isEmpty = decide (k = 0) := by
  cases k with
  | zero => rfl
  | succ k => cases l with
    | nil => simp at h
    | cons a r => simp
theorem case_succ8 {l : List ByteArray} {k : Nat} {p : ByteArray} (h : l[k]? = some p) : caseT (l.take (k + 1)) = caseT (l.take k) ++ [turnS (decide (k = 0) || (sglL (l.take k) || oneB p)) p] := by
  rw [take_snoc8 h, caseT_snoc, empty_take h]

set_option maxRecDepth 100000 in
theorem joinNone8 (w : World) :
    Calls Try.prog 13 #[.slice none 0 0] w fun e w' => e = .returned (.string (joinS [])) ∧ w = w' := by
  go_enter Try.func13, Try.ntmps13
  go_wp2
  go_loop [3, 4] (fun t i => i = .int .i64 0 ∧ t = .string ⟨#[]⟩) (fun _ _ => 0)
  case atStart => exact ⟨rfl, rfl⟩
  case round =>
    obtain ⟨rfl, rfl⟩ := hrel
    go_wp2
    go_ret
    exact ⟨rfl, rfl⟩
/-- A row that the call has made, joined by the document. -/
theorem joinRow8 {W : World} {base : Nat} {u : Value} {l : List ByteArray} (h : W.ownsRow base 9 1 u l.length (strs l)) (hl : l.length ≤ 20003) (hp : ∀ p ∈ l, p.size ≤ 1048576) :
    Calls Try.prog 13 #[u] W fun e w' => e = .returned (.string (joinS l)) ∧ W = w' := by
  rcases owned_cases h with ⟨h1, h2⟩ | ⟨g, c, h1⟩
  · rw [h1, List.eq_nil_of_length_eq_zero h2]
    exact joinNone8 W
  · rw [h1] at h ⊢
    refine (join_big g l.length c l W (Nat.le_refl _) hl hp (own_cell h)).mono fun e w' ⟨p, q⟩ => ⟨?_, q⟩
    rw [p, List.take_of_length_le (Nat.le_refl _)]
/-- .. and by the project. -/
theorem joinOwn8 {W : World} {base : Nat} {u : Value} {l : List ByteArray} (h : W.ownsRow base 9 1 u l.length (strs l)) (hl : l.length ≤ 1048576) (hz : (joinS l).size ≤ 1048576) :
    Calls Try.prog 34 #[u] W fun e w' => e = .returned (.string (joinS l)) ∧ Below W.heap.size W w' := by
  rcases owned_cases h with ⟨h1, h2⟩ | ⟨g, c, h1⟩
  · rw [h1, List.eq_nil_of_length_eq_zero h2]
    exact (join_none W).mono fun e w' ⟨p, q⟩ => ⟨p, q ▸ Below.refl _ _⟩
  · rw [h1] at h ⊢
    exact join_row W rfl (own_cap h) hl (h.lt g rfl).2 (own_cell h) hz
theorem tiny_len8 {T : TagM} (h : TagTiny T) : (subtagsT T).length ≤ 102 := by
  unfold subtagsT
  split
  · have h1 := oneT_len T.lang
    have h2 := oneT_len T.script
    have h3 := oneT_len T.region
    have h4 := flat_lenT T.exts (fun x hx => (h.sx x hx).2.1)
    have h5 : (privT T.priv).length ≤ T.priv.length + 1 := by unfold privT; split <;> simp
    have := h.e; have := h.v; have := h.x; have := h.p
    simp only [List.length_append]
    omega
  · have := splS_le T.grand
    have := h.sg
    omega
theorem tiny_join8 {T : TagM} (h : TagTiny T) : (joinS (subtagsT T)).size ≤ 10302 := by
  have h1 := joinS_size 100 (subtagsT T) (tiny_sizes h)
  have h2 := tiny_len8 h
  omega
theorem tiny_join {T : TagM} (h : TagTiny T) : (joinS (subtagsT T)).size ≤ 20200 := by
  have h1 := joinS_size 100 (subtagsT T) (tiny_sizes h)
  have h2 := tiny_len h
  omega

set_option maxRecDepth 100000 in
theorem lowr_own (v : Value) (T : TagM) (w : World) (hT : TagIs w v T) (ht : TagTiny T) :
    Calls Try.prog 12 #[v] w fun e w' => e = .returned (.string (joinS (subtagsT T))) ∧ Below w.heap.size w w' := by
  have SR := Lib.hid (fun w5 (hb : Below w.heap.size w w5) => subtags_own v T w5 (hT.below hb) ht.fits)
  have HLN := Lib.hid (tiny_len ht)
  have HSZ := Lib.hid (tiny_join ht)
  obtain ⟨ve, vv, vx, vp, rfl, ⟨a1, c1, rfl, _⟩, ⟨a2, c2, rfl, _⟩, ⟨a3, c3, rfl, _⟩, ⟨a4, c4, rfl, _⟩⟩ := hT
  clear ht
  go_enter Try.func12, Try.ntmps12
  go_wp2_with (first
    | (go_at_call 35; (with_reducible refine (SR.out _ ((Below.refl _ w).alloc (Nat.le_refl _) _)).mono ?_); rintro e w6 ⟨u, rfl, ho, hb6⟩; have JR := Lib.hid (joinOwn8 ho (by have := HLN.out; omega) (by have := HSZ.out; omega)); clear ho)
    | (go_at_call 34; (with_reducible refine JR.out.mono ?_); rintro e w7 ⟨rfl, hb7⟩))
  go_ret
  have h6 := ((Below.refl w.heap.size w).alloc (Nat.le_refl _) _).trans (hb6.mono (by simp))
  exact ⟨rfl, h6.trans (hb7.mono h6.size)⟩
set_option maxRecDepth 100000 in
theorem stringr_own (v : Value) (T : TagM) (w : World) (hT : TagIs w v T) (ht : TagTiny T) :
    Calls Try.prog 15 #[v] w fun e w' => e = .returned (.string (caseS (joinS (subtagsT T)))) ∧ Below w.heap.size w w' := by
  have LR := Lib.hid (fun w5 (hb : Below w.heap.size w w5) => lowr_own v T w5 (hT.below hb) ht)
  have CR := Lib.hid (fun w5 => case_any (joinS (subtagsT T)) w5 (by have := tiny_join ht; omega))
  obtain ⟨ve, vv, vx, vp, rfl, ⟨a1, c1, rfl, _⟩, ⟨a2, c2, rfl, _⟩, ⟨a3, c3, rfl, _⟩, ⟨a4, c4, rfl, _⟩⟩ := hT
  clear ht
  generalize joinS (subtagsT T) = t at *
  go_enter Try.func15, Try.ntmps15
  go_wp2_with (first
    | (go_at_call 12; (with_reducible refine (LR.out _ ((Below.refl _ w).alloc (Nat.le_refl _) _)).mono ?_); rintro e w6 ⟨rfl, hb6⟩)
    | (go_at_call 17; (with_reducible refine (CR.out _).mono ?_); rintro e w7 ⟨rfl, hb7⟩))
  go_ret
  have h6 := ((Below.refl w.heap.size w).alloc (Nat.le_refl _) _).trans (hb6.mono (by simp))
  exact ⟨rfl, h6.trans (hb7.mono h6.size)⟩

set_option maxRecDepth 100000 in
set_option maxHeartbeats 4000000 in
theorem case_ref (s : ByteArray) (w : World) (hs : s.size ≤ 20000) :
    Calls Try.prog 18 #[.string s] w fun e w' => e = .returned (.string (caseS s)) ∧ Below w.heap.size w w' := by
  obtain ⟨i0, hi, hz0, hz1, hz2⟩ := info_parts stringInfo
  have SP1 := Lib.hid (split_ref s w (by omega))
  have hle := splS_le s
  obtain ⟨n, hn⟩ : ∃ m, (splS s).length = m + 1 := ⟨(splS s).length - 1, by have := splS_pos s; omega⟩
  have HPZ := Lib.hid (splS_size s)
  have HPN := Lib.hid hn
  have HCS := Lib.hid (show joinS (caseT (splS s)) = caseS s from rfl)
  rw [hn] at SP1 hle
  clear hn
  generalize splS s = P at *
  go_enter Try.func18, Try.ntmps18
  go_wp2_with (go_at_call 26; (with_reducible refine SP1.out.mono ?_); rintro e w1 ⟨u1, rfl, ho1, hb1⟩; obtain ⟨g1, cap1, rfl⟩ := ownsRow_succ ho1; have HC1 := Lib.hid (own_cell ho1); have hg1 : g1 < w1.heap.size := (ho1.lt g1 rfl).2; clear ho1)
  go_loopw [4, 5, 6] (fun o sg i wr => ∃ k : Nat, k ≤ n + 1 ∧ i = .int .i64 k ∧ sg = .bool (sglL (P.take k)) ∧ wr.ownsRow w1.heap.size 9 1 o k (strs (caseT (P.take k))) ∧ Below w1.heap.size w1 wr) (fun _ _ i _ => n + 1 - (intOf i).toNat)
  case atStart => exact ⟨0, Nat.zero_le _, rfl, rfl, World.ownsRow_nil _ _ _ _, Below.refl _ _⟩
  case round =>
    obtain ⟨k, hk, rfl, rfl, hown, hBr⟩ := hrel
    by_cases hlt : k < n + 1
    · obtain ⟨p, hp⟩ : ∃ p, P[k]? = some p := ⟨_, List.getElem?_eq_getElem (by rw [HPN.out]; exact hlt)⟩
      have hps : p.size ≤ 20000 := Nat.le_trans (HPZ.out p (List.mem_of_getElem? hp)) hs
      have hc1 := (hBr.cell (p := ⟨g1, k, none⟩) hg1).trans (HC1.out k p hp)
      have HSC := Lib.hid (sgl_succ8 hp)
      have HTC := Lib.hid (case_succ8 hp)
      have hi0 : (0 : Int) ≤ (k : Int) := by omega
      have hi2 : (k : Int) < (n : Int) + 1 := by omega
      have hk60 : (k : Int) ≤ 20001 := by omega
      have HKL := Lib.hid hlt
      have hBz := hBr.size
      have HBR := Lib.hid hBr
      have HO := Lib.hid hown
      have LP := Lib.hid (lower_ref p wr (by omega))
      have hls := size_lowS p
      have UP := Lib.hid (fun w6 => (upper_ref (lowS p) w6 (by omega)).mono (R' := fun e w7 => e = .returned (.string (upS p)) ∧ Below w6.heap.size w6 w7) fun e w7 ⟨e1, e2⟩ => ⟨by rw [e1, up_lowS], e2⟩)
      have TP := Lib.hid (fun w6 => (title_ref (lowS p) w6 (by omega)).mono (R' := fun e w7 => e = .returned (.string (titleS p)) ∧ Below w6.heap.size w6 w7) fun e w7 ⟨e1, e2⟩ => ⟨by rw [e1, title_lowS], e2⟩)
      have hcs : (sglL (P.take k) = true ∧ k = 0) ∨ (sglL (P.take k) = true ∧ k ≠ 0) ∨ (sglL (P.take k) = false ∧ p.size = 1 ∧ k = 0) ∨ (sglL (P.take k) = false ∧ p.size = 1 ∧ k ≠ 0) ∨ (sglL (P.take k) = false ∧ p.size ≠ 1 ∧ k = 0) ∨
          (sglL (P.take k) = false ∧ p.size ≠ 1 ∧ k ≠ 0 ∧ p.size = 2) ∨ (sglL (P.take k) = false ∧ p.size ≠ 1 ∧ k ≠ 0 ∧ p.size = 4) ∨ (sglL (P.take k) = false ∧ p.size ≠ 1 ∧ k ≠ 0 ∧ p.size ≠ 2 ∧ p.size ≠ 4) := by
        cases sglL (P.take k) <;> simp only [Bool.false_eq_true, false_and, true_and, false_or, or_false, Bool.true_eq_false] <;> omega
      clear hlt hBr hp hown
      rcases hcs with hcs | hcs | hcs | hcs | hcs | hcs | hcs | hcs
      · obtain ⟨hsg, hk0⟩ := hcs
        have g2' : ¬ (0 : Int) < (k : Int) := by omega
        have HSG := Lib.hid (show true = sglL (P.take (k + 1)) by rw [HSC.out, hsg]; rfl)
        have HQ := Lib.hid (show turnS (decide (k = 0) || (sglL (P.take k) || oneB p)) p = lowS p from turn_plain _ p (.inl (by rw [hsg]; simp)))
        rw [hsg]
        clear hsg hk0 hps hs
        generalize lowS p = lo at *
        go_wp2_with (first
          | (go_at_call 24; (with_reducible refine LP.out.mono ?_); rintro e w5 ⟨rfl, hb5⟩; have hB5 := HBR.out.trans (hb5.mono hBz); have HO5 := Lib.hid (own_below HO.out hb5))
          | (at_builtin; refine wpList_append_own _ rfl _ _ 26 rfl w1.heap.size 9 i0 (.string ByteArray.empty) 1 16 Try.underlying26 hi hz0 hz1 hz2 rfl (by decide) _ k _ rfl (HO5.out.alloc _) ⟨w5.heap.size, 0, none⟩ 1 1 [.string lo] rfl rfl (cell_one_new _ _ _) (by intro u hu; simp at hu; subst hu; rfl) (by unfold maxLen; omega) (by omega) (by have := hB5.size; simp; omega) ?_; intro v' w9 hown1 hgrow _))
        go_roundw
        case rel => exact ⟨k + 1, by have := HKL.out; omega, by go_num, by rw [← HSG.out], by rw [HTC.out, strs_append, HQ.out]; exact hown1, (hB5.alloc hB5.size _).grown hgrow (by have := hB5.size; simp; omega) (fun r e => (HO5.out.lt r e).1)⟩
        case measure => simp [intOf]; have := HKL.out; omega
      · obtain ⟨hsg, hk0⟩ := hcs
        have g2' : (0 : Int) < (k : Int) := by omega
        have HSG := Lib.hid (show true = sglL (P.take (k + 1)) by rw [HSC.out, hsg]; rfl)
        have HQ := Lib.hid (show turnS (decide (k = 0) || (sglL (P.take k) || oneB p)) p = lowS p from turn_plain _ p (.inl (by rw [hsg]; simp)))
        rw [hsg]
        clear hsg hk0 hps hs
        generalize lowS p = lo at *
        go_wp2_with (first
          | (go_at_call 24; (with_reducible refine LP.out.mono ?_); rintro e w5 ⟨rfl, hb5⟩; have hB5 := HBR.out.trans (hb5.mono hBz); have HO5 := Lib.hid (own_below HO.out hb5))
          | (at_builtin; refine wpList_append_own _ rfl _ _ 26 rfl w1.heap.size 9 i0 (.string ByteArray.empty) 1 16 Try.underlying26 hi hz0 hz1 hz2 rfl (by decide) _ k _ rfl (HO5.out.alloc _) ⟨w5.heap.size, 0, none⟩ 1 1 [.string lo] rfl rfl (cell_one_new _ _ _) (by intro u hu; simp at hu; subst hu; rfl) (by unfold maxLen; omega) (by omega) (by have := hB5.size; simp; omega) ?_; intro v' w9 hown1 hgrow _))
        go_roundw
        case rel => exact ⟨k + 1, by have := HKL.out; omega, by go_num, by rw [← HSG.out], by rw [HTC.out, strs_append, HQ.out]; exact hown1, (hB5.alloc hB5.size _).grown hgrow (by have := hB5.size; simp; omega) (fun r e => (HO5.out.lt r e).1)⟩
        case measure => simp [intOf]; have := HKL.out; omega
      · obtain ⟨hsg, h1, hk0⟩ := hcs
        have g1' : ((p.size : Int) == 1) = true := by rw [beq_iff_eq]; omega
        have hob : oneB p = true := decide_eq_true h1
        have g2' : ¬ (0 : Int) < (k : Int) := by omega
        have HSG := Lib.hid (show true = sglL (P.take (k + 1)) by rw [HSC.out, hsg, hob]; rfl)
        have HQ := Lib.hid (show turnS (decide (k = 0) || (sglL (P.take k) || oneB p)) p = lowS p from turn_plain _ p (.inl (by rw [hob]; simp)))
        rw [hsg]
        clear hsg hk0 h1 hob hps hs
        generalize lowS p = lo at *
        go_wp2_with (first
          | (go_at_call 24; (with_reducible refine LP.out.mono ?_); rintro e w5 ⟨rfl, hb5⟩; have hB5 := HBR.out.trans (hb5.mono hBz); have HO5 := Lib.hid (own_below HO.out hb5))
          | (at_builtin; refine wpList_append_own _ rfl _ _ 26 rfl w1.heap.size 9 i0 (.string ByteArray.empty) 1 16 Try.underlying26 hi hz0 hz1 hz2 rfl (by decide) _ k _ rfl (HO5.out.alloc _) ⟨w5.heap.size, 0, none⟩ 1 1 [.string lo] rfl rfl (cell_one_new _ _ _) (by intro u hu; simp at hu; subst hu; rfl) (by unfold maxLen; omega) (by omega) (by have := hB5.size; simp; omega) ?_; intro v' w9 hown1 hgrow _))
        go_roundw
        case rel => exact ⟨k + 1, by have := HKL.out; omega, by go_num, by rw [← HSG.out], by rw [HTC.out, strs_append, HQ.out]; exact hown1, (hB5.alloc hB5.size _).grown hgrow (by have := hB5.size; simp; omega) (fun r e => (HO5.out.lt r e).1)⟩
        case measure => simp [intOf]; have := HKL.out; omega
      · obtain ⟨hsg, h1, hk0⟩ := hcs
        have g1' : ((p.size : Int) == 1) = true := by rw [beq_iff_eq]; omega
        have hob : oneB p = true := decide_eq_true h1
        have g2' : (0 : Int) < (k : Int) := by omega
        have HSG := Lib.hid (show true = sglL (P.take (k + 1)) by rw [HSC.out, hsg, hob]; rfl)
        have HQ := Lib.hid (show turnS (decide (k = 0) || (sglL (P.take k) || oneB p)) p = lowS p from turn_plain _ p (.inl (by rw [hob]; simp)))
        rw [hsg]
        clear hsg hk0 h1 hob hps hs
        generalize lowS p = lo at *
        go_wp2_with (first
          | (go_at_call 24; (with_reducible refine LP.out.mono ?_); rintro e w5 ⟨rfl, hb5⟩; have hB5 := HBR.out.trans (hb5.mono hBz); have HO5 := Lib.hid (own_below HO.out hb5))
          | (at_builtin; refine wpList_append_own _ rfl _ _ 26 rfl w1.heap.size 9 i0 (.string ByteArray.empty) 1 16 Try.underlying26 hi hz0 hz1 hz2 rfl (by decide) _ k _ rfl (HO5.out.alloc _) ⟨w5.heap.size, 0, none⟩ 1 1 [.string lo] rfl rfl (cell_one_new _ _ _) (by intro u hu; simp at hu; subst hu; rfl) (by unfold maxLen; omega) (by omega) (by have := hB5.size; simp; omega) ?_; intro v' w9 hown1 hgrow _))
        go_roundw
        case rel => exact ⟨k + 1, by have := HKL.out; omega, by go_num, by rw [← HSG.out], by rw [HTC.out, strs_append, HQ.out]; exact hown1, (hB5.alloc hB5.size _).grown hgrow (by have := hB5.size; simp; omega) (fun r e => (HO5.out.lt r e).1)⟩
        case measure => simp [intOf]; have := HKL.out; omega
      · obtain ⟨hsg, h1, hk0⟩ := hcs
        have g1' : ((p.size : Int) == 1) = false := by rw [beq_eq_false_iff_ne]; omega
        have hob : oneB p = false := decide_eq_false h1
        have g2' : ¬ (0 : Int) < (k : Int) := by omega
        have HSG := Lib.hid (show false = sglL (P.take (k + 1)) by rw [HSC.out, hsg, hob]; rfl)
        have HQ := Lib.hid (show turnS (decide (k = 0) || (sglL (P.take k) || oneB p)) p = lowS p from turn_plain _ p (.inl (by rw [decide_eq_true hk0]; rfl)))
        rw [hsg]
        clear hsg hk0 h1 hob hps hs
        generalize lowS p = lo at *
        go_wp2_with (first
          | (go_at_call 24; (with_reducible refine LP.out.mono ?_); rintro e w5 ⟨rfl, hb5⟩; have hB5 := HBR.out.trans (hb5.mono hBz); have HO5 := Lib.hid (own_below HO.out hb5))
          | (at_builtin; refine wpList_append_own _ rfl _ _ 26 rfl w1.heap.size 9 i0 (.string ByteArray.empty) 1 16 Try.underlying26 hi hz0 hz1 hz2 rfl (by decide) _ k _ rfl (HO5.out.alloc _) ⟨w5.heap.size, 0, none⟩ 1 1 [.string lo] rfl rfl (cell_one_new _ _ _) (by intro u hu; simp at hu; subst hu; rfl) (by unfold maxLen; omega) (by omega) (by have := hB5.size; simp; omega) ?_; intro v' w9 hown1 hgrow _))
        go_roundw
        case rel => exact ⟨k + 1, by have := HKL.out; omega, by go_num, by rw [← HSG.out], by rw [HTC.out, strs_append, HQ.out]; exact hown1, (hB5.alloc hB5.size _).grown hgrow (by have := hB5.size; simp; omega) (fun r e => (HO5.out.lt r e).1)⟩
        case measure => simp [intOf]; have := HKL.out; omega
      · obtain ⟨hsg, h1, hk0, hz⟩ := hcs
        have g1' : ((p.size : Int) == 1) = false := by rw [beq_eq_false_iff_ne]; omega
        have hob : oneB p = false := decide_eq_false h1
        have g2' : (0 : Int) < (k : Int) := by omega
        have HSG := Lib.hid (show false = sglL (P.take (k + 1)) by rw [HSC.out, hsg, hob]; rfl)
        have HQ := Lib.hid (show turnS (decide (k = 0) || (sglL (P.take k) || oneB p)) p = upS p from by rw [hsg, hob, decide_eq_false hk0]; exact turn_two p hz)
        rw [hsg]
        have hus := size_upS p
        have e2 : ((p.size : Int) == 2) = true := by rw [beq_iff_eq]; omega
        have e4 : ((p.size : Int) == 4) = false := by rw [beq_eq_false_iff_ne]; omega
        clear hsg hk0 h1 hob hz hps hs
        generalize lowS p = lo at *
        generalize upS p = q at *
        go_wp2_with (first
          | (go_at_call 24; (with_reducible refine LP.out.mono ?_); rintro e w5 ⟨rfl, hb5⟩)
          | (go_at_call 25; (with_reducible refine (UP.out _).mono ?_); rintro e w6 ⟨rfl, hb6⟩; have hb56 := hb5.trans (hb6.mono hb5.size); have hB5 := HBR.out.trans (hb56.mono hBz); have HO5 := Lib.hid (own_below HO.out hb56))
          | (at_builtin; refine wpList_append_own _ rfl _ _ 26 rfl w1.heap.size 9 i0 (.string ByteArray.empty) 1 16 Try.underlying26 hi hz0 hz1 hz2 rfl (by decide) _ k _ rfl (HO5.out.alloc _) ⟨w6.heap.size, 0, none⟩ 1 1 [.string q] rfl rfl (cell_one_new _ _ _) (by intro u hu; simp at hu; subst hu; rfl) (by unfold maxLen; omega) (by omega) (by have := hB5.size; simp; omega) ?_; intro v' w9 hown1 hgrow _))
        go_roundw
        case rel => exact ⟨k + 1, by have := HKL.out; omega, by go_num, by rw [← HSG.out], by rw [HTC.out, strs_append, HQ.out]; exact hown1, (hB5.alloc hB5.size _).grown hgrow (by have := hB5.size; simp; omega) (fun r e => (HO5.out.lt r e).1)⟩
        case measure => simp [intOf]; have := HKL.out; omega
      · obtain ⟨hsg, h1, hk0, hz⟩ := hcs
        have g1' : ((p.size : Int) == 1) = false := by rw [beq_eq_false_iff_ne]; omega
        have hob : oneB p = false := decide_eq_false h1
        have g2' : (0 : Int) < (k : Int) := by omega
        have HSG := Lib.hid (show false = sglL (P.take (k + 1)) by rw [HSC.out, hsg, hob]; rfl)
        have HQ := Lib.hid (show turnS (decide (k = 0) || (sglL (P.take k) || oneB p)) p = titleS p from by rw [hsg, hob, decide_eq_false hk0]; exact turn_four p hz)
        rw [hsg]
        have e2 : ((p.size : Int) == 2) = false := by rw [beq_eq_false_iff_ne]; omega
        have e4 : ((p.size : Int) == 4) = true := by rw [beq_iff_eq]; omega
        clear hsg hk0 h1 hob hz hps hs
        generalize lowS p = lo at *
        generalize titleS p = q at *
        go_wp2_with (first
          | (go_at_call 24; (with_reducible refine LP.out.mono ?_); rintro e w5 ⟨rfl, hb5⟩)
          | (go_at_call 39; (with_reducible refine (TP.out _).mono ?_); rintro e w6 ⟨rfl, hb6⟩; have hb56 := hb5.trans (hb6.mono hb5.size); have hB5 := HBR.out.trans (hb56.mono hBz); have HO5 := Lib.hid (own_below HO.out hb56))
          | (at_builtin; refine wpList_append_own _ rfl _ _ 26 rfl w1.heap.size 9 i0 (.string ByteArray.empty) 1 16 Try.underlying26 hi hz0 hz1 hz2 rfl (by decide) _ k _ rfl (HO5.out.alloc _) ⟨w6.heap.size, 0, none⟩ 1 1 [.string q] rfl rfl (cell_one_new _ _ _) (by intro u hu; simp at hu; subst hu; rfl) (by unfold maxLen; omega) (by omega) (by have := hB5.size; simp; omega) ?_; intro v' w9 hown1 hgrow _))
        go_roundw
        case rel => exact ⟨k + 1, by have := HKL.out; omega, by go_num, by rw [← HSG.out], by rw [HTC.out, strs_append, HQ.out]; exact hown1, (hB5.alloc hB5.size _).grown hgrow (by have := hB5.size; simp; omega) (fun r e => (HO5.out.lt r e).1)⟩
        case measure => simp [intOf]; have := HKL.out; omega
      · obtain ⟨hsg, h1, hk0, hk2, hk4⟩ := hcs
        have g1' : ((p.size : Int) == 1) = false := by rw [beq_eq_false_iff_ne]; omega
        have hob : oneB p = false := decide_eq_false h1
        have g2' : (0 : Int) < (k : Int) := by omega
        have HSG := Lib.hid (show false = sglL (P.take (k + 1)) by rw [HSC.out, hsg, hob]; rfl)
        have HQ := Lib.hid (show turnS (decide (k = 0) || (sglL (P.take k) || oneB p)) p = lowS p from turn_plain _ p (.inr ⟨hk2, hk4⟩))
        rw [hsg]
        have e2 : ((p.size : Int) == 2) = false := by rw [beq_eq_false_iff_ne]; omega
        have e4 : ((p.size : Int) == 4) = false := by rw [beq_eq_false_iff_ne]; omega
        clear hsg hk0 h1 hob hk2 hk4 hps hs
        generalize lowS p = lo at *
        go_wp2_with (first
          | (go_at_call 24; (with_reducible refine LP.out.mono ?_); rintro e w5 ⟨rfl, hb5⟩; have hB5 := HBR.out.trans (hb5.mono hBz); have HO5 := Lib.hid (own_below HO.out hb5))
          | (at_builtin; refine wpList_append_own _ rfl _ _ 26 rfl w1.heap.size 9 i0 (.string ByteArray.empty) 1 16 Try.underlying26 hi hz0 hz1 hz2 rfl (by decide) _ k _ rfl (HO5.out.alloc _) ⟨w5.heap.size, 0, none⟩ 1 1 [.string lo] rfl rfl (cell_one_new _ _ _) (by intro u hu; simp at hu; subst hu; rfl) (by unfold maxLen; omega) (by omega) (by have := hB5.size; simp; omega) ?_; intro v' w9 hown1 hgrow _))
        go_roundw
        case rel => exact ⟨k + 1, by have := HKL.out; omega, by go_num, by rw [← HSG.out], by rw [HTC.out, strs_append, HQ.out]; exact hown1, (hB5.alloc hB5.size _).grown hgrow (by have := hB5.size; simp; omega) (fun r e => (HO5.out.lt r e).1)⟩
        case measure => simp [intOf]; have := HKL.out; omega
    · obtain rfl : k = n + 1 := by omega
      have hall : P.take (n + 1) = P := List.take_of_length_le (by rw [HPN.out]; exact Nat.le_refl _)
      rw [hall] at hown
      have hcl : (caseT P).length = n + 1 := by rw [caseT_length]; exact HPN.out
      have JR := Lib.hid (joinRow8 (l := caseT P) (base := w1.heap.size) (by rw [hcl]; exact hown) (by omega) (fun q hq => by
        have h1 : q.size ∈ (caseT P).map ByteArray.size := List.mem_map_of_mem hq
        have h2 : (caseT P).map ByteArray.size = P.map ByteArray.size := size_caseL _ _ _
        rw [h2] at h1
        obtain ⟨p, hp, e⟩ := List.mem_map.1 h1
        have := HPZ.out p hp
        omega))
      clear hown hcl hall
      go_wp2_with (go_at_call 13; (with_reducible refine JR.out.mono ?_); rintro e w7 ⟨rfl, rfl⟩)
      go_ret
      exact ⟨ret_string HCS.out, hb1.trans (hBr.mono hb1.size)⟩
set_option maxRecDepth 100000 in
theorem stringr_ref (v : Value) (T : TagM) (w : World) (hT : TagIs w v T) (ht : TagTiny T) :
    Calls Try.prog 16 #[v] w fun e w' => e = .returned (.string (caseS (joinS (subtagsT T)))) ∧ Below w.heap.size w w' := by
  have SR := Lib.hid (fun w5 (hb : Below w.heap.size w w5) => subtags_ref v T w5 (hT.below hb) ht.fits)
  have HLN := Lib.hid (tiny_len ht)
  have HSZ := Lib.hid (tiny_sizes ht)
  have CR := Lib.hid (fun w5 => case_ref (joinS (subtagsT T)) w5 (by have := tiny_join8 ht; omega))
  obtain ⟨ve, vv, vx, vp, rfl, ⟨a1, c1, rfl, _⟩, ⟨a2, c2, rfl, _⟩, ⟨a3, c3, rfl, _⟩, ⟨a4, c4, rfl, _⟩⟩ := hT
  clear ht
  go_enter Try.func16, Try.ntmps16
  go_wp2_with (first
    | (go_at_call 14; (with_reducible refine (SR.out _ ((Below.refl _ w).alloc (Nat.le_refl _) _)).mono ?_); rintro e w6 ⟨u, rfl, ho, hb6⟩; have JR := Lib.hid (joinRow8 ho (by have := HLN.out; omega) (fun p hp => by have := HSZ.out p hp; omega)); clear ho)
    | (go_at_call 13; (with_reducible refine JR.out.mono ?_); rintro e w7 ⟨rfl, rfl⟩)
    | (go_at_call 18; (with_reducible refine (CR.out _).mono ?_); rintro e w8 ⟨rfl, hb8⟩))
  go_ret
  have h6 := ((Below.refl w.heap.size w).alloc (Nat.le_refl _) _).trans (hb6.mono (by simp))
  exact ⟨rfl, h6.trans (hb8.mono h6.size)⟩
end Go.Proofs.Ytggfdmhfcpabdaa
