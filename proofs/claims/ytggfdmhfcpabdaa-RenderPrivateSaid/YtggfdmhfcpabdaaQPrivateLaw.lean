/-
  RenderPrivate: the walk of the law.
-/
import Derived.Test.YtggfdmhfcpabdaaQKit
import Derived.BigQuiet
namespace Go.Proofs.Ytggfdmhfcpabdaa
open Go Go.RowKit

theorem take_snoc {α : Type} {l : List α} {k : Nat} {x : α} (h : l[k]? = some x) : l.take (k + 1) = l.take k ++ [x] := by
  obtain ⟨hk, rfl⟩ := List.getElem?_eq_some_iff.1 h
  exact List.take_succ_eq_append_getElem hk
/-- One of what a text's pieces are turned to. -/
theorem caseT_get {l : List ByteArray} {k : Nat} {p : ByteArray} (h : l[k]? = some p) : (caseT l)[k]? = some (turnS (decide (k = 0) || (sglL (l.take k) || oneB p)) p) := by
  have h1 : (caseT l)[k]? = (caseT (l.take (k + 1)))[k]? := by rw [← caseT_take, List.getElem?_take_of_lt (by omega)]
  have hk := (List.getElem?_eq_some_iff.1 h).1
  have hl : (caseT (l.take k)).length = k := by rw [caseT_length, List.length_take]; omega
  rw [h1, take_snoc h, caseT_snoc, List.getElem?_append_right (by omega), hl, Nat.sub_self, List.getElem?_cons_zero]
  congr 3
  cases k with
  | zero => rfl
  | succ k => cases l with
    | nil => simp at h
    | cons a r => simp
theorem sgl_succ {l : List ByteArray} {k : Nat} {p : ByteArray} (h : l[k]? = some p) : sglL (l.take (k + 1)) = (sglL (l.take k) || oneB p) := by rw [take_snoc h, sglL_snoc]
theorem title_cut {p : ByteArray} (h : p.size = 4) : (titleS p).extract 1 4 = (lowS p).extract 1 4 ∧ upS ((lowS p).extract 0 1) = (titleS p).extract 0 1 := by
  have hl : (bs p).length = 4 := h
  unfold titleS lowS
  match hb : bs p, hl with
  | [a, b, c, d], _ =>
    constructor
    · apply ofL_ext
      rw [bs_extract, bs_extract, bs_ofL, bs_ofL]
      simp [titleL]
    · apply ofL_ext
      rw [bs_extract]
      unfold upS
      rw [bs_ofL, bs_extract, bs_ofL, bs_ofL]
      simp [titleL, up_low]

theorem held_shell {P : Program} {md : Region.Mode} {ops : Array Oper} {S : World → Prop} {Q : Exit → Act → World → Prop} {n : Nat} {l : Array Bool} {a : Act} {w : World} {aF : Act} (h1 : ∀ c (a : Act) d v w, Q (.panic c) (a.put d v) w → Q (.panic c) a w) (h2 : ∀ w, S w → Q .normal aF w)
    (h3 : ∀ K : Exit → Act → World → Prop, (∀ c (a : Act) d v w, K (.panic c) (a.put d v) w → K (.panic c) a w) → (∀ w, S w → K .normal aF w) → wpAnyH P md ops K S n l a w) : wpAnyH P md ops Q S n l a w := h3 Q h1 h2

set_option maxRecDepth 100000 in
set_option maxHeartbeats 40000000 in
theorem private_law (a : ByteArray) (w : World) (hsa : a.size ≤ maxLen) :
    Calls Try.prog 7 #[.string a] w fun e w' => e = .returned (.bool true) ∧ Below w.heap.size w w' := by
  obtain ⟨x, htx⟩ : ∃ x, cut8 a = x := ⟨_, rfl⟩
  have hx : x.size ≤ 80 := by rw [← htx]; exact size_cut8 a
  have Sx := told (onwardS w fun w5 => short8_any a w5 hsa) (ret_string htx)
  clear htx
  have A1 := onward w awake8_any
  obtain ⟨y, hy⟩ : ∃ y, caseS x = y := ⟨_, rfl⟩
  have hys : y.size = x.size := by rw [← hy, size_caseS]
  have hsy : splS y = caseT (splS x) := by rw [← hy, splS_case]
  have C1 := Lib.hid (fun w5 => (case_any x w5 (by omega)).mono (R' := fun e w6 => e = .returned (.string y) ∧ Below w5.heap.size w5 w6) fun e w6 ⟨p, q⟩ => ⟨by rw [p, hy], q⟩)
  have SP1 := Lib.hid (fun w5 => split_ref x w5 (by omega))
  have SP2 := Lib.hid (fun w5 => split_ref y w5 (by omega))
  have hB := Below.refl w.heap.size w
  have hle := splS_le x
  have hpz := splS_size x
  obtain ⟨n, hn⟩ : ∃ m, (splS x).length = m + 1 := ⟨(splS x).length - 1, by have := splS_pos x; omega⟩
  rw [hsy, caseT_length] at SP2
  rw [hn] at SP1 SP2 hle
  have HPZ := Lib.hid hpz
  have HPN := Lib.hid hn
  clear hy hsy hpz hn hsa hys
  generalize splS x = P at *
  go_enter Try.func7, Try.ntmps7
  go_wp2_with (first
    | (go_at_call 9; (with_reducible refine (A1.out _ (by assumption)).mono ?_); rintro e w1 ⟨rfl, hb1⟩)
    | (go_at_call 11; (with_reducible refine (Sx.out _ (by assumption)).mono ?_); rintro e w2 ⟨rfl, hb2⟩)
    | (go_at_call 17; (with_reducible refine (C1.out _).mono ?_); rintro e w4 ⟨rfl, hb4'⟩; have hb4 := hb3.trans (hb4'.mono hb3.size))
    | (go_at_call 26; (with_reducible refine (SP1.out _).mono ?_); rintro e w3 ⟨u1, rfl, ho1, hb3'⟩; have hb3 := hb2.trans (hb3'.mono hb2.size); obtain ⟨g1, cap1, rfl⟩ := ownsRow_succ ho1; have HC1 := Lib.hid (own_cell ho1); have hg1 : g1 < w3.heap.size := (ho1.lt g1 rfl).2; clear ho1 hb3' SP1)
    | (go_at_call 26; (with_reducible refine (SP2.out _).mono ?_); rintro e wa ⟨u2, rfl, ho2, hba'⟩; have hba := hb4.trans (hba'.mono hb4.size); obtain ⟨g2, cap2, rfl⟩ := ownsRow_succ ho2; have HC2 := Lib.hid (own_cell ho2); have hg2 : g2 < wa.heap.size := (ho2.lt g2 rfl).2; have HBA := Lib.hid hba'; clear ho2 hba' SP2))
  have hg1a : g1 < wa.heap.size := by have h1 := hb4'.size; have h2 := HBA.out.size; omega
  have HK1 := Lib.hid (fun i p (h : P[i]? = some p) => (HBA.out.cell (p := ⟨g1, i, none⟩) (by have h1 := hb4'.size; show g1 < w4.heap.size; omega)).trans ((hb4'.cell (p := ⟨g1, i, none⟩) hg1).trans (HC1.out i p h)))
  clear HC1 hb4' HBA
  go_loopw [6, 7] (fun sg i wr => ∃ k : Nat, k ≤ n + 1 ∧ i = .int .i64 k ∧ sg = .bool (sglL (P.take k)) ∧ Below wa.heap.size wa wr) (fun _ i _ => n + 1 - (intOf i).toNat)
  case atStart => exact ⟨0, Nat.zero_le _, rfl, rfl, Below.refl _ _⟩
  case round =>
    obtain ⟨k, hk, rfl, rfl, hBr⟩ := hrel
    by_cases hlt : k < n + 1
    · obtain ⟨p, hp⟩ : ∃ p, P[k]? = some p := ⟨_, List.getElem?_eq_getElem (by rw [HPN.out]; exact hlt)⟩
      have hps := HPZ.out p (List.mem_of_getElem? hp)
      have hc1 := (hBr.cell (p := ⟨g1, k, none⟩) hg1a).trans (HK1.out k p hp)
      have hc2 := (hBr.cell (p := ⟨g2, k, none⟩) hg2).trans (HC2.out k _ (caseT_get hp))
      have HSC := Lib.hid (sgl_succ hp)
      have hi0 : (0 : Int) ≤ (k : Int) := by omega
      have hi1 : (k : Int) < ((n + 1 : Nat) : Int) := by omega
      have hi2 : (k : Int) < (n : Int) + 1 := by omega
      have hk60 : (k : Int) ≤ 200 := by omega
      have HKL := Lib.hid hlt
      have hBz := hBr.size
      have CC := Lib.hid (fun w6 (hb6 : Below wr.heap.size wr w6) => And.intro ((hb6.cell (p := ⟨g1, k, none⟩) (by show g1 < wr.heap.size; omega)).trans hc1) ((hb6.cell (p := ⟨g2, k, none⟩) (by show g2 < wr.heap.size; omega)).trans hc2))
      have HBR := Lib.hid hBr
      have hcs : (sglL (P.take k) = true ∧ k = 0) ∨ (sglL (P.take k) = true ∧ k ≠ 0) ∨ (sglL (P.take k) = false ∧ p.size = 1 ∧ k = 0) ∨ (sglL (P.take k) = false ∧ p.size = 1 ∧ k ≠ 0) ∨ (sglL (P.take k) = false ∧ p.size ≠ 1 ∧ k = 0) ∨
          (sglL (P.take k) = false ∧ p.size ≠ 1 ∧ k ≠ 0 ∧ p.size = 2) ∨ (sglL (P.take k) = false ∧ p.size ≠ 1 ∧ k ≠ 0 ∧ p.size = 4) ∨ (sglL (P.take k) = false ∧ p.size ≠ 1 ∧ k ≠ 0 ∧ p.size ≠ 2 ∧ p.size ≠ 4) := by
        cases sglL (P.take k) <;> simp only [Bool.false_eq_true, false_and, true_and, false_or, or_false, Bool.true_eq_false] <;> omega
      clear hlt hBr hp
      rcases hcs with hcs | hcs | hcs | hcs | hcs | hcs | hcs | hcs
      · obtain ⟨hsg, hk0⟩ := hcs
        have g2' : ¬ (0 : Int) < (k : Int) := by omega
        have HSG := Lib.hid (show true = sglL (P.take (k + 1)) by rw [HSC.out, hsg]; rfl)
        have HQ : turnS (decide (k = 0) || (sglL (P.take k) || oneB p)) p = lowS p := turn_plain _ p (.inl (by rw [hsg]; simp))
        rw [HQ] at CC
        clear HQ hc1 hc2
        rw [hsg]
        have LP := Lib.hid (fun w6 (hb6 : Below wr.heap.size wr w6) => (lower_ref p w6 (by omega)).mono (R' := fun e w7 => e = .returned (.string (lowS p)) ∧ Below wr.heap.size wr w7 ∧ w7.cell? ⟨g1, k, none⟩ = some (.string p) ∧ w7.cell? ⟨g2, k, none⟩ = some (.string (lowS p))) fun e w7 ⟨e1, e2⟩ => have h := hb6.trans (e2.mono hb6.size); ⟨e1, h, CC.out w7 h⟩)
        have hls := size_lowS p
        obtain ⟨hc1, hc2⟩ := CC.out wr (Below.refl _ _)
        clear hsg hk0 CC hps
        generalize lowS p = q at *
        go_wp2_with (go_at_call 24; (with_reducible refine (LP.out _ (Below.refl _ _)).mono ?_); rintro e w5 ⟨rfl, hb5, hd1, hd2⟩; have hb5d := hb5.drew; have hd1d : w5.drew.cell? ⟨g1, k, none⟩ = _ := hd1; have hd2d : w5.drew.cell? ⟨g2, k, none⟩ = _ := hd2)
        go_quiet (fail)
        have hb9 := below_drewN hb5 nq
        go_wp2
        have hBn := HBR.out.trans (Below.mono hb9 hBz)
        go_roundw
        case rel => exact ⟨k + 1, by have := HKL.out; omega, by go_num, by rw [← HSG.out], hBn⟩
        case measure => simp [intOf]; have := HKL.out; omega
      · obtain ⟨hsg, hk0⟩ := hcs
        have g2' : (0 : Int) < (k : Int) := by omega
        have HSG := Lib.hid (show true = sglL (P.take (k + 1)) by rw [HSC.out, hsg]; rfl)
        have HQ : turnS (decide (k = 0) || (sglL (P.take k) || oneB p)) p = lowS p := turn_plain _ p (.inl (by rw [hsg]; simp))
        rw [HQ] at CC
        clear HQ hc1 hc2
        rw [hsg]
        have LP := Lib.hid (fun w6 (hb6 : Below wr.heap.size wr w6) => (lower_ref p w6 (by omega)).mono (R' := fun e w7 => e = .returned (.string (lowS p)) ∧ Below wr.heap.size wr w7 ∧ w7.cell? ⟨g1, k, none⟩ = some (.string p) ∧ w7.cell? ⟨g2, k, none⟩ = some (.string (lowS p))) fun e w7 ⟨e1, e2⟩ => have h := hb6.trans (e2.mono hb6.size); ⟨e1, h, CC.out w7 h⟩)
        have hls := size_lowS p
        obtain ⟨hc1, hc2⟩ := CC.out wr (Below.refl _ _)
        clear hsg hk0 CC hps
        generalize lowS p = q at *
        go_wp2_with (go_at_call 24; (with_reducible refine (LP.out _ (Below.refl _ _)).mono ?_); rintro e w5 ⟨rfl, hb5, hd1, hd2⟩; have hb5d := hb5.drew; have hd1d : w5.drew.cell? ⟨g1, k, none⟩ = _ := hd1; have hd2d : w5.drew.cell? ⟨g2, k, none⟩ = _ := hd2)
        go_quiet (fail)
        have hb9 := below_drewN hb5 nq
        go_wp2
        have hBn := HBR.out.trans (Below.mono hb9 hBz)
        go_roundw
        case rel => exact ⟨k + 1, by have := HKL.out; omega, by go_num, by rw [← HSG.out], hBn⟩
        case measure => simp [intOf]; have := HKL.out; omega
      · obtain ⟨hsg, h1, hk0⟩ := hcs
        have g1' : ((p.size : Int) == 1) = true := by rw [beq_iff_eq]; omega
        have hob : oneB p = true := decide_eq_true h1
        have g2' : ¬ (0 : Int) < (k : Int) := by omega
        have HSG := Lib.hid (show true = sglL (P.take (k + 1)) by rw [HSC.out, hsg, hob]; rfl)
        have HQ : turnS (decide (k = 0) || (sglL (P.take k) || oneB p)) p = lowS p := turn_plain _ p (.inl (by rw [hob]; simp))
        rw [HQ] at CC
        clear HQ hc1 hc2
        rw [hsg]
        have LP := Lib.hid (fun w6 (hb6 : Below wr.heap.size wr w6) => (lower_ref p w6 (by omega)).mono (R' := fun e w7 => e = .returned (.string (lowS p)) ∧ Below wr.heap.size wr w7 ∧ w7.cell? ⟨g1, k, none⟩ = some (.string p) ∧ w7.cell? ⟨g2, k, none⟩ = some (.string (lowS p))) fun e w7 ⟨e1, e2⟩ => have h := hb6.trans (e2.mono hb6.size); ⟨e1, h, CC.out w7 h⟩)
        have hls := size_lowS p
        obtain ⟨hc1, hc2⟩ := CC.out wr (Below.refl _ _)
        clear hsg hk0 h1 hob CC hps
        generalize lowS p = q at *
        go_wp2_with (go_at_call 24; (with_reducible refine (LP.out _ (Below.refl _ _)).mono ?_); rintro e w5 ⟨rfl, hb5, hd1, hd2⟩; have hb5d := hb5.drew; have hd1d : w5.drew.cell? ⟨g1, k, none⟩ = _ := hd1; have hd2d : w5.drew.cell? ⟨g2, k, none⟩ = _ := hd2)
        go_quiet (fail)
        have hb9 := below_drewN hb5 nq
        go_wp2
        have hBn := HBR.out.trans (Below.mono hb9 hBz)
        go_roundw
        case rel => exact ⟨k + 1, by have := HKL.out; omega, by go_num, by rw [← HSG.out], hBn⟩
        case measure => simp [intOf]; have := HKL.out; omega
      · obtain ⟨hsg, h1, hk0⟩ := hcs
        have g1' : ((p.size : Int) == 1) = true := by rw [beq_iff_eq]; omega
        have hob : oneB p = true := decide_eq_true h1
        have g2' : (0 : Int) < (k : Int) := by omega
        have HSG := Lib.hid (show true = sglL (P.take (k + 1)) by rw [HSC.out, hsg, hob]; rfl)
        have HQ : turnS (decide (k = 0) || (sglL (P.take k) || oneB p)) p = lowS p := turn_plain _ p (.inl (by rw [hob]; simp))
        rw [HQ] at CC
        clear HQ hc1 hc2
        rw [hsg]
        have LP := Lib.hid (fun w6 (hb6 : Below wr.heap.size wr w6) => (lower_ref p w6 (by omega)).mono (R' := fun e w7 => e = .returned (.string (lowS p)) ∧ Below wr.heap.size wr w7 ∧ w7.cell? ⟨g1, k, none⟩ = some (.string p) ∧ w7.cell? ⟨g2, k, none⟩ = some (.string (lowS p))) fun e w7 ⟨e1, e2⟩ => have h := hb6.trans (e2.mono hb6.size); ⟨e1, h, CC.out w7 h⟩)
        have hls := size_lowS p
        obtain ⟨hc1, hc2⟩ := CC.out wr (Below.refl _ _)
        clear hsg hk0 h1 hob CC hps
        generalize lowS p = q at *
        go_wp2_with (go_at_call 24; (with_reducible refine (LP.out _ (Below.refl _ _)).mono ?_); rintro e w5 ⟨rfl, hb5, hd1, hd2⟩; have hb5d := hb5.drew; have hd1d : w5.drew.cell? ⟨g1, k, none⟩ = _ := hd1; have hd2d : w5.drew.cell? ⟨g2, k, none⟩ = _ := hd2)
        go_quiet (fail)
        have hb9 := below_drewN hb5 nq
        go_wp2
        have hBn := HBR.out.trans (Below.mono hb9 hBz)
        go_roundw
        case rel => exact ⟨k + 1, by have := HKL.out; omega, by go_num, by rw [← HSG.out], hBn⟩
        case measure => simp [intOf]; have := HKL.out; omega
      · obtain ⟨hsg, h1, hk0⟩ := hcs
        have g1' : ((p.size : Int) == 1) = false := by rw [beq_eq_false_iff_ne]; omega
        have hob : oneB p = false := decide_eq_false h1
        have g2' : ¬ (0 : Int) < (k : Int) := by omega
        have HSG := Lib.hid (show false = sglL (P.take (k + 1)) by rw [HSC.out, hsg, hob]; rfl)
        have HQ : turnS (decide (k = 0) || (sglL (P.take k) || oneB p)) p = lowS p := turn_plain _ p (.inl (by rw [decide_eq_true hk0]; rfl))
        rw [HQ] at CC
        clear HQ hc1 hc2
        rw [hsg]
        have LP := Lib.hid (fun w6 (hb6 : Below wr.heap.size wr w6) => (lower_ref p w6 (by omega)).mono (R' := fun e w7 => e = .returned (.string (lowS p)) ∧ Below wr.heap.size wr w7 ∧ w7.cell? ⟨g1, k, none⟩ = some (.string p) ∧ w7.cell? ⟨g2, k, none⟩ = some (.string (lowS p))) fun e w7 ⟨e1, e2⟩ => have h := hb6.trans (e2.mono hb6.size); ⟨e1, h, CC.out w7 h⟩)
        have hls := size_lowS p
        obtain ⟨hc1, hc2⟩ := CC.out wr (Below.refl _ _)
        clear hsg hk0 h1 hob CC hps
        generalize lowS p = q at *
        go_wp2_with (go_at_call 24; (with_reducible refine (LP.out _ (Below.refl _ _)).mono ?_); rintro e w5 ⟨rfl, hb5, hd1, hd2⟩; have hb5d := hb5.drew; have hd1d : w5.drew.cell? ⟨g1, k, none⟩ = _ := hd1; have hd2d : w5.drew.cell? ⟨g2, k, none⟩ = _ := hd2)
        go_quiet (fail)
        have hb9 := below_drewN hb5 nq
        go_wp2
        have hBn := HBR.out.trans (Below.mono hb9 hBz)
        go_roundw
        case rel => exact ⟨k + 1, by have := HKL.out; omega, by go_num, by rw [← HSG.out], hBn⟩
        case measure => simp [intOf]; have := HKL.out; omega
      · obtain ⟨hsg, h1, hk0, hz⟩ := hcs
        have g1' : ((p.size : Int) == 1) = false := by rw [beq_eq_false_iff_ne]; omega
        have hob : oneB p = false := decide_eq_false h1
        have g2' : (0 : Int) < (k : Int) := by omega
        have HSG := Lib.hid (show false = sglL (P.take (k + 1)) by rw [HSC.out, hsg, hob]; rfl)
        have HQ : turnS (decide (k = 0) || (sglL (P.take k) || oneB p)) p = upS p := by rw [hsg, hob, decide_eq_false hk0]; exact turn_two p hz
        rw [HQ] at CC
        clear HQ hc1 hc2
        rw [hsg]
        have LP := Lib.hid (fun w6 (hb6 : Below wr.heap.size wr w6) => (lower_ref p w6 (by omega)).mono (R' := fun e w7 => e = .returned (.string (lowS p)) ∧ Below wr.heap.size wr w7 ∧ w7.cell? ⟨g1, k, none⟩ = some (.string p) ∧ w7.cell? ⟨g2, k, none⟩ = some (.string (upS p))) fun e w7 ⟨e1, e2⟩ => have h := hb6.trans (e2.mono hb6.size); ⟨e1, h, CC.out w7 h⟩)
        have hls := size_lowS p
        have UP := Lib.hid (fun w6 (hb6 : Below wr.heap.size wr w6) => (upper_ref p w6 (by omega)).mono (R' := fun e w7 => e = .returned (.string (upS p)) ∧ Below wr.heap.size wr w7 ∧ w7.cell? ⟨g1, k, none⟩ = some (.string p) ∧ w7.cell? ⟨g2, k, none⟩ = some (.string (upS p))) fun e w7 ⟨e1, e2⟩ => have h := hb6.trans (e2.mono hb6.size); ⟨e1, h, CC.out w7 h⟩)
        have e2 : ((p.size : Int) == 2) = true := by rw [beq_iff_eq]; omega
        have e4 : ((p.size : Int) == 4) = false := by rw [beq_eq_false_iff_ne]; omega
        obtain ⟨hc1, hc2⟩ := CC.out wr (Below.refl _ _)
        clear hsg hk0 h1 hob CC hps
        generalize lowS p = lo at *
        generalize upS p = q at *
        have hp1 : p.size = 2 := hz
        clear hz
        go_wp2_with (go_at_call 24; (with_reducible refine (LP.out _ (Below.refl _ _)).mono ?_); rintro e w5 ⟨rfl, hb5, hd1, hd2⟩; have hb5d := hb5.drew; have hd1d : w5.drew.cell? ⟨g1, k, none⟩ = _ := hd1; have hd2d : w5.drew.cell? ⟨g2, k, none⟩ = _ := hd2)
        refine wp_region_held_drew (S := fun w' => Below wr.heap.size wr w' ∧ w'.cell? ⟨g1, k, none⟩ = some (.string p) ∧ w'.cell? ⟨g2, k, none⟩ = some (.string q)) (by kernel_rfl) ⟨by assumption, by assumption, by assumption⟩ (fun hHeld => ?_)
        apply held_shell
        exact fun _ _ d _ _ h => by cases d <;> exact h
        rotate_left 1
        intro KK hKp hfin
        refine wpAnyH_take (i := 0) (v := .bool true) rfl (by kernel_rfl) (by kernel_rfl) (by kernel_rfl) (fun c a w h => hKp c a _ _ w h) (Or.inl ⟨by kernel_rfl, fun w hSw => by dsimp only at hSw; obtain ⟨-, hs1, hs2⟩ := hSw; go_simp⟩) (by assumption) ?_
        simp only [Act.put, List.getElem_toArray, List.getElem_cons_zero, List.setIfInBounds_toArray, List.set_cons_zero, List.set_cons_succ]
        refine wpAnyH_take (i := 1) (v := .bool false) rfl (by kernel_rfl) (by kernel_rfl) (by kernel_rfl) (fun c a w h => hKp c a _ _ w h) (Or.inl ⟨by kernel_rfl, fun w hSw => by dsimp only at hSw; obtain ⟨-, hs1, hs2⟩ := hSw; go_simp⟩) (by assumption) ?_
        simp only [Act.put, List.getElem_toArray, List.getElem_cons_zero, List.getElem_cons_succ, List.setIfInBounds_toArray, List.set_cons_zero, List.set_cons_succ]
        refine wpAnyH_take (i := 2) (v := .bool false) rfl (by kernel_rfl) (by kernel_rfl) (by kernel_rfl) (fun c a w h => hKp c a _ _ w h) (Or.inl ⟨by kernel_rfl, fun w hSw => by dsimp only at hSw; obtain ⟨-, hs1, hs2⟩ := hSw; go_simp⟩) (by assumption) ?_
        simp only [Act.put, List.getElem_toArray, List.getElem_cons_zero, List.getElem_cons_succ, List.setIfInBounds_toArray, List.set_cons_zero, List.set_cons_succ]
        refine wpAnyH_take (i := 3) (v := undef) rfl (by kernel_rfl) (by kernel_rfl) (by kernel_rfl) (fun c a w h => hKp c a _ _ w h) (Or.inr ⟨by kernel_rfl, rfl⟩) (by assumption) ?_
        simp only [Act.put, List.getElem_toArray, List.getElem_cons_zero, List.getElem_cons_succ, List.setIfInBounds_toArray, List.set_cons_zero, List.set_cons_succ]
        refine wpAnyH_take (i := 4) (v := undef) rfl (by kernel_rfl) (by kernel_rfl) (by kernel_rfl) (fun c a w h => hKp c a _ _ w h) (Or.inr ⟨by kernel_rfl, rfl⟩) (by assumption) ?_
        simp only [Act.put, List.getElem_toArray, List.getElem_cons_zero, List.getElem_cons_succ, List.setIfInBounds_toArray, List.set_cons_zero, List.set_cons_succ]
        refine wpAnyH_take (i := 5) (v := undef) rfl (by kernel_rfl) (by kernel_rfl) (by kernel_rfl) (fun c a w h => hKp c a _ _ w h) (Or.inr ⟨by kernel_rfl, rfl⟩) (by assumption) ?_
        simp only [Act.put, List.getElem_toArray, List.getElem_cons_zero, List.getElem_cons_succ, List.setIfInBounds_toArray, List.set_cons_zero, List.set_cons_succ]
        refine wpAnyH_take (i := 6) (v := undef) rfl (by kernel_rfl) (by kernel_rfl) (by kernel_rfl) (fun c a w h => hKp c a _ _ w h) (Or.inr ⟨by kernel_rfl, rfl⟩) (by assumption) ?_
        simp only [Act.put, List.getElem_toArray, List.getElem_cons_zero, List.getElem_cons_succ, List.setIfInBounds_toArray, List.set_cons_zero, List.set_cons_succ]
        refine wpAnyH_take (i := 7) (v := undef) rfl (by kernel_rfl) (by kernel_rfl) (by kernel_rfl) (fun c a w h => hKp c a _ _ w h) (Or.inr ⟨by kernel_rfl, rfl⟩) (by assumption) ?_
        simp only [Act.put, List.getElem_toArray, List.getElem_cons_zero, List.getElem_cons_succ, List.setIfInBounds_toArray, List.set_cons_zero, List.set_cons_succ]
        refine wpAnyH_take (i := 8) (v := undef) rfl (by kernel_rfl) (by kernel_rfl) (by kernel_rfl) (fun c a w h => hKp c a _ _ w h) (Or.inr ⟨by kernel_rfl, rfl⟩) (by assumption) ?_
        simp only [Act.put, List.getElem_toArray, List.getElem_cons_zero, List.getElem_cons_succ, List.setIfInBounds_toArray, List.set_cons_zero, List.set_cons_succ]
        refine wpAnyH_take (i := 9) (v := .bool false) rfl (by kernel_rfl) (by kernel_rfl) (by kernel_rfl) (fun c a w h => hKp c a _ _ w h) (Or.inl ⟨by kernel_rfl, fun w hSw => by dsimp only at hSw; obtain ⟨-, hs1, hs2⟩ := hSw; go_simp⟩) (by assumption) ?_
        simp only [Act.put, List.getElem_toArray, List.getElem_cons_zero, List.getElem_cons_succ, List.setIfInBounds_toArray, List.set_cons_zero, List.set_cons_succ]
        refine wpAnyH_take (i := 10) (v := .bool false) rfl (by kernel_rfl) (by kernel_rfl) (by kernel_rfl) (fun c a w h => hKp c a _ _ w h) (Or.inl ⟨by kernel_rfl, fun w hSw => by dsimp only at hSw; obtain ⟨-, hs1, hs2⟩ := hSw; go_simp⟩) (by assumption) ?_
        simp only [Act.put, List.getElem_toArray, List.getElem_cons_zero, List.getElem_cons_succ, List.setIfInBounds_toArray, List.set_cons_zero, List.set_cons_succ]
        refine wpAnyH_take (i := 11) (v := .bool true) rfl (by kernel_rfl) (by kernel_rfl) (by kernel_rfl) (fun c a w h => hKp c a _ _ w h) (Or.inl ⟨by kernel_rfl, fun w hSw => by dsimp only at hSw; obtain ⟨-, hs1, hs2⟩ := hSw; go_simp⟩) (by assumption) ?_
        simp only [Act.put, List.getElem_toArray, List.getElem_cons_zero, List.getElem_cons_succ, List.setIfInBounds_toArray, List.set_cons_zero, List.set_cons_succ]
        refine wpAnyH_take (i := 12) (v := .bool true) rfl (by kernel_rfl) (by kernel_rfl) (by kernel_rfl) (fun c a w h => hKp c a _ _ w h) (Or.inl ⟨by kernel_rfl, fun w hSw => by dsimp only at hSw; obtain ⟨-, hs1, hs2⟩ := hSw; go_simp⟩) (by assumption) ?_
        simp only [Act.put, List.getElem_toArray, List.getElem_cons_zero, List.getElem_cons_succ, List.setIfInBounds_toArray, List.set_cons_zero, List.set_cons_succ]
        refine wpAnyH_take (i := 13) (v := .string lo) rfl (by kernel_rfl) (by kernel_rfl) (by kernel_rfl) (fun c a w h => hKp c a _ _ w h) (Or.inl ⟨by kernel_rfl, fun w hSw => by dsimp only at hSw; obtain ⟨-, hs1, hs2⟩ := hSw; go_simp⟩) (by assumption) ?_
        simp only [Act.put, List.getElem_toArray, List.getElem_cons_zero, List.getElem_cons_succ, List.setIfInBounds_toArray, List.set_cons_zero, List.set_cons_succ]
        refine wpAnyH_take (i := 14) (v := .int .i64 2) rfl (by kernel_rfl) (by kernel_rfl) (by kernel_rfl) (fun c a w h => hKp c a _ _ w h) (Or.inl ⟨by kernel_rfl, fun w hSw => by dsimp only at hSw; obtain ⟨-, hs1, hs2⟩ := hSw; go_simp⟩) (by assumption) ?_
        simp only [Act.put, List.getElem_toArray, List.getElem_cons_zero, List.getElem_cons_succ, List.setIfInBounds_toArray, List.set_cons_zero, List.set_cons_succ]
        refine wpAnyH_take (i := 15) (v := .bool true) rfl (by kernel_rfl) (by kernel_rfl) (by kernel_rfl) (fun c a w h => hKp c a _ _ w h) (Or.inl ⟨by kernel_rfl, fun w hSw => by dsimp only at hSw; obtain ⟨-, hs1, hs2⟩ := hSw; go_simp⟩) (by assumption) ?_
        simp only [Act.put, List.getElem_toArray, List.getElem_cons_zero, List.getElem_cons_succ, List.setIfInBounds_toArray, List.set_cons_zero, List.set_cons_succ]
        refine wpAnyH_take (i := 16) (v := .bool true) rfl (by kernel_rfl) (by kernel_rfl) (by kernel_rfl) (fun c a w h => hKp c a _ _ w h) (Or.inl ⟨by kernel_rfl, fun w hSw => by dsimp only at hSw; obtain ⟨-, hs1, hs2⟩ := hSw; go_simp⟩) (by assumption) ?_
        simp only [Act.put, List.getElem_toArray, List.getElem_cons_zero, List.getElem_cons_succ, List.setIfInBounds_toArray, List.set_cons_zero, List.set_cons_succ]
        refine wpAnyH_take (i := 17) (v := .bool true) rfl (by kernel_rfl) (by kernel_rfl) (by kernel_rfl) (fun c a w h => hKp c a _ _ w h) (Or.inl ⟨by kernel_rfl, fun w hSw => by dsimp only at hSw; obtain ⟨-, hs1, hs2⟩ := hSw; go_simp⟩) (by assumption) ?_
        simp only [Act.put, List.getElem_toArray, List.getElem_cons_zero, List.getElem_cons_succ, List.setIfInBounds_toArray, List.set_cons_zero, List.set_cons_succ]
        refine wpAnyH_take (i := 18) (v := .slice (some ⟨g2, 0, none⟩) (n + 1) cap2) rfl (by kernel_rfl) (by kernel_rfl) (by kernel_rfl) (fun c a w h => hKp c a _ _ w h) (Or.inl ⟨by kernel_rfl, fun w hSw => by dsimp only at hSw; obtain ⟨-, hs1, hs2⟩ := hSw; go_simp⟩) (by assumption) ?_
        simp only [Act.put, List.getElem_toArray, List.getElem_cons_zero, List.getElem_cons_succ, List.setIfInBounds_toArray, List.set_cons_zero, List.set_cons_succ]
        refine wpAnyH_take (i := 19) (v := .int .i64 (k : Int)) rfl (by kernel_rfl) (by kernel_rfl) (by kernel_rfl) (fun c a w h => hKp c a _ _ w h) (Or.inl ⟨by kernel_rfl, fun w hSw => by dsimp only at hSw; obtain ⟨-, hs1, hs2⟩ := hSw; go_simp⟩) (by assumption) ?_
        simp only [Act.put, List.getElem_toArray, List.getElem_cons_zero, List.getElem_cons_succ, List.setIfInBounds_toArray, List.set_cons_zero, List.set_cons_succ]
        refine wpAnyH_take (i := 20) (v := .pointer (some ⟨g2, k, none⟩)) rfl (by kernel_rfl) (by kernel_rfl) (by kernel_rfl) (fun c a w h => hKp c a _ _ w h) (Or.inl ⟨by kernel_rfl, fun w hSw => by dsimp only at hSw; obtain ⟨-, hs1, hs2⟩ := hSw; go_simp⟩) (by assumption) ?_
        simp only [Act.put, List.getElem_toArray, List.getElem_cons_zero, List.getElem_cons_succ, List.setIfInBounds_toArray, List.set_cons_zero, List.set_cons_succ]
        refine wpAnyH_take (i := 21) (v := .string q) rfl (by kernel_rfl) (by kernel_rfl) (by kernel_rfl) (fun c a w h => hKp c a _ _ w h) (Or.inl ⟨by kernel_rfl, fun w hSw => by dsimp only at hSw; obtain ⟨-, hs1, hs2⟩ := hSw; go_simp⟩) (by assumption) ?_
        simp only [Act.put, List.getElem_toArray, List.getElem_cons_zero, List.getElem_cons_succ, List.setIfInBounds_toArray, List.set_cons_zero, List.set_cons_succ]
        refine wpAnyH_take (i := 22) (v := .slice (some ⟨g1, 0, none⟩) (n + 1) cap1) rfl (by kernel_rfl) (by kernel_rfl) (by kernel_rfl) (fun c a w h => hKp c a _ _ w h) (Or.inl ⟨by kernel_rfl, fun w hSw => by dsimp only at hSw; obtain ⟨-, hs1, hs2⟩ := hSw; go_simp⟩) (by assumption) ?_
        simp only [Act.put, List.getElem_toArray, List.getElem_cons_zero, List.getElem_cons_succ, List.setIfInBounds_toArray, List.set_cons_zero, List.set_cons_succ]
        refine wpAnyH_take (i := 23) (v := .int .i64 (k : Int)) rfl (by kernel_rfl) (by kernel_rfl) (by kernel_rfl) (fun c a w h => hKp c a _ _ w h) (Or.inl ⟨by kernel_rfl, fun w hSw => by dsimp only at hSw; obtain ⟨-, hs1, hs2⟩ := hSw; go_simp⟩) (by assumption) ?_
        simp only [Act.put, List.getElem_toArray, List.getElem_cons_zero, List.getElem_cons_succ, List.setIfInBounds_toArray, List.set_cons_zero, List.set_cons_succ]
        refine wpAnyH_take (i := 24) (v := .pointer (some ⟨g1, k, none⟩)) rfl (by kernel_rfl) (by kernel_rfl) (by kernel_rfl) (fun c a w h => hKp c a _ _ w h) (Or.inl ⟨by kernel_rfl, fun w hSw => by dsimp only at hSw; obtain ⟨-, hs1, hs2⟩ := hSw; go_simp⟩) (by assumption) ?_
        simp only [Act.put, List.getElem_toArray, List.getElem_cons_zero, List.getElem_cons_succ, List.setIfInBounds_toArray, List.set_cons_zero, List.set_cons_succ]
        refine wpAnyH_take (i := 25) (v := .string p) rfl (by kernel_rfl) (by kernel_rfl) (by kernel_rfl) (fun c a w h => hKp c a _ _ w h) (Or.inl ⟨by kernel_rfl, fun w hSw => by dsimp only at hSw; obtain ⟨-, hs1, hs2⟩ := hSw; go_simp⟩) (by assumption) ?_
        simp only [Act.put, List.getElem_toArray, List.getElem_cons_zero, List.getElem_cons_succ, List.setIfInBounds_toArray, List.set_cons_zero, List.set_cons_succ]
        refine wpAnyH_ready (rs := [26]) (by kernel_rfl) (by simp) ?_
        refine AllReadyH.cons rfl (fun Kx hKx => ?_) AllReadyH.nil
        go_simp
        refine (UP.out _ hHeld.1).mono ?_
        rintro e w6 ⟨rfl, hb6, hc6, hd6⟩
        refine hKx.out _ _ ⟨hb6, hc6, hd6⟩ (fun hHeld => ?_)
        clear hKx Kx
        refine wpAnyH_take (i := 27) (v := .bool false) rfl (by kernel_rfl) (by kernel_rfl) (by kernel_rfl) (fun c a w h => hKp c a _ _ w h) (Or.inl ⟨by kernel_rfl, fun w hSw => by dsimp only at hSw; obtain ⟨-, hs1, hs2⟩ := hSw; go_simp⟩) (by assumption) ?_
        simp only [Act.put, List.getElem_toArray, List.getElem_cons_zero, List.getElem_cons_succ, List.setIfInBounds_toArray, List.set_cons_zero, List.set_cons_succ]
        refine wpAnyH_take (i := 28) (v := .bool false) rfl (by kernel_rfl) (by kernel_rfl) (by kernel_rfl) (fun c a w h => hKp c a _ _ w h) (Or.inl ⟨by kernel_rfl, fun w hSw => by dsimp only at hSw; obtain ⟨-, hs1, hs2⟩ := hSw; go_simp⟩) (by assumption) ?_
        simp only [Act.put, List.getElem_toArray, List.getElem_cons_zero, List.getElem_cons_succ, List.setIfInBounds_toArray, List.set_cons_zero, List.set_cons_succ]
        refine wpAnyH_take (i := 29) (v := .bool false) rfl (by kernel_rfl) (by kernel_rfl) (by kernel_rfl) (fun c a w h => hKp c a _ _ w h) (Or.inl ⟨by kernel_rfl, fun w hSw => by dsimp only at hSw; obtain ⟨-, hs1, hs2⟩ := hSw; go_simp⟩) (by assumption) ?_
        simp only [Act.put, List.getElem_toArray, List.getElem_cons_zero, List.getElem_cons_succ, List.setIfInBounds_toArray, List.set_cons_zero, List.set_cons_succ]
        refine wpAnyH_take (i := 30) (v := .bool false) rfl (by kernel_rfl) (by kernel_rfl) (by kernel_rfl) (fun c a w h => hKp c a _ _ w h) (Or.inl ⟨by kernel_rfl, fun w hSw => by dsimp only at hSw; obtain ⟨-, hs1, hs2⟩ := hSw; go_simp⟩) (by assumption) ?_
        simp only [Act.put, List.getElem_toArray, List.getElem_cons_zero, List.getElem_cons_succ, List.setIfInBounds_toArray, List.set_cons_zero, List.set_cons_succ]
        refine wpAnyH_take (i := 31) (v := .bool true) rfl (by kernel_rfl) (by kernel_rfl) (by kernel_rfl) (fun c a w h => hKp c a _ _ w h) (Or.inl ⟨by kernel_rfl, fun w hSw => by dsimp only at hSw; obtain ⟨-, hs1, hs2⟩ := hSw; go_simp⟩) (by assumption) ?_
        simp only [Act.put, List.getElem_toArray, List.getElem_cons_zero, List.getElem_cons_succ, List.setIfInBounds_toArray, List.set_cons_zero, List.set_cons_succ]
        refine wpAnyH_take (i := 32) (v := .bool true) rfl (by kernel_rfl) (by kernel_rfl) (by kernel_rfl) (fun c a w h => hKp c a _ _ w h) (Or.inl ⟨by kernel_rfl, fun w hSw => by dsimp only at hSw; obtain ⟨-, hs1, hs2⟩ := hSw; go_simp⟩) (by assumption) ?_
        simp only [Act.put, List.getElem_toArray, List.getElem_cons_zero, List.getElem_cons_succ, List.setIfInBounds_toArray, List.set_cons_zero, List.set_cons_succ]
        refine wpAnyH_take (i := 33) (v := .string lo) rfl (by kernel_rfl) (by kernel_rfl) (by kernel_rfl) (fun c a w h => hKp c a _ _ w h) (Or.inl ⟨by kernel_rfl, fun w hSw => by dsimp only at hSw; obtain ⟨-, hs1, hs2⟩ := hSw; go_simp⟩) (by assumption) ?_
        simp only [Act.put, List.getElem_toArray, List.getElem_cons_zero, List.getElem_cons_succ, List.setIfInBounds_toArray, List.set_cons_zero, List.set_cons_succ]
        refine wpAnyH_take (i := 34) (v := .int .i64 2) rfl (by kernel_rfl) (by kernel_rfl) (by kernel_rfl) (fun c a w h => hKp c a _ _ w h) (Or.inl ⟨by kernel_rfl, fun w hSw => by dsimp only at hSw; obtain ⟨-, hs1, hs2⟩ := hSw; go_simp⟩) (by assumption) ?_
        simp only [Act.put, List.getElem_toArray, List.getElem_cons_zero, List.getElem_cons_succ, List.setIfInBounds_toArray, List.set_cons_zero, List.set_cons_succ]
        refine wpAnyH_take (i := 35) (v := .bool false) rfl (by kernel_rfl) (by kernel_rfl) (by kernel_rfl) (fun c a w h => hKp c a _ _ w h) (Or.inl ⟨by kernel_rfl, fun w hSw => by dsimp only at hSw; obtain ⟨-, hs1, hs2⟩ := hSw; go_simp⟩) (by assumption) ?_
        simp only [Act.put, List.getElem_toArray, List.getElem_cons_zero, List.getElem_cons_succ, List.setIfInBounds_toArray, List.set_cons_zero, List.set_cons_succ]
        refine wpAnyH_take (i := 36) (v := .bool false) rfl (by kernel_rfl) (by kernel_rfl) (by kernel_rfl) (fun c a w h => hKp c a _ _ w h) (Or.inl ⟨by kernel_rfl, fun w hSw => by dsimp only at hSw; obtain ⟨-, hs1, hs2⟩ := hSw; go_simp⟩) (by assumption) ?_
        simp only [Act.put, List.getElem_toArray, List.getElem_cons_zero, List.getElem_cons_succ, List.setIfInBounds_toArray, List.set_cons_zero, List.set_cons_succ]
        refine wpAnyH_take (i := 37) (v := .bool false) rfl (by kernel_rfl) (by kernel_rfl) (by kernel_rfl) (fun c a w h => hKp c a _ _ w h) (Or.inl ⟨by kernel_rfl, fun w hSw => by dsimp only at hSw; obtain ⟨-, hs1, hs2⟩ := hSw; go_simp⟩) (by assumption) ?_
        simp only [Act.put, List.getElem_toArray, List.getElem_cons_zero, List.getElem_cons_succ, List.setIfInBounds_toArray, List.set_cons_zero, List.set_cons_succ]
        refine wpAnyH_take (i := 38) (v := undef) rfl (by kernel_rfl) (by kernel_rfl) (by kernel_rfl) (fun c a w h => hKp c a _ _ w h) (Or.inr ⟨by kernel_rfl, rfl⟩) (by assumption) ?_
        simp only [Act.put, List.getElem_toArray, List.getElem_cons_zero, List.getElem_cons_succ, List.setIfInBounds_toArray, List.set_cons_zero, List.set_cons_succ]
        refine wpAnyH_take (i := 39) (v := undef) rfl (by kernel_rfl) (by kernel_rfl) (by kernel_rfl) (fun c a w h => hKp c a _ _ w h) (Or.inr ⟨by kernel_rfl, rfl⟩) (by assumption) ?_
        simp only [Act.put, List.getElem_toArray, List.getElem_cons_zero, List.getElem_cons_succ, List.setIfInBounds_toArray, List.set_cons_zero, List.set_cons_succ]
        refine wpAnyH_take (i := 40) (v := undef) rfl (by kernel_rfl) (by kernel_rfl) (by kernel_rfl) (fun c a w h => hKp c a _ _ w h) (Or.inr ⟨by kernel_rfl, rfl⟩) (by assumption) ?_
        simp only [Act.put, List.getElem_toArray, List.getElem_cons_zero, List.getElem_cons_succ, List.setIfInBounds_toArray, List.set_cons_zero, List.set_cons_succ]
        refine wpAnyH_take (i := 41) (v := undef) rfl (by kernel_rfl) (by kernel_rfl) (by kernel_rfl) (fun c a w h => hKp c a _ _ w h) (Or.inr ⟨by kernel_rfl, rfl⟩) (by assumption) ?_
        simp only [Act.put, List.getElem_toArray, List.getElem_cons_zero, List.getElem_cons_succ, List.setIfInBounds_toArray, List.set_cons_zero, List.set_cons_succ]
        refine wpAnyH_take (i := 42) (v := undef) rfl (by kernel_rfl) (by kernel_rfl) (by kernel_rfl) (fun c a w h => hKp c a _ _ w h) (Or.inr ⟨by kernel_rfl, rfl⟩) (by assumption) ?_
        simp only [Act.put, List.getElem_toArray, List.getElem_cons_zero, List.getElem_cons_succ, List.setIfInBounds_toArray, List.set_cons_zero, List.set_cons_succ]
        refine wpAnyH_take (i := 43) (v := undef) rfl (by kernel_rfl) (by kernel_rfl) (by kernel_rfl) (fun c a w h => hKp c a _ _ w h) (Or.inr ⟨by kernel_rfl, rfl⟩) (by assumption) ?_
        simp only [Act.put, List.getElem_toArray, List.getElem_cons_zero, List.getElem_cons_succ, List.setIfInBounds_toArray, List.set_cons_zero, List.set_cons_succ]
        refine wpAnyH_take (i := 44) (v := undef) rfl (by kernel_rfl) (by kernel_rfl) (by kernel_rfl) (fun c a w h => hKp c a _ _ w h) (Or.inr ⟨by kernel_rfl, rfl⟩) (by assumption) ?_
        simp only [Act.put, List.getElem_toArray, List.getElem_cons_zero, List.getElem_cons_succ, List.setIfInBounds_toArray, List.set_cons_zero, List.set_cons_succ]
        refine wpAnyH_take (i := 45) (v := undef) rfl (by kernel_rfl) (by kernel_rfl) (by kernel_rfl) (fun c a w h => hKp c a _ _ w h) (Or.inr ⟨by kernel_rfl, rfl⟩) (by assumption) ?_
        simp only [Act.put, List.getElem_toArray, List.getElem_cons_zero, List.getElem_cons_succ, List.setIfInBounds_toArray, List.set_cons_zero, List.set_cons_succ]
        refine wpAnyH_take (i := 46) (v := undef) rfl (by kernel_rfl) (by kernel_rfl) (by kernel_rfl) (fun c a w h => hKp c a _ _ w h) (Or.inr ⟨by kernel_rfl, rfl⟩) (by assumption) ?_
        simp only [Act.put, List.getElem_toArray, List.getElem_cons_zero, List.getElem_cons_succ, List.setIfInBounds_toArray, List.set_cons_zero, List.set_cons_succ]
        refine wpAnyH_take (i := 47) (v := undef) rfl (by kernel_rfl) (by kernel_rfl) (by kernel_rfl) (fun c a w h => hKp c a _ _ w h) (Or.inr ⟨by kernel_rfl, rfl⟩) (by assumption) ?_
        simp only [Act.put, List.getElem_toArray, List.getElem_cons_zero, List.getElem_cons_succ, List.setIfInBounds_toArray, List.set_cons_zero, List.set_cons_succ]
        refine wpAnyH_take (i := 48) (v := undef) rfl (by kernel_rfl) (by kernel_rfl) (by kernel_rfl) (fun c a w h => hKp c a _ _ w h) (Or.inr ⟨by kernel_rfl, rfl⟩) (by assumption) ?_
        simp only [Act.put, List.getElem_toArray, List.getElem_cons_zero, List.getElem_cons_succ, List.setIfInBounds_toArray, List.set_cons_zero, List.set_cons_succ]
        refine wpAnyH_take (i := 49) (v := undef) rfl (by kernel_rfl) (by kernel_rfl) (by kernel_rfl) (fun c a w h => hKp c a _ _ w h) (Or.inr ⟨by kernel_rfl, rfl⟩) (by assumption) ?_
        simp only [Act.put, List.getElem_toArray, List.getElem_cons_zero, List.getElem_cons_succ, List.setIfInBounds_toArray, List.set_cons_zero, List.set_cons_succ]
        refine wpAnyH_take (i := 50) (v := undef) rfl (by kernel_rfl) (by kernel_rfl) (by kernel_rfl) (fun c a w h => hKp c a _ _ w h) (Or.inr ⟨by kernel_rfl, rfl⟩) (by assumption) ?_
        simp only [Act.put, List.getElem_toArray, List.getElem_cons_zero, List.getElem_cons_succ, List.setIfInBounds_toArray, List.set_cons_zero, List.set_cons_succ]
        refine wpAnyH_take (i := 51) (v := undef) rfl (by kernel_rfl) (by kernel_rfl) (by kernel_rfl) (fun c a w h => hKp c a _ _ w h) (Or.inr ⟨by kernel_rfl, rfl⟩) (by assumption) ?_
        simp only [Act.put, List.getElem_toArray, List.getElem_cons_zero, List.getElem_cons_succ, List.setIfInBounds_toArray, List.set_cons_zero, List.set_cons_succ]
        refine wpAnyH_take (i := 52) (v := undef) rfl (by kernel_rfl) (by kernel_rfl) (by kernel_rfl) (fun c a w h => hKp c a _ _ w h) (Or.inr ⟨by kernel_rfl, rfl⟩) (by assumption) ?_
        simp only [Act.put, List.getElem_toArray, List.getElem_cons_zero, List.getElem_cons_succ, List.setIfInBounds_toArray, List.set_cons_zero, List.set_cons_succ]
        refine wpAnyH_take (i := 53) (v := undef) rfl (by kernel_rfl) (by kernel_rfl) (by kernel_rfl) (fun c a w h => hKp c a _ _ w h) (Or.inr ⟨by kernel_rfl, rfl⟩) (by assumption) ?_
        simp only [Act.put, List.getElem_toArray, List.getElem_cons_zero, List.getElem_cons_succ, List.setIfInBounds_toArray, List.set_cons_zero, List.set_cons_succ]
        refine wpAnyH_take (i := 54) (v := undef) rfl (by kernel_rfl) (by kernel_rfl) (by kernel_rfl) (fun c a w h => hKp c a _ _ w h) (Or.inr ⟨by kernel_rfl, rfl⟩) (by assumption) ?_
        simp only [Act.put, List.getElem_toArray, List.getElem_cons_zero, List.getElem_cons_succ, List.setIfInBounds_toArray, List.set_cons_zero, List.set_cons_succ]
        refine wpAnyH_take (i := 55) (v := undef) rfl (by kernel_rfl) (by kernel_rfl) (by kernel_rfl) (fun c a w h => hKp c a _ _ w h) (Or.inr ⟨by kernel_rfl, rfl⟩) (by assumption) ?_
        simp only [Act.put, List.getElem_toArray, List.getElem_cons_zero, List.getElem_cons_succ, List.setIfInBounds_toArray, List.set_cons_zero, List.set_cons_succ]
        refine wpAnyH_take (i := 56) (v := undef) rfl (by kernel_rfl) (by kernel_rfl) (by kernel_rfl) (fun c a w h => hKp c a _ _ w h) (Or.inr ⟨by kernel_rfl, rfl⟩) (by assumption) ?_
        simp only [Act.put, List.getElem_toArray, List.getElem_cons_zero, List.getElem_cons_succ, List.setIfInBounds_toArray, List.set_cons_zero, List.set_cons_succ]
        refine wpAnyH_take (i := 57) (v := .bool false) rfl (by kernel_rfl) (by kernel_rfl) (by kernel_rfl) (fun c a w h => hKp c a _ _ w h) (Or.inl ⟨by kernel_rfl, fun w hSw => by dsimp only at hSw; obtain ⟨-, hs1, hs2⟩ := hSw; go_simp⟩) (by assumption) ?_
        simp only [Act.put, List.getElem_toArray, List.getElem_cons_zero, List.getElem_cons_succ, List.setIfInBounds_toArray, List.set_cons_zero, List.set_cons_succ]
        refine wpAnyH_take (i := 58) (v := .bool false) rfl (by kernel_rfl) (by kernel_rfl) (by kernel_rfl) (fun c a w h => hKp c a _ _ w h) (Or.inl ⟨by kernel_rfl, fun w hSw => by dsimp only at hSw; obtain ⟨-, hs1, hs2⟩ := hSw; go_simp⟩) (by assumption) ?_
        simp only [Act.put, List.getElem_toArray, List.getElem_cons_zero, List.getElem_cons_succ, List.setIfInBounds_toArray, List.set_cons_zero, List.set_cons_succ]
        refine wpAnyH_done (by kernel_rfl) ?_ _
        exact hfin _ hHeld
        rintro w9 ⟨hb9, -, -⟩
        go_wp2
        have hBn := HBR.out.trans (Below.mono hb9 hBz)
        go_roundw
        case rel => exact ⟨k + 1, by have := HKL.out; omega, by go_num, by rw [← HSG.out], hBn⟩
        case measure => simp [intOf]; have := HKL.out; omega
      · obtain ⟨hsg, h1, hk0, hz⟩ := hcs
        have g1' : ((p.size : Int) == 1) = false := by rw [beq_eq_false_iff_ne]; omega
        have hob : oneB p = false := decide_eq_false h1
        have g2' : (0 : Int) < (k : Int) := by omega
        have HSG := Lib.hid (show false = sglL (P.take (k + 1)) by rw [HSC.out, hsg, hob]; rfl)
        have HQ : turnS (decide (k = 0) || (sglL (P.take k) || oneB p)) p = titleS p := by rw [hsg, hob, decide_eq_false hk0]; exact turn_four p hz
        rw [HQ] at CC
        clear HQ hc1 hc2
        rw [hsg]
        have LP := Lib.hid (fun w6 (hb6 : Below wr.heap.size wr w6) => (lower_ref p w6 (by omega)).mono (R' := fun e w7 => e = .returned (.string (lowS p)) ∧ Below wr.heap.size wr w7 ∧ w7.cell? ⟨g1, k, none⟩ = some (.string p) ∧ w7.cell? ⟨g2, k, none⟩ = some (.string (titleS p))) fun e w7 ⟨e1, e2⟩ => have h := hb6.trans (e2.mono hb6.size); ⟨e1, h, CC.out w7 h⟩)
        have hls := size_lowS p
        obtain ⟨tc1, tc2⟩ := title_cut hz
        have UP := Lib.hid (fun w6 (hb6 : Below wr.heap.size wr w6) => (upper_ref ((lowS p).extract 0 1) w6 (by rw [ByteArray.size_extract]; omega)).mono (R' := fun e w7 => e = .returned (.string ((titleS p).extract 0 1)) ∧ Below wr.heap.size wr w7 ∧ w7.cell? ⟨g1, k, none⟩ = some (.string p) ∧ w7.cell? ⟨g2, k, none⟩ = some (.string (titleS p))) fun e w7 ⟨e1, e2⟩ => have h := hb6.trans (e2.mono hb6.size); ⟨by rw [e1, tc2], h, CC.out w7 h⟩)
        have hts := size_titleS p
        rw [hz] at hls hts
        have e2 : ((p.size : Int) == 2) = false := by rw [beq_eq_false_iff_ne]; omega
        have e4 : ((p.size : Int) == 4) = true := by rw [beq_iff_eq]; omega
        clear tc2
        obtain ⟨hc1, hc2⟩ := CC.out wr (Below.refl _ _)
        clear hsg hk0 h1 hob CC hps
        generalize lowS p = lo at *
        generalize titleS p = q at *
        have hp1 : p.size = 4 := hz
        clear hz
        go_wp2_with (go_at_call 24; (with_reducible refine (LP.out _ (Below.refl _ _)).mono ?_); rintro e w5 ⟨rfl, hb5, hd1, hd2⟩; have hb5d := hb5.drew; have hd1d : w5.drew.cell? ⟨g1, k, none⟩ = _ := hd1; have hd2d : w5.drew.cell? ⟨g2, k, none⟩ = _ := hd2)
        refine wp_region_held_drew (S := fun w' => Below wr.heap.size wr w' ∧ w'.cell? ⟨g1, k, none⟩ = some (.string p) ∧ w'.cell? ⟨g2, k, none⟩ = some (.string q)) (by kernel_rfl) ⟨by assumption, by assumption, by assumption⟩ (fun hHeld => ?_)
        apply held_shell
        exact fun _ _ d _ _ h => by cases d <;> exact h
        rotate_left 1
        intro KK hKp hfin
        refine wpAnyH_take (i := 0) (v := .bool true) rfl (by kernel_rfl) (by kernel_rfl) (by kernel_rfl) (fun c a w h => hKp c a _ _ w h) (Or.inl ⟨by kernel_rfl, fun w hSw => by dsimp only at hSw; obtain ⟨-, hs1, hs2⟩ := hSw; go_simp⟩) (by assumption) ?_
        simp only [Act.put, List.getElem_toArray, List.getElem_cons_zero, List.setIfInBounds_toArray, List.set_cons_zero, List.set_cons_succ]
        refine wpAnyH_take (i := 1) (v := .bool false) rfl (by kernel_rfl) (by kernel_rfl) (by kernel_rfl) (fun c a w h => hKp c a _ _ w h) (Or.inl ⟨by kernel_rfl, fun w hSw => by dsimp only at hSw; obtain ⟨-, hs1, hs2⟩ := hSw; go_simp⟩) (by assumption) ?_
        simp only [Act.put, List.getElem_toArray, List.getElem_cons_zero, List.getElem_cons_succ, List.setIfInBounds_toArray, List.set_cons_zero, List.set_cons_succ]
        refine wpAnyH_take (i := 2) (v := .bool false) rfl (by kernel_rfl) (by kernel_rfl) (by kernel_rfl) (fun c a w h => hKp c a _ _ w h) (Or.inl ⟨by kernel_rfl, fun w hSw => by dsimp only at hSw; obtain ⟨-, hs1, hs2⟩ := hSw; go_simp⟩) (by assumption) ?_
        simp only [Act.put, List.getElem_toArray, List.getElem_cons_zero, List.getElem_cons_succ, List.setIfInBounds_toArray, List.set_cons_zero, List.set_cons_succ]
        refine wpAnyH_take (i := 3) (v := undef) rfl (by kernel_rfl) (by kernel_rfl) (by kernel_rfl) (fun c a w h => hKp c a _ _ w h) (Or.inr ⟨by kernel_rfl, rfl⟩) (by assumption) ?_
        simp only [Act.put, List.getElem_toArray, List.getElem_cons_zero, List.getElem_cons_succ, List.setIfInBounds_toArray, List.set_cons_zero, List.set_cons_succ]
        refine wpAnyH_take (i := 4) (v := undef) rfl (by kernel_rfl) (by kernel_rfl) (by kernel_rfl) (fun c a w h => hKp c a _ _ w h) (Or.inr ⟨by kernel_rfl, rfl⟩) (by assumption) ?_
        simp only [Act.put, List.getElem_toArray, List.getElem_cons_zero, List.getElem_cons_succ, List.setIfInBounds_toArray, List.set_cons_zero, List.set_cons_succ]
        refine wpAnyH_take (i := 5) (v := undef) rfl (by kernel_rfl) (by kernel_rfl) (by kernel_rfl) (fun c a w h => hKp c a _ _ w h) (Or.inr ⟨by kernel_rfl, rfl⟩) (by assumption) ?_
        simp only [Act.put, List.getElem_toArray, List.getElem_cons_zero, List.getElem_cons_succ, List.setIfInBounds_toArray, List.set_cons_zero, List.set_cons_succ]
        refine wpAnyH_take (i := 6) (v := undef) rfl (by kernel_rfl) (by kernel_rfl) (by kernel_rfl) (fun c a w h => hKp c a _ _ w h) (Or.inr ⟨by kernel_rfl, rfl⟩) (by assumption) ?_
        simp only [Act.put, List.getElem_toArray, List.getElem_cons_zero, List.getElem_cons_succ, List.setIfInBounds_toArray, List.set_cons_zero, List.set_cons_succ]
        refine wpAnyH_take (i := 7) (v := undef) rfl (by kernel_rfl) (by kernel_rfl) (by kernel_rfl) (fun c a w h => hKp c a _ _ w h) (Or.inr ⟨by kernel_rfl, rfl⟩) (by assumption) ?_
        simp only [Act.put, List.getElem_toArray, List.getElem_cons_zero, List.getElem_cons_succ, List.setIfInBounds_toArray, List.set_cons_zero, List.set_cons_succ]
        refine wpAnyH_take (i := 8) (v := undef) rfl (by kernel_rfl) (by kernel_rfl) (by kernel_rfl) (fun c a w h => hKp c a _ _ w h) (Or.inr ⟨by kernel_rfl, rfl⟩) (by assumption) ?_
        simp only [Act.put, List.getElem_toArray, List.getElem_cons_zero, List.getElem_cons_succ, List.setIfInBounds_toArray, List.set_cons_zero, List.set_cons_succ]
        refine wpAnyH_take (i := 9) (v := .bool false) rfl (by kernel_rfl) (by kernel_rfl) (by kernel_rfl) (fun c a w h => hKp c a _ _ w h) (Or.inl ⟨by kernel_rfl, fun w hSw => by dsimp only at hSw; obtain ⟨-, hs1, hs2⟩ := hSw; go_simp⟩) (by assumption) ?_
        simp only [Act.put, List.getElem_toArray, List.getElem_cons_zero, List.getElem_cons_succ, List.setIfInBounds_toArray, List.set_cons_zero, List.set_cons_succ]
        refine wpAnyH_take (i := 10) (v := .bool false) rfl (by kernel_rfl) (by kernel_rfl) (by kernel_rfl) (fun c a w h => hKp c a _ _ w h) (Or.inl ⟨by kernel_rfl, fun w hSw => by dsimp only at hSw; obtain ⟨-, hs1, hs2⟩ := hSw; go_simp⟩) (by assumption) ?_
        simp only [Act.put, List.getElem_toArray, List.getElem_cons_zero, List.getElem_cons_succ, List.setIfInBounds_toArray, List.set_cons_zero, List.set_cons_succ]
        refine wpAnyH_take (i := 11) (v := .bool true) rfl (by kernel_rfl) (by kernel_rfl) (by kernel_rfl) (fun c a w h => hKp c a _ _ w h) (Or.inl ⟨by kernel_rfl, fun w hSw => by dsimp only at hSw; obtain ⟨-, hs1, hs2⟩ := hSw; go_simp⟩) (by assumption) ?_
        simp only [Act.put, List.getElem_toArray, List.getElem_cons_zero, List.getElem_cons_succ, List.setIfInBounds_toArray, List.set_cons_zero, List.set_cons_succ]
        refine wpAnyH_take (i := 12) (v := .bool true) rfl (by kernel_rfl) (by kernel_rfl) (by kernel_rfl) (fun c a w h => hKp c a _ _ w h) (Or.inl ⟨by kernel_rfl, fun w hSw => by dsimp only at hSw; obtain ⟨-, hs1, hs2⟩ := hSw; go_simp⟩) (by assumption) ?_
        simp only [Act.put, List.getElem_toArray, List.getElem_cons_zero, List.getElem_cons_succ, List.setIfInBounds_toArray, List.set_cons_zero, List.set_cons_succ]
        refine wpAnyH_take (i := 13) (v := .string lo) rfl (by kernel_rfl) (by kernel_rfl) (by kernel_rfl) (fun c a w h => hKp c a _ _ w h) (Or.inl ⟨by kernel_rfl, fun w hSw => by dsimp only at hSw; obtain ⟨-, hs1, hs2⟩ := hSw; go_simp⟩) (by assumption) ?_
        simp only [Act.put, List.getElem_toArray, List.getElem_cons_zero, List.getElem_cons_succ, List.setIfInBounds_toArray, List.set_cons_zero, List.set_cons_succ]
        refine wpAnyH_take (i := 14) (v := .int .i64 4) rfl (by kernel_rfl) (by kernel_rfl) (by kernel_rfl) (fun c a w h => hKp c a _ _ w h) (Or.inl ⟨by kernel_rfl, fun w hSw => by dsimp only at hSw; obtain ⟨-, hs1, hs2⟩ := hSw; go_simp⟩) (by assumption) ?_
        simp only [Act.put, List.getElem_toArray, List.getElem_cons_zero, List.getElem_cons_succ, List.setIfInBounds_toArray, List.set_cons_zero, List.set_cons_succ]
        refine wpAnyH_take (i := 15) (v := .bool false) rfl (by kernel_rfl) (by kernel_rfl) (by kernel_rfl) (fun c a w h => hKp c a _ _ w h) (Or.inl ⟨by kernel_rfl, fun w hSw => by dsimp only at hSw; obtain ⟨-, hs1, hs2⟩ := hSw; go_simp⟩) (by assumption) ?_
        simp only [Act.put, List.getElem_toArray, List.getElem_cons_zero, List.getElem_cons_succ, List.setIfInBounds_toArray, List.set_cons_zero, List.set_cons_succ]
        refine wpAnyH_take (i := 16) (v := .bool false) rfl (by kernel_rfl) (by kernel_rfl) (by kernel_rfl) (fun c a w h => hKp c a _ _ w h) (Or.inl ⟨by kernel_rfl, fun w hSw => by dsimp only at hSw; obtain ⟨-, hs1, hs2⟩ := hSw; go_simp⟩) (by assumption) ?_
        simp only [Act.put, List.getElem_toArray, List.getElem_cons_zero, List.getElem_cons_succ, List.setIfInBounds_toArray, List.set_cons_zero, List.set_cons_succ]
        refine wpAnyH_take (i := 17) (v := .bool false) rfl (by kernel_rfl) (by kernel_rfl) (by kernel_rfl) (fun c a w h => hKp c a _ _ w h) (Or.inl ⟨by kernel_rfl, fun w hSw => by dsimp only at hSw; obtain ⟨-, hs1, hs2⟩ := hSw; go_simp⟩) (by assumption) ?_
        simp only [Act.put, List.getElem_toArray, List.getElem_cons_zero, List.getElem_cons_succ, List.setIfInBounds_toArray, List.set_cons_zero, List.set_cons_succ]
        refine wpAnyH_take (i := 18) (v := undef) rfl (by kernel_rfl) (by kernel_rfl) (by kernel_rfl) (fun c a w h => hKp c a _ _ w h) (Or.inr ⟨by kernel_rfl, rfl⟩) (by assumption) ?_
        simp only [Act.put, List.getElem_toArray, List.getElem_cons_zero, List.getElem_cons_succ, List.setIfInBounds_toArray, List.set_cons_zero, List.set_cons_succ]
        refine wpAnyH_take (i := 19) (v := undef) rfl (by kernel_rfl) (by kernel_rfl) (by kernel_rfl) (fun c a w h => hKp c a _ _ w h) (Or.inr ⟨by kernel_rfl, rfl⟩) (by assumption) ?_
        simp only [Act.put, List.getElem_toArray, List.getElem_cons_zero, List.getElem_cons_succ, List.setIfInBounds_toArray, List.set_cons_zero, List.set_cons_succ]
        refine wpAnyH_take (i := 20) (v := undef) rfl (by kernel_rfl) (by kernel_rfl) (by kernel_rfl) (fun c a w h => hKp c a _ _ w h) (Or.inr ⟨by kernel_rfl, rfl⟩) (by assumption) ?_
        simp only [Act.put, List.getElem_toArray, List.getElem_cons_zero, List.getElem_cons_succ, List.setIfInBounds_toArray, List.set_cons_zero, List.set_cons_succ]
        refine wpAnyH_take (i := 21) (v := undef) rfl (by kernel_rfl) (by kernel_rfl) (by kernel_rfl) (fun c a w h => hKp c a _ _ w h) (Or.inr ⟨by kernel_rfl, rfl⟩) (by assumption) ?_
        simp only [Act.put, List.getElem_toArray, List.getElem_cons_zero, List.getElem_cons_succ, List.setIfInBounds_toArray, List.set_cons_zero, List.set_cons_succ]
        refine wpAnyH_take (i := 22) (v := undef) rfl (by kernel_rfl) (by kernel_rfl) (by kernel_rfl) (fun c a w h => hKp c a _ _ w h) (Or.inr ⟨by kernel_rfl, rfl⟩) (by assumption) ?_
        simp only [Act.put, List.getElem_toArray, List.getElem_cons_zero, List.getElem_cons_succ, List.setIfInBounds_toArray, List.set_cons_zero, List.set_cons_succ]
        refine wpAnyH_take (i := 23) (v := undef) rfl (by kernel_rfl) (by kernel_rfl) (by kernel_rfl) (fun c a w h => hKp c a _ _ w h) (Or.inr ⟨by kernel_rfl, rfl⟩) (by assumption) ?_
        simp only [Act.put, List.getElem_toArray, List.getElem_cons_zero, List.getElem_cons_succ, List.setIfInBounds_toArray, List.set_cons_zero, List.set_cons_succ]
        refine wpAnyH_take (i := 24) (v := undef) rfl (by kernel_rfl) (by kernel_rfl) (by kernel_rfl) (fun c a w h => hKp c a _ _ w h) (Or.inr ⟨by kernel_rfl, rfl⟩) (by assumption) ?_
        simp only [Act.put, List.getElem_toArray, List.getElem_cons_zero, List.getElem_cons_succ, List.setIfInBounds_toArray, List.set_cons_zero, List.set_cons_succ]
        refine wpAnyH_take (i := 25) (v := undef) rfl (by kernel_rfl) (by kernel_rfl) (by kernel_rfl) (fun c a w h => hKp c a _ _ w h) (Or.inr ⟨by kernel_rfl, rfl⟩) (by assumption) ?_
        simp only [Act.put, List.getElem_toArray, List.getElem_cons_zero, List.getElem_cons_succ, List.setIfInBounds_toArray, List.set_cons_zero, List.set_cons_succ]
        refine wpAnyH_take (i := 26) (v := undef) rfl (by kernel_rfl) (by kernel_rfl) (by kernel_rfl) (fun c a w h => hKp c a _ _ w h) (Or.inr ⟨by kernel_rfl, rfl⟩) (by assumption) ?_
        simp only [Act.put, List.getElem_toArray, List.getElem_cons_zero, List.getElem_cons_succ, List.setIfInBounds_toArray, List.set_cons_zero, List.set_cons_succ]
        refine wpAnyH_take (i := 27) (v := undef) rfl (by kernel_rfl) (by kernel_rfl) (by kernel_rfl) (fun c a w h => hKp c a _ _ w h) (Or.inr ⟨by kernel_rfl, rfl⟩) (by assumption) ?_
        simp only [Act.put, List.getElem_toArray, List.getElem_cons_zero, List.getElem_cons_succ, List.setIfInBounds_toArray, List.set_cons_zero, List.set_cons_succ]
        refine wpAnyH_take (i := 28) (v := .bool false) rfl (by kernel_rfl) (by kernel_rfl) (by kernel_rfl) (fun c a w h => hKp c a _ _ w h) (Or.inl ⟨by kernel_rfl, fun w hSw => by dsimp only at hSw; obtain ⟨-, hs1, hs2⟩ := hSw; go_simp⟩) (by assumption) ?_
        simp only [Act.put, List.getElem_toArray, List.getElem_cons_zero, List.getElem_cons_succ, List.setIfInBounds_toArray, List.set_cons_zero, List.set_cons_succ]
        refine wpAnyH_take (i := 29) (v := .bool false) rfl (by kernel_rfl) (by kernel_rfl) (by kernel_rfl) (fun c a w h => hKp c a _ _ w h) (Or.inl ⟨by kernel_rfl, fun w hSw => by dsimp only at hSw; obtain ⟨-, hs1, hs2⟩ := hSw; go_simp⟩) (by assumption) ?_
        simp only [Act.put, List.getElem_toArray, List.getElem_cons_zero, List.getElem_cons_succ, List.setIfInBounds_toArray, List.set_cons_zero, List.set_cons_succ]
        refine wpAnyH_take (i := 30) (v := .bool false) rfl (by kernel_rfl) (by kernel_rfl) (by kernel_rfl) (fun c a w h => hKp c a _ _ w h) (Or.inl ⟨by kernel_rfl, fun w hSw => by dsimp only at hSw; obtain ⟨-, hs1, hs2⟩ := hSw; go_simp⟩) (by assumption) ?_
        simp only [Act.put, List.getElem_toArray, List.getElem_cons_zero, List.getElem_cons_succ, List.setIfInBounds_toArray, List.set_cons_zero, List.set_cons_succ]
        refine wpAnyH_take (i := 31) (v := .bool true) rfl (by kernel_rfl) (by kernel_rfl) (by kernel_rfl) (fun c a w h => hKp c a _ _ w h) (Or.inl ⟨by kernel_rfl, fun w hSw => by dsimp only at hSw; obtain ⟨-, hs1, hs2⟩ := hSw; go_simp⟩) (by assumption) ?_
        simp only [Act.put, List.getElem_toArray, List.getElem_cons_zero, List.getElem_cons_succ, List.setIfInBounds_toArray, List.set_cons_zero, List.set_cons_succ]
        refine wpAnyH_take (i := 32) (v := .bool true) rfl (by kernel_rfl) (by kernel_rfl) (by kernel_rfl) (fun c a w h => hKp c a _ _ w h) (Or.inl ⟨by kernel_rfl, fun w hSw => by dsimp only at hSw; obtain ⟨-, hs1, hs2⟩ := hSw; go_simp⟩) (by assumption) ?_
        simp only [Act.put, List.getElem_toArray, List.getElem_cons_zero, List.getElem_cons_succ, List.setIfInBounds_toArray, List.set_cons_zero, List.set_cons_succ]
        refine wpAnyH_take (i := 33) (v := .string lo) rfl (by kernel_rfl) (by kernel_rfl) (by kernel_rfl) (fun c a w h => hKp c a _ _ w h) (Or.inl ⟨by kernel_rfl, fun w hSw => by dsimp only at hSw; obtain ⟨-, hs1, hs2⟩ := hSw; go_simp⟩) (by assumption) ?_
        simp only [Act.put, List.getElem_toArray, List.getElem_cons_zero, List.getElem_cons_succ, List.setIfInBounds_toArray, List.set_cons_zero, List.set_cons_succ]
        refine wpAnyH_take (i := 34) (v := .int .i64 4) rfl (by kernel_rfl) (by kernel_rfl) (by kernel_rfl) (fun c a w h => hKp c a _ _ w h) (Or.inl ⟨by kernel_rfl, fun w hSw => by dsimp only at hSw; obtain ⟨-, hs1, hs2⟩ := hSw; go_simp⟩) (by assumption) ?_
        simp only [Act.put, List.getElem_toArray, List.getElem_cons_zero, List.getElem_cons_succ, List.setIfInBounds_toArray, List.set_cons_zero, List.set_cons_succ]
        refine wpAnyH_take (i := 35) (v := .bool true) rfl (by kernel_rfl) (by kernel_rfl) (by kernel_rfl) (fun c a w h => hKp c a _ _ w h) (Or.inl ⟨by kernel_rfl, fun w hSw => by dsimp only at hSw; obtain ⟨-, hs1, hs2⟩ := hSw; go_simp⟩) (by assumption) ?_
        simp only [Act.put, List.getElem_toArray, List.getElem_cons_zero, List.getElem_cons_succ, List.setIfInBounds_toArray, List.set_cons_zero, List.set_cons_succ]
        refine wpAnyH_take (i := 36) (v := .bool true) rfl (by kernel_rfl) (by kernel_rfl) (by kernel_rfl) (fun c a w h => hKp c a _ _ w h) (Or.inl ⟨by kernel_rfl, fun w hSw => by dsimp only at hSw; obtain ⟨-, hs1, hs2⟩ := hSw; go_simp⟩) (by assumption) ?_
        simp only [Act.put, List.getElem_toArray, List.getElem_cons_zero, List.getElem_cons_succ, List.setIfInBounds_toArray, List.set_cons_zero, List.set_cons_succ]
        refine wpAnyH_take (i := 37) (v := .bool true) rfl (by kernel_rfl) (by kernel_rfl) (by kernel_rfl) (fun c a w h => hKp c a _ _ w h) (Or.inl ⟨by kernel_rfl, fun w hSw => by dsimp only at hSw; obtain ⟨-, hs1, hs2⟩ := hSw; go_simp⟩) (by assumption) ?_
        simp only [Act.put, List.getElem_toArray, List.getElem_cons_zero, List.getElem_cons_succ, List.setIfInBounds_toArray, List.set_cons_zero, List.set_cons_succ]
        refine wpAnyH_take (i := 38) (v := .slice (some ⟨g2, 0, none⟩) (n + 1) cap2) rfl (by kernel_rfl) (by kernel_rfl) (by kernel_rfl) (fun c a w h => hKp c a _ _ w h) (Or.inl ⟨by kernel_rfl, fun w hSw => by dsimp only at hSw; obtain ⟨-, hs1, hs2⟩ := hSw; go_simp⟩) (by assumption) ?_
        simp only [Act.put, List.getElem_toArray, List.getElem_cons_zero, List.getElem_cons_succ, List.setIfInBounds_toArray, List.set_cons_zero, List.set_cons_succ]
        refine wpAnyH_take (i := 39) (v := .int .i64 (k : Int)) rfl (by kernel_rfl) (by kernel_rfl) (by kernel_rfl) (fun c a w h => hKp c a _ _ w h) (Or.inl ⟨by kernel_rfl, fun w hSw => by dsimp only at hSw; obtain ⟨-, hs1, hs2⟩ := hSw; go_simp⟩) (by assumption) ?_
        simp only [Act.put, List.getElem_toArray, List.getElem_cons_zero, List.getElem_cons_succ, List.setIfInBounds_toArray, List.set_cons_zero, List.set_cons_succ]
        refine wpAnyH_take (i := 40) (v := .pointer (some ⟨g2, k, none⟩)) rfl (by kernel_rfl) (by kernel_rfl) (by kernel_rfl) (fun c a w h => hKp c a _ _ w h) (Or.inl ⟨by kernel_rfl, fun w hSw => by dsimp only at hSw; obtain ⟨-, hs1, hs2⟩ := hSw; go_simp⟩) (by assumption) ?_
        simp only [Act.put, List.getElem_toArray, List.getElem_cons_zero, List.getElem_cons_succ, List.setIfInBounds_toArray, List.set_cons_zero, List.set_cons_succ]
        refine wpAnyH_take (i := 41) (v := .string q) rfl (by kernel_rfl) (by kernel_rfl) (by kernel_rfl) (fun c a w h => hKp c a _ _ w h) (Or.inl ⟨by kernel_rfl, fun w hSw => by dsimp only at hSw; obtain ⟨-, hs1, hs2⟩ := hSw; go_simp⟩) (by assumption) ?_
        simp only [Act.put, List.getElem_toArray, List.getElem_cons_zero, List.getElem_cons_succ, List.setIfInBounds_toArray, List.set_cons_zero, List.set_cons_succ]
        refine wpAnyH_take (i := 42) (v := .string (q.extract 1 4)) rfl (by kernel_rfl) (by kernel_rfl) (by kernel_rfl) (fun c a w h => hKp c a _ _ w h) (Or.inl ⟨by kernel_rfl, fun w hSw => by dsimp only at hSw; obtain ⟨-, hs1, hs2⟩ := hSw; go_simp⟩) (by assumption) ?_
        simp only [Act.put, List.getElem_toArray, List.getElem_cons_zero, List.getElem_cons_succ, List.setIfInBounds_toArray, List.set_cons_zero, List.set_cons_succ]
        refine wpAnyH_take (i := 43) (v := .string lo) rfl (by kernel_rfl) (by kernel_rfl) (by kernel_rfl) (fun c a w h => hKp c a _ _ w h) (Or.inl ⟨by kernel_rfl, fun w hSw => by dsimp only at hSw; obtain ⟨-, hs1, hs2⟩ := hSw; go_simp⟩) (by assumption) ?_
        simp only [Act.put, List.getElem_toArray, List.getElem_cons_zero, List.getElem_cons_succ, List.setIfInBounds_toArray, List.set_cons_zero, List.set_cons_succ]
        refine wpAnyH_take (i := 44) (v := .string (lo.extract 1 4)) rfl (by kernel_rfl) (by kernel_rfl) (by kernel_rfl) (fun c a w h => hKp c a _ _ w h) (Or.inl ⟨by kernel_rfl, fun w hSw => by dsimp only at hSw; obtain ⟨-, hs1, hs2⟩ := hSw; go_simp⟩) (by assumption) ?_
        simp only [Act.put, List.getElem_toArray, List.getElem_cons_zero, List.getElem_cons_succ, List.setIfInBounds_toArray, List.set_cons_zero, List.set_cons_succ]
        refine wpAnyH_take (i := 45) (v := .bool false) rfl (by kernel_rfl) (by kernel_rfl) (by kernel_rfl) (fun c a w h => hKp c a _ _ w h) (Or.inl ⟨by kernel_rfl, fun w hSw => by dsimp only at hSw; obtain ⟨-, hs1, hs2⟩ := hSw; go_simp⟩) (by assumption) ?_
        simp only [Act.put, List.getElem_toArray, List.getElem_cons_zero, List.getElem_cons_succ, List.setIfInBounds_toArray, List.set_cons_zero, List.set_cons_succ]
        refine wpAnyH_take (i := 46) (v := .bool false) rfl (by kernel_rfl) (by kernel_rfl) (by kernel_rfl) (fun c a w h => hKp c a _ _ w h) (Or.inl ⟨by kernel_rfl, fun w hSw => by dsimp only at hSw; obtain ⟨-, hs1, hs2⟩ := hSw; go_simp⟩) (by assumption) ?_
        simp only [Act.put, List.getElem_toArray, List.getElem_cons_zero, List.getElem_cons_succ, List.setIfInBounds_toArray, List.set_cons_zero, List.set_cons_succ]
        refine wpAnyH_take (i := 47) (v := .slice (some ⟨g2, 0, none⟩) (n + 1) cap2) rfl (by kernel_rfl) (by kernel_rfl) (by kernel_rfl) (fun c a w h => hKp c a _ _ w h) (Or.inl ⟨by kernel_rfl, fun w hSw => by dsimp only at hSw; obtain ⟨-, hs1, hs2⟩ := hSw; go_simp⟩) (by assumption) ?_
        simp only [Act.put, List.getElem_toArray, List.getElem_cons_zero, List.getElem_cons_succ, List.setIfInBounds_toArray, List.set_cons_zero, List.set_cons_succ]
        refine wpAnyH_take (i := 48) (v := .int .i64 (k : Int)) rfl (by kernel_rfl) (by kernel_rfl) (by kernel_rfl) (fun c a w h => hKp c a _ _ w h) (Or.inl ⟨by kernel_rfl, fun w hSw => by dsimp only at hSw; obtain ⟨-, hs1, hs2⟩ := hSw; go_simp⟩) (by assumption) ?_
        simp only [Act.put, List.getElem_toArray, List.getElem_cons_zero, List.getElem_cons_succ, List.setIfInBounds_toArray, List.set_cons_zero, List.set_cons_succ]
        refine wpAnyH_take (i := 49) (v := .pointer (some ⟨g2, k, none⟩)) rfl (by kernel_rfl) (by kernel_rfl) (by kernel_rfl) (fun c a w h => hKp c a _ _ w h) (Or.inl ⟨by kernel_rfl, fun w hSw => by dsimp only at hSw; obtain ⟨-, hs1, hs2⟩ := hSw; go_simp⟩) (by assumption) ?_
        simp only [Act.put, List.getElem_toArray, List.getElem_cons_zero, List.getElem_cons_succ, List.setIfInBounds_toArray, List.set_cons_zero, List.set_cons_succ]
        refine wpAnyH_take (i := 50) (v := .string q) rfl (by kernel_rfl) (by kernel_rfl) (by kernel_rfl) (fun c a w h => hKp c a _ _ w h) (Or.inl ⟨by kernel_rfl, fun w hSw => by dsimp only at hSw; obtain ⟨-, hs1, hs2⟩ := hSw; go_simp⟩) (by assumption) ?_
        simp only [Act.put, List.getElem_toArray, List.getElem_cons_zero, List.getElem_cons_succ, List.setIfInBounds_toArray, List.set_cons_zero, List.set_cons_succ]
        refine wpAnyH_take (i := 51) (v := .string (q.extract 0 1)) rfl (by kernel_rfl) (by kernel_rfl) (by kernel_rfl) (fun c a w h => hKp c a _ _ w h) (Or.inl ⟨by kernel_rfl, fun w hSw => by dsimp only at hSw; obtain ⟨-, hs1, hs2⟩ := hSw; go_simp⟩) (by assumption) ?_
        simp only [Act.put, List.getElem_toArray, List.getElem_cons_zero, List.getElem_cons_succ, List.setIfInBounds_toArray, List.set_cons_zero, List.set_cons_succ]
        refine wpAnyH_take (i := 52) (v := .string lo) rfl (by kernel_rfl) (by kernel_rfl) (by kernel_rfl) (fun c a w h => hKp c a _ _ w h) (Or.inl ⟨by kernel_rfl, fun w hSw => by dsimp only at hSw; obtain ⟨-, hs1, hs2⟩ := hSw; go_simp⟩) (by assumption) ?_
        simp only [Act.put, List.getElem_toArray, List.getElem_cons_zero, List.getElem_cons_succ, List.setIfInBounds_toArray, List.set_cons_zero, List.set_cons_succ]
        refine wpAnyH_take (i := 53) (v := .string (lo.extract 0 1)) rfl (by kernel_rfl) (by kernel_rfl) (by kernel_rfl) (fun c a w h => hKp c a _ _ w h) (Or.inl ⟨by kernel_rfl, fun w hSw => by dsimp only at hSw; obtain ⟨-, hs1, hs2⟩ := hSw; go_simp⟩) (by assumption) ?_
        simp only [Act.put, List.getElem_toArray, List.getElem_cons_zero, List.getElem_cons_succ, List.setIfInBounds_toArray, List.set_cons_zero, List.set_cons_succ]
        refine wpAnyH_ready (rs := [54]) (by kernel_rfl) (by simp) ?_
        refine AllReadyH.cons rfl (fun Kx hKx => ?_) AllReadyH.nil
        go_simp
        refine (UP.out _ hHeld.1).mono ?_
        rintro e w6 ⟨rfl, hb6, hc6, hd6⟩
        refine hKx.out _ _ ⟨hb6, hc6, hd6⟩ (fun hHeld => ?_)
        clear hKx Kx
        refine wpAnyH_take (i := 55) (v := .bool false) rfl (by kernel_rfl) (by kernel_rfl) (by kernel_rfl) (fun c a w h => hKp c a _ _ w h) (Or.inl ⟨by kernel_rfl, fun w hSw => by dsimp only at hSw; obtain ⟨-, hs1, hs2⟩ := hSw; go_simp⟩) (by assumption) ?_
        simp only [Act.put, List.getElem_toArray, List.getElem_cons_zero, List.getElem_cons_succ, List.setIfInBounds_toArray, List.set_cons_zero, List.set_cons_succ]
        refine wpAnyH_take (i := 56) (v := .bool false) rfl (by kernel_rfl) (by kernel_rfl) (by kernel_rfl) (fun c a w h => hKp c a _ _ w h) (Or.inl ⟨by kernel_rfl, fun w hSw => by dsimp only at hSw; obtain ⟨-, hs1, hs2⟩ := hSw; go_simp⟩) (by assumption) ?_
        simp only [Act.put, List.getElem_toArray, List.getElem_cons_zero, List.getElem_cons_succ, List.setIfInBounds_toArray, List.set_cons_zero, List.set_cons_succ]
        refine wpAnyH_take (i := 57) (v := .bool false) rfl (by kernel_rfl) (by kernel_rfl) (by kernel_rfl) (fun c a w h => hKp c a _ _ w h) (Or.inl ⟨by kernel_rfl, fun w hSw => by dsimp only at hSw; obtain ⟨-, hs1, hs2⟩ := hSw; go_simp⟩) (by assumption) ?_
        simp only [Act.put, List.getElem_toArray, List.getElem_cons_zero, List.getElem_cons_succ, List.setIfInBounds_toArray, List.set_cons_zero, List.set_cons_succ]
        refine wpAnyH_take (i := 58) (v := .bool false) rfl (by kernel_rfl) (by kernel_rfl) (by kernel_rfl) (fun c a w h => hKp c a _ _ w h) (Or.inl ⟨by kernel_rfl, fun w hSw => by dsimp only at hSw; obtain ⟨-, hs1, hs2⟩ := hSw; go_simp⟩) (by assumption) ?_
        simp only [Act.put, List.getElem_toArray, List.getElem_cons_zero, List.getElem_cons_succ, List.setIfInBounds_toArray, List.set_cons_zero, List.set_cons_succ]
        refine wpAnyH_done (by kernel_rfl) ?_ _
        exact hfin _ hHeld
        rintro w9 ⟨hb9, -, -⟩
        go_wp2
        have hBn := HBR.out.trans (Below.mono hb9 hBz)
        go_roundw
        case rel => exact ⟨k + 1, by have := HKL.out; omega, by go_num, by rw [← HSG.out], hBn⟩
        case measure => simp [intOf]; have := HKL.out; omega
      · obtain ⟨hsg, h1, hk0, hk2, hk4⟩ := hcs
        have g1' : ((p.size : Int) == 1) = false := by rw [beq_eq_false_iff_ne]; omega
        have hob : oneB p = false := decide_eq_false h1
        have g2' : (0 : Int) < (k : Int) := by omega
        have HSG := Lib.hid (show false = sglL (P.take (k + 1)) by rw [HSC.out, hsg, hob]; rfl)
        have HQ : turnS (decide (k = 0) || (sglL (P.take k) || oneB p)) p = lowS p := turn_plain _ p (.inr ⟨hk2, hk4⟩)
        rw [HQ] at CC
        clear HQ hc1 hc2
        rw [hsg]
        have LP := Lib.hid (fun w6 (hb6 : Below wr.heap.size wr w6) => (lower_ref p w6 (by omega)).mono (R' := fun e w7 => e = .returned (.string (lowS p)) ∧ Below wr.heap.size wr w7 ∧ w7.cell? ⟨g1, k, none⟩ = some (.string p) ∧ w7.cell? ⟨g2, k, none⟩ = some (.string (lowS p))) fun e w7 ⟨e1, e2⟩ => have h := hb6.trans (e2.mono hb6.size); ⟨e1, h, CC.out w7 h⟩)
        have hls := size_lowS p
        have e2 : ((p.size : Int) == 2) = false := by rw [beq_eq_false_iff_ne]; omega
        have e4 : ((p.size : Int) == 4) = false := by rw [beq_eq_false_iff_ne]; omega
        obtain ⟨hc1, hc2⟩ := CC.out wr (Below.refl _ _)
        clear hsg hk0 h1 hob hk2 hk4 CC hps
        generalize lowS p = q at *
        go_wp2_with (go_at_call 24; (with_reducible refine (LP.out _ (Below.refl _ _)).mono ?_); rintro e w5 ⟨rfl, hb5, hd1, hd2⟩; have hb5d := hb5.drew; have hd1d : w5.drew.cell? ⟨g1, k, none⟩ = _ := hd1; have hd2d : w5.drew.cell? ⟨g2, k, none⟩ = _ := hd2)
        go_quiet (fail)
        have hb9 := below_drewN hb5 nq
        go_wp2
        have hBn := HBR.out.trans (Below.mono hb9 hBz)
        go_roundw
        case rel => exact ⟨k + 1, by have := HKL.out; omega, by go_num, by rw [← HSG.out], hBn⟩
        case measure => simp [intOf]; have := HKL.out; omega
    · obtain rfl : k = n + 1 := by omega
      go_wp2
      go_ret
      exact ⟨rfl, hba.trans (hBr.mono hba.size)⟩
end Go.Proofs.Ytggfdmhfcpabdaa
