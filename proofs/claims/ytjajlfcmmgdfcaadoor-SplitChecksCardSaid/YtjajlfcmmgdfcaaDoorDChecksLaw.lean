/-
  SplitChecks: it returns true.
-/
import Derived.Test.YtjajlfcmmgdfcaaDoorDJoin
namespace Go.Proofs.YtjajlfcmmgdfcaaDoor
open Go Go.RowKit

/-- Are all pieces of a text subtags? -/
def goodS (s : ByteArray) : Bool := (splS s).all okS
theorem chk_good (s : ByteArray) : chkS s = none ↔ goodS s = true := by
  rw [chkS_none]
  unfold goodS splS
  rw [List.all_map, List.all_eq_true]
  simp only [Function.comp, okS_ofL]
theorem kind_good (s : ByteArray) : kindE s = if goodS s then 0 else 10 := by
  unfold kindE
  cases h : chkS s with
  | none => rw [if_pos ((chk_good s).1 h)]; rfl
  | some a =>
    have hg : goodS s = false := by
      cases h' : goodS s with
      | false => rfl
      | true => rw [(chk_good s).2 h'] at h; cases h
    rw [hg]; rfl
theorem good_piece {s p : ByteArray} (h : p ∈ splS s) : goodS p = okS p := by
  obtain ⟨l, hl, rfl⟩ := List.mem_map.1 h
  unfold goodS splS
  rw [bs_ofL, spl_plain (spl_mem _ _ hl)]
  simp
theorem joinS_two (x y : ByteArray) : joinS [x, y] = x ++ ⟨#[45]⟩ ++ y := by
  apply ofL_ext
  unfold joinS
  rw [bs_ofL, bs_glue]
  show joinP [bs x, bs y] = _
  rw [joinP_cons _ (by simp), joinP_one]
theorem good_glue (x y : ByteArray) : goodS (joinS [x, y]) = (goodS x && goodS y) := by
  rw [joinS_two]; unfold goodS; rw [splS_glue, List.all_append]

theorem pair_cells (w : World) (x y : ByteArray) : ∀ (i : Nat) (p : ByteArray), [x, y][i]? = some p → (w.alloc (.cells #[.string x, .string y] 9)).cell? ⟨w.heap.size, i, none⟩ = some (.string p) := by
  intro i p hp
  rcases i with _ | _ | i
  · simp at hp; subst hp; rw [World.cell?_alloc_at _ _ _ _ (by simp)]; rfl
  · simp at hp; subst hp; rw [World.cell?_alloc_at _ _ _ _ (by simp)]; rfl
  · simp at hp

theorem check_on (s : ByteArray) (w : World) (hs : s.size ≤ 1048576) : Hid (∀ w5, Below w.heap.size w w5 → Calls Tryd.prog 16 #[.string s] w5 fun e w6 => ∃ v, e = .returned v ∧ ErrIs w6 s v ∧ Below w.heap.size w w6) :=
  fun w5 hb => (check_any s w5 hs).mono fun _ _ ⟨v, p, q, r⟩ => ⟨v, p, q, hb.trans (r.mono hb.size)⟩
theorem kind_on (s : ByteArray) (w : World) (hg : TypeLaid w) (k : Int) (hk : kindE s = k) : Hid (∀ w5 v, Below w.heap.size w w5 → ErrIs w5 s v → Calls Tryd.prog 19 #[v] w5 fun e w6 => e = .returned (.int .i64 k) ∧ Below w5.heap.size w5 w6 ∧ Below w.heap.size w w6) :=
  fun w5 v hb hE => (kind_err w5 hE (hg.below hb hg.size)).mono fun _ _ ⟨p, q⟩ => ⟨by rw [p, hk], q, hb.trans (q.mono hb.size)⟩

set_option maxRecDepth 100000 in
set_option maxHeartbeats 16000000 in
theorem checks_law (a b : ByteArray) (w : World) (ha : a.size ≤ maxLen) (hb : b.size ≤ maxLen) (hg : TypeLaid w) :
    Calls Tryd.prog 6 #[.string a, .string b] w fun e w' => e = .returned (.bool true) ∧ Below w.heap.size w w' := by
  obtain ⟨x, hx⟩ : ∃ t, cut60 a = t := ⟨_, rfl⟩
  obtain ⟨y, hy⟩ : ∃ t, cut60 b = t := ⟨_, rfl⟩
  have hx60 : x.size ≤ 60 := by rw [← hx]; exact size_cut60 a
  have hy60 : y.size ≤ 60 := by rw [← hy]; exact size_cut60 b
  have SA := told (onwardS w fun w5 => short60_any a w5 ha) (ret_string hx)
  have SB := told (onwardS w fun w5 => short60_any b w5 hb) (ret_string hy)
  have A1 := awake4_on w hg
  have S1 := split_on x w (by omega)
  obtain ⟨n, hn⟩ : ∃ m, (splS x).length = m + 1 := ⟨(splS x).length - 1, by have := splS_pos x; omega⟩
  have hn60 : n ≤ 60 := by have := splS_le x; omega
  rw [hn] at S1
  have HN := Lib.hid hn
  have HG := Lib.hid hg
  have hB0 : Below w.heap.size w w := Below.refl _ _
  clear hx hy ha hb hg hn
  go_enter Tryd.func6, Tryd.ntmps6
  go_wp2_with (first
    | (go_at_call 9; ((with_reducible refine (A1.out _ (by assumption)).mono ?_); rintro e w5 ⟨rfl, hb5⟩))
    | (go_at_call 10; ((with_reducible refine (SA.out _ (by assumption)).mono ?_); rintro e w5 ⟨rfl, hb6⟩))
    | (go_at_call 10; ((with_reducible refine (SB.out _ (by assumption)).mono ?_); rintro e w5 ⟨rfl, hb6⟩))
    | (go_at_call 14; ((with_reducible refine (S1.out _ (by assumption)).mono ?_); rintro e w7 ⟨u, rfl, ho, _, hb7⟩; obtain ⟨g, cap, rfl⟩ := ownsRow_succ ho; have HC7 := Lib.hid (own_cell ho); have hg7 : g < w7.heap.size := (ho.lt g rfl).2; clear ho)))
  have hg8 := HG.out.below hb7 HG.out.size
  have CA := check_on x w7 (by omega)
  have CB := check_on y w7 (by omega)
  have CJ := check_on (joinS [x, y]) w7 (by rw [joinS_two, size_glue]; omega)
  have HG8 := Lib.hid hg8
  have HB7 := Lib.hid hb7
  have hb70 := Below.refl w7.heap.size w7
  clear hg8 hb7
  go_loopw [7, 8] (fun al i wr => ∃ k : Nat, k ≤ n + 1 ∧ i = .int .i64 k ∧ al = .bool (((splS x).take k).all okS) ∧ Below w7.heap.size w7 wr) (fun _ i _ => n + 1 - (intOf i).toNat)
  case atStart => exact ⟨0, Nat.zero_le _, rfl, rfl, hb70⟩
  case round =>
    obtain ⟨k, hk, rfl, rfl, hB⟩ := hrel
    rcases Nat.lt_or_ge k (n + 1) with hlt | hge
    · have hkl : k < (splS x).length := by rw [HN.out]; exact hlt
      obtain ⟨p, hp⟩ : ∃ p, (splS x)[k] = p := ⟨_, rfl⟩
      have hpg : (splS x)[k]? = some p := by rw [List.getElem?_eq_getElem hkl, hp]
      have hpm : p ∈ splS x := List.mem_of_getElem? hpg
      have hps : p.size ≤ 60 := Nat.le_trans (splS_size x p hpm) hx60
      have HS := Lib.hid (show ((splS x).take (k + 1)).all okS = (((splS x).take k).all okS && okS p) by rw [List.take_succ_eq_append_getElem hkl, List.all_append, hp]; simp)
      have hcw := HC7.out k p hpg
      have hcr : wr.cell? ⟨g, k, none⟩ = some (.string p) := (hB.cell (p := ⟨g, k, none⟩) hg7).trans hcw
      have C1 := check_on p w7 (by omega)
      have hki : (k : Int) < (n : Int) + 1 := by omega
      have hk0 : (0 : Int) ≤ (k : Int) := by omega
      have hk8 := kind_good p
      rw [good_piece hpm] at hk8
      have HCW := Lib.hid hcw
      clear hp hpg hpm hcw hkl
      rcases hal : ((splS x).take k).all okS with _ | _
      · rw [hal, Bool.false_and] at HS
        clear hal hk8
        go_wp2
        go_roundw
        case rel => exact ⟨k + 1, by omega, by go_num, by rw [HS.out], by assumption⟩
        case measure => simp [intOf]; omega
      · rw [hal, Bool.true_and] at HS
        clear hal
        rcases hok : okS p with _ | _
        · rw [hok] at HS hk8
          have KP := kind_on p w7 HG8.out 10 hk8
          clear hok hk8
          go_wp2_with (first
            | (go_at_call 16; ((with_reducible refine (C1.out _ (by assumption)).mono ?_); rintro e wc ⟨v, rfl, hE, hbc⟩))
            | (go_at_call 19; ((with_reducible refine (KP.out _ _ hbc hE).mono ?_); rintro e wk ⟨rfl, hk1, hbk⟩)))
          go_roundw
          case rel => exact ⟨k + 1, by omega, by go_num, by rw [HS.out], by assumption⟩
          case measure => simp [intOf]; omega
        · have hp8 : (p.size : Int) ≤ 8 := by
            unfold okS at hok
            rw [Bool.and_eq_true, decide_eq_true_iff] at hok
            omega
          rw [hok] at HS hk8
          have KP := kind_on p w7 HG8.out 0 hk8
          clear hok hk8
          go_wp2_with (first
            | (go_at_call 16; ((with_reducible refine (C1.out _ (by assumption)).mono ?_); rintro e wc ⟨v, rfl, hE, hbc⟩))
            | (go_at_call 19; ((with_reducible refine (KP.out _ _ hbc hE).mono ?_); rintro e wk ⟨rfl, hk1, hbk⟩; have hcr2 := (hbk.cell (p := ⟨g, k, none⟩) hg7).trans HCW.out)))
          go_roundw
          case rel => exact ⟨k + 1, by omega, by go_num, by rw [HS.out], by assumption⟩
          case measure => simp [intOf]; omega
    · obtain rfl : k = n + 1 := by omega
      have hall : ((splS x).take (n + 1)).all okS = goodS x := by rw [List.take_of_length_le (by rw [HN.out]; exact Nat.le_refl _)]; rfl
      rw [hall]
      have hka := kind_good x
      have hkb := kind_good y
      have hkj := kind_good (joinS [x, y])
      rw [good_glue] at hkj
      clear hall
      generalize goodS x = gx at *
      generalize goodS y = gy at *
      cases gx <;> cases gy
      all_goals
        simp only [if_true, if_false, Bool.false_eq_true] at hka hkb
        simp only [Bool.and_self, Bool.and_true, Bool.and_false, if_true, if_false, Bool.false_eq_true] at hkj
        have KA := kind_on x w7 HG8.out _ hka
        have KB := kind_on y w7 HG8.out _ hkb
        have KJ := kind_on (joinS [x, y]) w7 HG8.out _ hkj
        clear hka hkb hkj
        go_wp2_with (first
          | (go_at_call 16; ((with_reducible refine (CA.out _ (by assumption)).mono ?_); rintro e wc ⟨v, rfl, hE, hbc⟩))
          | (go_at_call 16; ((with_reducible refine (CB.out _ (by assumption)).mono ?_); rintro e wc ⟨v, rfl, hE, hbc⟩))
          | (go_at_call 16; ((with_reducible refine (CJ.out _ (by assumption)).mono ?_); rintro e wc ⟨v, rfl, hE, hbc⟩))
          | (go_at_call 19; ((with_reducible refine (KA.out _ _ hbc hE).mono ?_); rintro e wk ⟨rfl, hk1, hbk⟩))
          | (go_at_call 19; ((with_reducible refine (KB.out _ _ hbc hE).mono ?_); rintro e wk ⟨rfl, hk1, hbk⟩))
          | (go_at_call 19; ((with_reducible refine (KJ.out _ _ hbc hE).mono ?_); rintro e wk ⟨rfl, hk1, hbk⟩)))
        have hbj : Below w7.heap.size w7 (wk.alloc (.cells #[.string x, .string y] 9)) := hbk.alloc hbk.size _
        refine (join_row (l := [x, y]) (g := wk.heap.size) (n := 2) (cap := 2) _ rfl (by decide) (by decide) (by simp) (pair_cells wk x y) (by rw [joinS_two, size_glue]; omega)).mono ?_
        rintro e wj ⟨rfl, hj⟩
        have hbj2 : Below w7.heap.size w7 wj := hbj.trans (hj.mono hbj.size)
        clear hbj hj
        go_wp2_with (first
          | (go_at_call 16; ((with_reducible refine (CJ.out _ hbj2).mono ?_); rintro e wc2 ⟨v2, rfl, hE2, hbc2⟩))
          | (go_at_call 19; ((with_reducible refine (KJ.out _ _ hbc2 hE2).mono ?_); rintro e wk2 ⟨rfl, hk2, hbk2⟩)))
        go_ret
        exact ⟨rfl, HB7.out.trans (hbk2.mono HB7.out.size)⟩
end Go.Proofs.YtjajlfcmmgdfcaaDoor
