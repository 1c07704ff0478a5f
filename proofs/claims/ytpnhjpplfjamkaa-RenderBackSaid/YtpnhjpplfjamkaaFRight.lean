/-
  The document's own answers for package tag: Right.
-/
import Derived.Test.YtpnhjpplfjamkaaFRows
import Derived.Test.YtpnhjpplfjamkaaGrandR
import Derived.Test.YtpnhjpplfjamkaaPieceR
namespace Go.Proofs.Ytpnhjpplfjamkaa
open Go Go.RowKit

/-- Is all else empty? -/
def plainT (T : TagM) : Bool := decide (T.lang.size = 0) && (decide (T.extl.length = 0) && (decide (T.script.size = 0) && (decide (T.region.size = 0) && (decide (T.vars.length = 0) && decide (T.exts.length = 0)))))
/-- May it be? -/
def wholeT (T : TagM) : Bool := (languageS T.lang && ((decide (T.script.size = 0) || scriptS T.script) && ((decide (T.region.size = 0) || regionS T.region) && rowsT T))) && ((decide (T.extl.length ≤ 3) && !(decide (0 < T.extl.length) && decide (3 < T.lang.size))) && (T.extl.all extlangS && (findV (joinS (subtagsT T))).isNone))
def rightT (T : TagM) : Bool := smallT T && (if T.grand.size = 0 then (if T.lang.size = 0 then plainT T && (decide (0 < T.priv.length) && subsT T.priv 1) else wholeT T) else plainT T && (decide (T.priv.length = 0) && (findV T.grand).isSome))

set_option maxRecDepth 100000 in
set_option maxHeartbeats 8000000 in
theorem right_ref (v : Value) (T : TagM) (w : World) (hT : TagIs w v T) (hF : TagFits T) (hlen : (subtagsT T).length ≤ 20000) (hsz : ∀ x ∈ subtagsT T ++ [T.lang, T.script, T.region], x.size ≤ 1048576) (hpz : ∀ x ∈ T.priv, x.size ≤ 1048576) (hvz : ∀ x ∈ T.vars, x.size ≤ 1048576) (hez : ∀ x ∈ T.exts, x.1.size ≤ 1048576 ∧ ∀ y ∈ x.2, y.size ≤ 1048576) (hxz : ∀ x ∈ T.extl, x.size ≤ 1048576) :
    Calls Try.prog 6 #[v] w fun e w' => e = .returned (.bool (rightT T)) ∧ Below w.heap.size w w' := by
  have hT0 := hT
  obtain ⟨ve, vv, vx, vp, rfl, R1, R2, R3, R4⟩ := hT
  obtain ⟨W0, hW0⟩ : ∃ W0, w.alloc (.cells #[.string T.lang, ve, .string T.script, .string T.region, vv, vx, vp, .string T.grand] 29) = W0 := ⟨_, rfl⟩
  have hb0 : Below w.heap.size w W0 := by rw [← hW0]; exact (Below.refl _ w).alloc (Nat.le_refl _) _
  have hz0' : w.heap.size < W0.heap.size := by rw [← hW0]; simp
  have hh0 : W0.heap[w.heap.size]? = some (.cells #[.string T.lang, ve, .string T.script, .string T.region, vv, vx, vp, .string T.grand] 29 (0, 0)) := by rw [← hW0]; exact World.alloc_heap_new w _
  have HH := Lib.hid (fun wr (hb : Below W0.heap.size W0 wr) => tag_cells ((hb.block _ hz0').trans hh0))
  have hT1 := hT0.below hb0
  have SM := Lib.hid ((small_ref _ T W0 hT1 hF hlen hsz).mono (R' := fun e w6 => e = .returned (.bool (smallT T)) ∧ Below W0.heap.size W0 w6) fun e w6 ⟨p, q⟩ => ⟨p, q⟩)
  have R4 := R4.below hb0
  have R1 := R1.below hb0
  obtain ⟨a1, p1, rfl, K1⟩ := R1
  have K1 := Lib.hid K1
  obtain ⟨a2, p2, rfl, -⟩ := R2
  obtain ⟨a3, p3, rfl, -⟩ := R3
  have HSU := Lib.hid (fun w5 (hb : Below W0.heap.size W0 w5) => (subs_ref _ T.priv 1 w5 (R4.below hb) (by have := hF.2.2.2.2.1; omega) hpz))
  obtain ⟨a4, p4, rfl, -⟩ := R4
  obtain ⟨d0, d1, d2, d3, d4, d5, d6, d7⟩ := HH.out W0 (Below.refl _ _)
  have HB0 := Lib.hid hb0
  have HRT := Lib.hid (show rightT T = (smallT T && (if T.grand.size = 0 then (if T.lang.size = 0 then plainT T && (decide (0 < T.priv.length) && subsT T.priv 1) else wholeT T) else plainT T && (decide (T.priv.length = 0) && (findV T.grand).isSome))) from rfl)
  generalize rightT T = st at *
  clear hh0 hb0 hT0
  cases hs : smallT T with
  | false =>
    rw [hs] at SM
    have HE := Lib.hid (show st = false by rw [HRT.out, hs]; rfl)
    obtain ⟨lang, extl, script, region, vars, exts, priv, grand⟩ := T
    dsimp only at *
    clear hs
    go_enter Try.func6, Try.ntmps6
    go_wp2_with (go_at_call 20; (with_reducible refine SM.out.mono ?_); rintro e w5 ⟨rfl, hb5⟩)
    go_ret
    exact ⟨ret_bool HE.out.symm, HB0.out.trans (hb5.mono (Nat.le_of_lt hz0'))⟩
  | true =>
    rw [hs, Bool.true_and] at HRT
    rw [hs] at SM
    have HPL := Lib.hid (show plainT T = (decide (T.lang.size = 0) && (decide (T.extl.length = 0) && (decide (T.script.size = 0) && (decide (T.region.size = 0) && (decide (T.vars.length = 0) && decide (T.exts.length = 0)))))) from rfl)
    generalize plainT T = pl at *
    go_enter Try.func6, Try.ntmps6
    obtain ⟨lang, extl, script, region, vars, exts, priv, grand⟩ := T
    dsimp only at *
    clear hs
    go_upto_region 4 with (go_at_call 20; (with_reducible refine SM.out.mono ?_); rintro e w5 ⟨rfl, hb5⟩)
    clear d0 d1 d2 d3 d4 d5 d6 d7 hW0
    obtain ⟨d0, d1, d2, d3, d4, d5, d6, d7⟩ := HH.out _ hb5
    go_cut [4] from 16 to 46 (fun u wx => u = .bool pl ∧ wx = w5)
    case first =>
      by_cases h0 : lang.size = 0
      rotate_left 1
      · have f0 := empty_false (s := lang) (by omega)
        have HP := Lib.hid (show pl = false by rw [HPL.out, decide_eq_false h0]; simp)
        go_wp2_with fail
        go_meet
        case rel => exact ⟨by rw [HP.out], rfl⟩
      have f0 := empty_true (s := lang) (by omega)
      by_cases h1 : extl.length = 0
      rotate_left 1
      · have f1 : ((extl.length : Int) == 0) = false := by rw [beq_eq_false_iff_ne]; omega
        have HP := Lib.hid (show pl = false by rw [HPL.out, decide_eq_false h1]; simp)
        go_wp2_with fail
        go_meet
        case rel => exact ⟨by rw [HP.out], rfl⟩
      have f1 : ((extl.length : Int) == 0) = true := by rw [beq_iff_eq]; omega
      by_cases h2 : script.size = 0
      rotate_left 1
      · have f2 := empty_false (s := script) (by omega)
        have HP := Lib.hid (show pl = false by rw [HPL.out, decide_eq_false h2]; simp)
        go_wp2_with fail
        go_meet
        case rel => exact ⟨by rw [HP.out], rfl⟩
      have f2 := empty_true (s := script) (by omega)
      by_cases h3 : region.size = 0
      rotate_left 1
      · have f3 := empty_false (s := region) (by omega)
        have HP := Lib.hid (show pl = false by rw [HPL.out, decide_eq_false h3]; simp)
        go_wp2_with fail
        go_meet
        case rel => exact ⟨by rw [HP.out], rfl⟩
      have f3 := empty_true (s := region) (by omega)
      by_cases h4 : vars.length = 0
      rotate_left 1
      · have f4 : ((vars.length : Int) == 0) = false := by rw [beq_eq_false_iff_ne]; omega
        have HP := Lib.hid (show pl = false by rw [HPL.out, decide_eq_false h4]; simp)
        go_wp2_with fail
        go_meet
        case rel => exact ⟨by rw [HP.out], rfl⟩
      have f4 : ((vars.length : Int) == 0) = true := by rw [beq_iff_eq]; omega
      by_cases h5 : exts.length = 0
      rotate_left 1
      · have f5 : ((exts.length : Int) == 0) = false := by rw [beq_eq_false_iff_ne]; omega
        have HP := Lib.hid (show pl = false by rw [HPL.out, decide_eq_false h5]; simp)
        go_wp2_with fail
        go_meet
        case rel => exact ⟨by rw [HP.out], rfl⟩
      have f5 : ((exts.length : Int) == 0) = true := by rw [beq_iff_eq]; omega
      have HP := Lib.hid (show pl = true by rw [HPL.out, decide_eq_true h0, decide_eq_true h1, decide_eq_true h2, decide_eq_true h3, decide_eq_true h4, decide_eq_true h5]; rfl)
      go_wp2_with fail
      go_meet
      case rel => exact ⟨by rw [HP.out], rfl⟩
    obtain ⟨rfl, rfl⟩ := hcut
    clear HPL
    by_cases hg : grand.size = 0
    rotate_left 1
    · have g0 := empty_false (s := grand) (by omega)
      rw [if_neg hg] at HRT
      cases pl with
      | false =>
        have HE := Lib.hid (show st = false by rw [HRT.out]; rfl)
        go_wp2_with fail
        go_ret
        exact ⟨ret_bool HE.out.symm, HB0.out.trans (hb5.mono (Nat.le_of_lt hz0'))⟩
      | true =>
        have FI := Lib.hid (fun w6 => find5_any grand w6 hF.2.2.2.2.2)
        by_cases hp : priv.length = 0
        · have q0 : ((priv.length : Int) == 0) = true := by rw [beq_iff_eq]; omega
          obtain ⟨nv, hnv⟩ : ∃ nv, numV grand = nv := ⟨_, rfl⟩
          have HE := Lib.hid (show st = decide (0 ≤ nv) by rw [HRT.out, decide_eq_true hp, ← hnv]; unfold numV; cases findV grand <;> simp)
          rw [hnv] at FI
          go_wp2_with (go_at_call 21; (with_reducible refine (FI.out _).mono ?_); rintro e w6 ⟨rfl, hb6⟩)
          go_ret
          exact ⟨ret_bool HE.out.symm, HB0.out.trans ((hb5.trans (hb6.mono hb5.size)).mono (Nat.le_of_lt hz0'))⟩
        · have q0 : ((priv.length : Int) == 0) = false := by rw [beq_eq_false_iff_ne]; omega
          have HE := Lib.hid (show st = false by rw [HRT.out, decide_eq_false hp]; rfl)
          go_wp2_with fail
          go_ret
          exact ⟨ret_bool HE.out.symm, HB0.out.trans (hb5.mono (Nat.le_of_lt hz0'))⟩
    have g0 := empty_true (s := grand) (by omega)
    rw [if_pos hg] at HRT
    by_cases hl : lang.size = 0
    · have f0 := empty_true (s := lang) (by omega)
      rw [if_pos hl] at HRT
      have SU := Lib.hid (show Calls Try.prog 22 #[.slice a4 priv.length p4, .int .i64 1] _ fun e w' => e = .returned (.bool (subsT priv 1)) ∧ _ = w' from HSU.out _ hb5)
      obtain ⟨sb, hsb⟩ : ∃ sb, subsT priv 1 = sb := ⟨_, rfl⟩
      rw [hsb] at SU HRT
      have HE := Lib.hid HRT.out
      cases pl with
      | false =>
        go_wp2_with (go_at_call 22; (with_reducible refine SU.out.mono ?_); rintro e w6 ⟨rfl, rfl⟩)
        go_ret
        exact ⟨ret_bool HE.out.symm, HB0.out.trans (hb5.mono (Nat.le_of_lt hz0'))⟩
      | true =>
        by_cases hp : 0 < priv.length
        · have q0 : (0 : Int) < (priv.length : Int) := by omega
          have HE := Lib.hid (show st = sb by rw [HE.out, decide_eq_true hp]; rfl)
          go_wp2_with (go_at_call 22; (with_reducible refine SU.out.mono ?_); rintro e w6 ⟨rfl, rfl⟩)
          go_ret
          exact ⟨ret_bool HE.out.symm, HB0.out.trans (hb5.mono (Nat.le_of_lt hz0'))⟩
        · have q0 : ¬ (0 : Int) < (priv.length : Int) := by omega
          have HE := Lib.hid (show st = false by rw [HE.out, decide_eq_false hp]; rfl)
          go_wp2_with (go_at_call 22; (with_reducible refine SU.out.mono ?_); rintro e w6 ⟨rfl, rfl⟩)
          go_ret
          exact ⟨ret_bool HE.out.symm, HB0.out.trans (hb5.mono (Nat.le_of_lt hz0'))⟩
    have f0 := empty_false (s := lang) (by omega)
    rw [if_neg hl] at HRT
    obtain ⟨L, hL⟩ : ∃ L, subtagsT ⟨lang, extl, script, region, vars, exts, priv, grand⟩ = L := ⟨_, rfl⟩
    have zl := hsz lang (List.mem_append_right _ (by simp))
    have zs := hsz script (List.mem_append_right _ (by simp))
    have zr := hsz region (List.mem_append_right _ (by simp))
    have zL : ∀ x ∈ L, x.size ≤ 1048576 := fun x hx => hsz x (List.mem_append_left _ (by rw [hL]; exact hx))
    obtain ⟨x0, hx0⟩ : ∃ x0, L[0]? = some x0 := ⟨lang, by rw [← hL]; unfold subtagsT; rw [if_pos hg]; unfold oneT; rw [if_neg hl]; rfl⟩
    rw [hL] at hlen
    have HW := Lib.hid (show wholeT ⟨lang, extl, script, region, vars, exts, priv, grand⟩ = ((languageS lang && ((decide (script.size = 0) || scriptS script) && ((decide (region.size = 0) || regionS region) && rowsT ⟨lang, extl, script, region, vars, exts, priv, grand⟩))) && ((decide (extl.length ≤ 3) && !(decide (0 < extl.length) && decide (3 < lang.size))) && (extl.all extlangS && (findV (joinS L)).isNone))) from by rw [← hL]; rfl)
    rw [HW.out] at HRT
    have LR := Lib.hid (fun w6 => language_ref lang w6 (by omega))
    have SR := Lib.hid (fun w6 => script_ref script w6 (by omega))
    have GR := Lib.hid (fun w6 => region_ref region w6 (by omega))
    have RR := Lib.hid (fun w6 (hb : Below W0.heap.size W0 w6) => rows_ref _ ⟨lang, extl, script, region, vars, exts, priv, grand⟩ w6 (hT1.below hb) hF hvz hez hpz)
    have SB := Lib.hid (fun w6 (hb : Below W0.heap.size W0 w6) => subtags_ref _ ⟨lang, extl, script, region, vars, exts, priv, grand⟩ w6 (hT1.below hb) hF)
    rw [hL] at SB
    have HJ := Lib.hid (show (joinS L).size ≤ 140737488351232 by
      have h1 := joinS_size 1048576 L zL
      omega)
    obtain ⟨J, hJ⟩ : ∃ J, joinS L = J := ⟨_, rfl⟩
    rw [hJ] at HJ HRT
    have FI := Lib.hid (fun w6 => find5_big J w6 HJ.out)
    obtain ⟨nv, hnv⟩ : ∃ nv, numV J = nv := ⟨_, rfl⟩
    have HNV := Lib.hid (show (findV J).isNone = decide (nv < 0) by rw [← hnv]; unfold numV; cases findV J <;> simp)
    rw [HNV.out] at HRT
    rw [hnv] at FI
    clear hsz hnv hL HW HNV SM HSU
    obtain ⟨bl, hbl⟩ : ∃ bl, languageS lang = bl := ⟨_, rfl⟩
    obtain ⟨bs, hbs⟩ : ∃ bs, (decide (script.size = 0) || scriptS script) = bs := ⟨_, rfl⟩
    obtain ⟨br, hbr⟩ : ∃ br, (decide (region.size = 0) || regionS region) = br := ⟨_, rfl⟩
    obtain ⟨ba, hba⟩ : ∃ ba, rowsT ⟨lang, extl, script, region, vars, exts, priv, grand⟩ = ba := ⟨_, rfl⟩
    rw [hbl] at LR HRT
    rw [hbs, hbr] at HRT
    rw [hba] at HRT RR
    clear hbl hba
    go_upto_region 11 with (go_at_call 23; (with_reducible refine (LR.out _).mono ?_); rintro e w6 ⟨rfl, rfl⟩)
    go_cut [7] from 82 to 89 (fun u wx => u = .bool bs ∧ Below W0.heap.size W0 wx)
    case first =>
      by_cases h2 : script.size = 0
      · have f2 := empty_true (s := script) (by omega)
        have HP := Lib.hid (show bs = true by rw [← hbs, decide_eq_true h2]; rfl)
        go_wp2_with fail
        go_meet
        case rel => exact ⟨by rw [HP.out], hb5⟩
      · have f2 := empty_false (s := script) (by omega)
        have HP := Lib.hid (show scriptS script = bs by rw [← hbs, decide_eq_false h2]; rfl)
        rw [HP.out] at SR
        go_wp2_with (go_at_call 24; (with_reducible refine (SR.out _).mono ?_); rintro e w6 ⟨rfl, rfl⟩)
        go_meet
        case rel => exact ⟨rfl, hb5⟩
    obtain ⟨rfl, hb6⟩ := hcut
    clear d0 d1 d2 d3 d4 d5 d6 d7 hb5 hbs SR
    obtain ⟨d0, d1, d2, d3, d4, d5, d6, d7⟩ := HH.out _ hb6
    go_upto_region 12 with fail
    go_cut [8] from 90 to 97 (fun u wx => u = .bool br ∧ Below W0.heap.size W0 wx)
    case first =>
      by_cases h2 : region.size = 0
      · have f2 := empty_true (s := region) (by omega)
        have HP := Lib.hid (show br = true by rw [← hbr, decide_eq_true h2]; rfl)
        go_wp2_with fail
        go_meet
        case rel => exact ⟨by rw [HP.out], hb6⟩
      · have f2 := empty_false (s := region) (by omega)
        have HP := Lib.hid (show regionS region = br by rw [← hbr, decide_eq_false h2]; rfl)
        rw [HP.out] at GR
        go_wp2_with (go_at_call 25; (with_reducible refine (GR.out _).mono ?_); rintro e w6 ⟨rfl, rfl⟩)
        go_meet
        case rel => exact ⟨rfl, hb6⟩
    obtain ⟨rfl, hb7⟩ := hcut
    clear d0 d1 d2 d3 d4 d5 d6 d7 hb6 hbr GR
    obtain ⟨d0, d1, d2, d3, d4, d5, d6, d7⟩ := HH.out _ hb7
    go_upto_region 14 with (go_at_call 26; (with_reducible refine (RR.out _ hb7).mono ?_); rintro e w8 ⟨rfl, hb8'⟩)
    have hb8 := hb7.trans (hb8'.mono hb7.size)
    clear d0 d1 d2 d3 d4 d5 d6 d7 hb7 hb8' RR LR
    obtain ⟨d0, d1, d2, d3, d4, d5, d6, d7⟩ := HH.out _ hb8
    by_cases hok : (bl && (bs && (br && ba))) = true
    rotate_left 1
    · have HE := Lib.hid (show st = false by rw [HRT.out, Bool.eq_false_iff.2 hok]; rfl)
      clear HRT
      cases bl with
      | false =>
        go_wp2_with fail
        go_ret
        exact ⟨ret_bool HE.out.symm, HB0.out.trans (hb8.mono (Nat.le_of_lt hz0'))⟩
      | true =>
        cases bs with
        | false =>
          go_wp2_with fail
          go_ret
          exact ⟨ret_bool HE.out.symm, HB0.out.trans (hb8.mono (Nat.le_of_lt hz0'))⟩
        | true =>
          cases br with
          | false =>
            go_wp2_with fail
            go_ret
            exact ⟨ret_bool HE.out.symm, HB0.out.trans (hb8.mono (Nat.le_of_lt hz0'))⟩
          | true =>
            cases ba with
            | false =>
              go_wp2_with fail
              go_ret
              exact ⟨ret_bool HE.out.symm, HB0.out.trans (hb8.mono (Nat.le_of_lt hz0'))⟩
            | true => exact (hok rfl).elim
    rw [hok, Bool.true_and] at HRT
    obtain rfl : bl = true := by cases bl <;> first | rfl | exact hok
    obtain rfl : bs = true := by cases bs <;> first | rfl | exact hok
    obtain rfl : br = true := by cases br <;> first | rfl | exact hok
    obtain rfl : ba = true := hok
    by_cases h3 : extl.length ≤ 3
    rotate_left 1
    · have q3 : (3 : Int) < (extl.length : Int) := by omega
      have HE := Lib.hid (show st = false by rw [HRT.out, decide_eq_false h3]; rfl)
      go_wp2_with fail
      go_ret
      exact ⟨ret_bool HE.out.symm, HB0.out.trans (hb8.mono (Nat.le_of_lt hz0'))⟩
    have q3 : ¬ (3 : Int) < (extl.length : Int) := by omega
    have HQ : (¬ (0 : Int) < (extl.length : Int) ∧ True) ∨ ((0 : Int) < (extl.length : Int) ∧ (3 : Int) < (lang.size : Int)) ∨ ((0 : Int) < (extl.length : Int) ∧ ¬ (3 : Int) < (lang.size : Int)) := by
      by_cases q : (0 : Int) < (extl.length : Int)
      · by_cases q4 : (3 : Int) < (lang.size : Int)
        · exact .inr (.inl ⟨q, q4⟩)
        · exact .inr (.inr ⟨q, q4⟩)
      · exact .inl ⟨q, trivial⟩
    have HRT2 : ¬ ((0 : Int) < (extl.length : Int) ∧ (3 : Int) < (lang.size : Int)) → st = (extl.all extlangS && decide (nv < 0)) := fun h => by
      have e1 : (decide (0 < extl.length) && decide (3 < lang.size)) = false := by
        rw [Bool.and_eq_false_iff, decide_eq_false_iff_not, decide_eq_false_iff_not]; omega
      rw [HRT.out, decide_eq_true h3, e1]; simp
    rcases HQ with ⟨q4, -⟩ | ⟨q4, q5⟩ | ⟨q4, q5⟩
    rotate_left 1
    · have HE := Lib.hid (show st = false by
        have e1 : (decide (0 < extl.length) && decide (3 < lang.size)) = true := by
          rw [Bool.and_eq_true, decide_eq_true_eq, decide_eq_true_eq]; omega
        rw [HRT.out, e1]; simp)
      go_wp2_with fail
      go_ret
      exact ⟨ret_bool HE.out.symm, HB0.out.trans (hb8.mono (Nat.le_of_lt hz0'))⟩
    all_goals
      have HST := Lib.hid (HRT2 (by omega))
      clear HRT HRT2
      have QZ := Lib.hid q4
      go_wp2_with fail
      go_loopw [10] (fun i wr => ∃ k : Nat, k ≤ extl.length ∧ i = .int .i64 (k : Int) ∧ (extl.take k).all extlangS = true ∧ Below W0.heap.size W0 wr) (fun i _ => extl.length - (intOf i).toNat)
      case atStart => exact ⟨0, Nat.zero_le _, rfl, rfl, hb8⟩
      case round =>
        obtain ⟨k, hk, rfl, HA, hB⟩ := hrel
        clear q3 q4
        clear d0 d1 d2 d3 d4 d5 d6 d7
        obtain ⟨d0, d1, d2, d3, d4, d5, d6, d7⟩ := HH.out _ hB
        by_cases hlt : k < extl.length
        · first
          | (exfalso; have hz := QZ.out; omega)
          | (
            have hki : (k : Int) < (extl.length : Int) := by omega
            have hk0 : (0 : Int) ≤ (k : Int) := by omega
            have hk1 : (k : Int) ≤ 100 := by omega
            obtain ⟨x, hx⟩ : ∃ x, extl[k]? = some x := ⟨_, List.getElem?_eq_getElem hlt⟩
            obtain ⟨g, rfl, hc⟩ := K1.out k x hx
            have hgl := lt_of_cellF hc
            have hcx := (hB.cell (p := ⟨g, k, none⟩) hgl).trans hc
            have ER := Lib.hid (fun w6 => extlang_ref x w6 (by have := hxz x (List.mem_of_getElem? hx); omega))
            have HN := Lib.hid (all_take_next extlangS hx)
            cases hex : extlangS x with
            | false =>
              rw [hex] at ER
              have HE := Lib.hid (show st = false by
                have e1 : extl.all extlangS = false := by
                  rw [← List.take_append_drop (k + 1) extl, List.all_append, HN.out, hex]; simp
                rw [HST.out, e1]; rfl)
              clear hx hc HA hex
              go_wp2_with (go_at_call 27; (with_reducible refine (ER.out _).mono ?_); rintro e w6 ⟨rfl, rfl⟩)
              go_ret
              exact ⟨ret_bool HE.out.symm, HB0.out.trans (hB.mono (Nat.le_of_lt hz0'))⟩
            | true =>
              rw [hex] at ER
              have HP := Lib.hid (show (extl.take (k + 1)).all extlangS = true by rw [HN.out, HA, hex]; rfl)
              clear hx hc HA hex
              go_wp2_with (go_at_call 27; (with_reducible refine (ER.out _).mono ?_); rintro e w6 ⟨rfl, rfl⟩)
              go_roundw
              case rel => exact ⟨k + 1, by omega, by go_num, HP.out, hB⟩
              case measure => simp [intOf]; omega)
        · obtain rfl : k = extl.length := by omega
          rw [List.take_of_length_le (Nat.le_refl _)] at HA
          have HE := Lib.hid (show st = decide (nv < 0) by rw [HST.out, HA]; rfl)
          have SB := Lib.hid (SB.out _ hB)
          have hki : ¬ (extl.length : Int) < (extl.length : Int) := by omega
          have HX0 := Lib.hid hx0
          have ZL := Lib.hid zL
          have HJJ := Lib.hid hJ
          have HLN := Lib.hid hlen
          clear HA hx0 zL hJ hlen
          go_wp2_with (first
            | (go_at_call 29; (with_reducible refine SB.out.mono ?_); rintro e w6 ⟨u, rfl, ho, hb6⟩; obtain ⟨ao, cp, rfl, HC⟩ := Row.of_own ho; obtain ⟨g, rfl, hc0⟩ := HC 0 x0 HX0.out; have JR := Lib.hid ((join_big g L.length cp L w6 (Nat.le_refl _) (by have := HLN.out; omega) ZL.out (fun i p hp => by obtain ⟨g', e, hc'⟩ := HC i p hp; cases e; exact hc')).mono (R' := fun e w' => e = .returned (.string J) ∧ w6 = w') fun e w' ⟨p, q⟩ => ⟨by rw [p, List.take_of_length_le (Nat.le_refl _), HJJ.out], q⟩))
            | (go_at_call 28; (with_reducible refine JR.out.mono ?_); rintro e w7 ⟨rfl, rfl⟩)
            | (go_at_call 21; (with_reducible refine (FI.out _).mono ?_); rintro e w8 ⟨rfl, hb9⟩))
          go_ret
          exact ⟨ret_bool HE.out.symm, HB0.out.trans (((hB.trans (hb6.mono hB.size)).trans (hb9.mono (hB.trans (hb6.mono hB.size)).size)).mono (Nat.le_of_lt hz0'))⟩
end Go.Proofs.Ytpnhjpplfjamkaa
