/-
  SplitParts: it returns true.
-/
import Derived.Test.YtjajlfcmmgdfcaaDoorDKit
import Derived.Test.YtjajlfcmmgdfcaaDoorDTrims
import Derived.OwnWalk
namespace Go.Proofs.YtjajlfcmmgdfcaaDoor
open Go Go.RowKit

theorem trim_glue (a b : ByteArray) (h : (splS b).length = 1) : (trimS (a ++ ⟨#[45]⟩ ++ b)).size ≤ a.size := by
  rw [splS_length] at h
  have hb : (45 : UInt8) ∉ bs b := by
    obtain ⟨p, hp⟩ := List.length_eq_one_iff.1 h
    have h1 := joinP_spl (bs b)
    rw [hp, joinP_one] at h1
    rw [← h1]
    exact spl_mem (bs b) p (by rw [hp]; simp)
  unfold trimS
  rw [bs_glue, trimL_some hb, size_ofL]
  obtain ⟨_, k, h2, h3, _⟩ := spl_joinP_strip (bs a)
  rw [h3, List.length_take, size_bs]
  rw [size_bs] at h2
  omega

set_option maxRecDepth 100000 in
set_option maxHeartbeats 16000000 in
theorem parts_law (a b : ByteArray) (w : World) (ha : a.size ≤ maxLen) (hb : b.size ≤ maxLen) (hg : TypeLaid w) :
    Calls Tryd.prog 8 #[.string a, .string b] w fun e w' => e = .returned (.bool true) ∧ Below w.heap.size w w' := by
  obtain ⟨i0, hi, hz0, hz1, hz2⟩ := info_parts stringInfo
  obtain ⟨x, hx⟩ : ∃ t, cut60 a = t := ⟨_, rfl⟩
  obtain ⟨y, hy⟩ : ∃ t, cut60 b = t := ⟨_, rfl⟩
  have hx60 : x.size ≤ 60 := by rw [← hx]; exact size_cut60 a
  have hy60 : y.size ≤ 60 := by rw [← hy]; exact size_cut60 b
  have SA := told (onwardS w fun w5 => short60_any a w5 ha) (ret_string hx)
  have SB := told (onwardS w fun w5 => short60_any b w5 hb) (ret_string hy)
  have A1 := awake4_on w hg
  have S1 := split_on x w (by omega)
  have S2 := split_on y w (by omega)
  have S3 := split_on (x ++ ⟨#[45]⟩ ++ y) w (by rw [size_glue]; omega)
  have T1 := Lib.hid (fun w5 => trim_split (x ++ ⟨#[45]⟩ ++ y) w5 (by rw [size_glue]; omega))
  obtain ⟨m1, hm1⟩ : ∃ m, (splS x).length = m + 1 := ⟨(splS x).length - 1, by have := splS_pos x; omega⟩
  obtain ⟨m2, hm2⟩ : ∃ m, (splS y).length = m + 1 := ⟨(splS y).length - 1, by have := splS_pos y; omega⟩
  have hm61 : m1 ≤ 60 := by have := splS_le x; omega
  have hm62 : m2 ≤ 60 := by have := splS_le y; omega
  have hm3 : (splS (x ++ ⟨#[45]⟩ ++ y)).length = m1 + 1 + m2 + 1 := by rw [splS_glue, List.length_append]; omega
  rw [hm1] at S1
  rw [hm2] at S2
  rw [hm3] at S3
  have HM1 := Lib.hid hm1
  have HM2 := Lib.hid hm2
  have HM3 := Lib.hid hm3
  clear hm1 hm2 hm3
  have hB0 : Below w.heap.size w w := Below.refl _ _
  clear hx hy ha hb hg
  go_enter Tryd.func8, Tryd.ntmps8
  go_wp2_with (first
    | (go_at_call 9; ((with_reducible refine (A1.out _ (by assumption)).mono ?_); rintro e w5 ⟨rfl, hb5⟩))
    | (go_at_call 10; ((with_reducible refine (SA.out _ (by assumption)).mono ?_); rintro e w5 ⟨rfl, hb6⟩))
    | (go_at_call 10; ((with_reducible refine (SB.out _ (by assumption)).mono ?_); rintro e w5 ⟨rfl, hb6⟩)))
  have o0 := World.ownsRow_made (base := w.heap.size) (e := 9) (size := 1) w5 #[] 0 hb6.size (by unfold maxLen; omega) rfl
  have hb7 : Below w.heap.size w (w5.alloc (.cells #[] 9)) := hb6.alloc hb6.size _
  refine (S1.out _ hb7).mono ?_
  rintro e w8 ⟨u1, rfl, ho1, hk8, hb8⟩
  obtain ⟨g1, c1, rfl⟩ := ownsRow_succ ho1
  have O0 := Lib.hid (own_below o0 hk8)
  have O1 := Lib.hid ho1
  clear o0 ho1 hb7 hk8
  have hs8 : w.heap.size ≤ w8.heap.size := hb8.size
  go_wp2_with (at_builtin; refine wpList_append_own _ rfl _ _ 32 rfl w.heap.size 9 i0 (.string ByteArray.empty) 1 16 Tryd.underlying32 hi hz0 hz1 hz2 rfl (by decide) _ 0 _ rfl O0.out ⟨g1, 0, none⟩ (m1 + 1) c1 (strs (splS x)) rfl (by rw [strs_length, HM1.out, Nat.mul_one]) (O1.out.cells rfl) (strs_one _) (by unfold maxLen; omega) (by omega) hs8 ?_; intro v' w9 hown hgrow _; simp only [Nat.zero_add, List.nil_append] at hown; obtain ⟨g3, c3, rfl⟩ := ownsRow_succ hown; have hb9 : Below w.heap.size w w9 := hb8.grown hgrow hs8 (fun r e => (O0.out.lt r e).1); have O3 := Lib.hid hown; clear hown hgrow)
  refine (S2.out _ hb9).mono ?_
  rintro e w10 ⟨u2, rfl, ho2, hk10, hb10⟩
  obtain ⟨g2, c2, rfl⟩ := ownsRow_succ ho2
  have O4 := Lib.hid (own_below O3.out hk10)
  have O2 := Lib.hid ho2
  clear ho2 hk10
  have hs10 : w.heap.size ≤ w10.heap.size := hb10.size
  go_wp2_with (first
    | (at_builtin; refine wpList_append_own _ rfl _ _ 32 rfl w.heap.size 9 i0 (.string ByteArray.empty) 1 16 Tryd.underlying32 hi hz0 hz1 hz2 rfl (by decide) _ (m1 + 1) _ rfl O4.out ⟨g2, 0, none⟩ (m2 + 1) c2 (strs (splS y)) rfl (by rw [strs_length, HM2.out, Nat.mul_one]) (O2.out.cells rfl) (strs_one _) (by unfold maxLen; omega) (by omega) hs10 ?_; intro v' w11 hown hgrow _; obtain ⟨g4, c4, rfl⟩ := ownsRow_succ hown; have hb11 : Below w.heap.size w w11 := hb10.grown hgrow hs10 (fun r e => (O4.out.lt r e).1); have O5 := Lib.hid hown; clear hown hgrow))
  refine (S3.out _ hb11).mono ?_
  rintro e w12 ⟨u3, rfl, ho3, hk12, hb12⟩
  obtain ⟨g5, c5, rfl⟩ := ownsRow_succ ho3
  have O6 := own_below O5.out hk12
  rw [← strs_append] at O6
  have SM := Lib.hid ((same_texts g5 g4 c5 c4 (m1 + 1 + m2 + 1) (m1 + 1 + m2 + 1) (splS (x ++ ⟨#[45]⟩ ++ y)) (splS x ++ splS y) w12 HM3.out (by rw [List.length_append, HM1.out, HM2.out]; omega) (by omega) (own_cell ho3) (own_cell O6)).mono
    (R' := fun e w' => e = .returned (.bool true) ∧ Below w.heap.size w w') fun e w' ⟨p, q⟩ => ⟨by rw [p, splS_glue]; simp, hb12.trans (q.mono hb12.size)⟩)
  clear ho3 hk12 O6
  have TG := Lib.hid (trim_glue x y)
  have TL := Lib.hid (trimmed (x ++ ⟨#[45]⟩ ++ y) (by rw [size_glue]; omega)).lt
  rw [size_glue] at TL
  generalize trimS (x ++ ⟨#[45]⟩ ++ y) = t at *
  have t1 : (t.size : Int) < (x.size : Int) + 1 + (y.size : Int) := by have := TL.out; omega
  have tx : m2 = 0 ∧ (t.size : Int) ≤ (x.size : Int) ∨ ∃ k : Nat, m2 = k + 1 := by
    rcases m2 with _ | k
    · exact .inl ⟨rfl, by have := TG.out (by rw [HM2.out]); omega⟩
    · exact .inr ⟨k, rfl⟩
  rcases tx with ⟨rfl, t2⟩ | ⟨k, rfl⟩
  all_goals
    go_wp2_with (first
      | (go_at_call 13; ((with_reducible refine SM.out.mono ?_); rintro e w13 ⟨rfl, hb13⟩))
      | (go_at_call 21; ((with_reducible refine (T1.out _).mono ?_); rintro e w14 ⟨rfl, rfl⟩))
      | (go_at_call 14; ((with_reducible refine (S2.out _ (by assumption)).mono ?_); rintro e w15 ⟨u4, rfl, ho4, _, hb15⟩; obtain ⟨g6, c6, rfl⟩ := ownsRow_succ ho4; clear ho4)))
    go_ret
    exact ⟨rfl, hb15⟩
end Go.Proofs.YtjajlfcmmgdfcaaDoor
