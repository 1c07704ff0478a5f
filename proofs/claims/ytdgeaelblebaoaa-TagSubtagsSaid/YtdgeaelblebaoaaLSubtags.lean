/-
  The project's Subtags.
-/
import Derived.Test.YtdgeaelblebaoaaLFields
import Derived.Test.YtdgeaelblebaoaaDKit
namespace Go.Proofs.Ytdgeaelblebaoaa
open Go Go.RowKit

/-- All texts of a row of extensions. -/
def flatT (l : List (ByteArray × List ByteArray)) : List ByteArray := l.flatMap extT
def fieldsT (T : TagM) : List (List ByteArray) := [oneT T.lang, T.extl, oneT T.script, oneT T.region, T.vars, flatT T.exts, privT T.priv]
theorem subtagsT_fields (T : TagM) (h : T.grand.size = 0) : subtagsT T = (fieldsT T).flatten := by
  unfold subtagsT fieldsT
  rw [if_pos h]
  simp [List.append_assoc, flatT]
theorem fields_len (T : TagM) (hF : TagFits T) : ∀ l ∈ fieldsT T, l.length ≤ 10200 := by
  obtain ⟨F1, F2, F3, F4, F5, F6⟩ := hF
  intro l hl
  have h6 := flat_len T.exts F4 T.exts.length
  rw [List.take_of_length_le (Nat.le_refl _)] at h6
  have h6 : (flatT T.exts).length ≤ 101 * T.exts.length := h6
  have h7 : (privT T.priv).length ≤ 101 := by unfold privT; split <;> simp; omega
  have h1 := oneT_len T.lang
  have h3 := oneT_len T.script
  have h4 := oneT_len T.region
  simp [fieldsT] at hl
  rcases hl with rfl | rfl | rfl | rfl | rfl | rfl | rfl <;> omega
theorem take_len (T : TagM) (hF : TagFits T) (k : Nat) : ((fieldsT T).take k).flatten.length ≤ 71400 := by
  have : ∀ (ls : List (List ByteArray)), (∀ l ∈ ls, l.length ≤ 10200) → ls.flatten.length ≤ 10200 * ls.length := by
    intro ls
    induction ls with
    | nil => intro _; simp
    | cons a r ih =>
      intro h
      have h1 := h a (List.mem_cons_self ..)
      have h2 := ih (fun l hl => h l (List.mem_cons_of_mem _ hl))
      rw [List.flatten_cons, List.length_append, List.length_cons]
      omega
  have h1 := this ((fieldsT T).take k) (fun l hl => fields_len T hF l (List.mem_of_mem_take hl))
  rw [List.length_take] at h1
  have : (fieldsT T).length = 7 := rfl
  omega
theorem fields_own (w : World) :
    Calls Try.prog 45 #[] w fun e w' => e = .returned (.slice (some ⟨w.heap.size, 0, none⟩) 7 7) ∧ w.alloc (.cells #[.func (.func 66) #[] #[], .func (.func 68) #[] #[], .func (.func 69) #[] #[], .func (.func 70) #[] #[], .func (.func 71) #[] #[], .func (.func 72) #[] #[], .func (.func 73) #[] #[]] 50) = w' := by
  go_enter Try.func45, Try.ntmps45
  go_wp2
  go_ret
  exact ⟨rfl, rfl⟩

theorem Row.news' {W : World} {v : Value} {l : List ByteArray} (h : Row W v l) : ∀ ao c, v = .slice ao l.length c → (ao = none → l.length = 0) ∧ ∀ ad, ao = some ad → ∀ j u, (strs l)[j]? = some u → W.cell? (ad.add j) = some u := by
  rintro ao c rfl
  exact h.news
set_option maxRecDepth 100000 in
set_option maxHeartbeats 8000000 in
theorem subtags_own (v : Value) (T : TagM) (w : World) (hT : TagIs w v T) (hF : TagFits T) :
    Calls Try.prog 22 #[v] w fun e w' => ∃ u, e = .returned u ∧ w'.ownsRow w.heap.size 9 1 u (subtagsT T).length (strs (subtagsT T)) ∧ Below w.heap.size w w' := by
  obtain ⟨i0, hii, iz0, iz1, iz2⟩ := info_parts stringInfo
  have hT0 := hT
  obtain ⟨ve, vv, vx, vp, rfl, -, -, -, -⟩ := hT
  obtain ⟨W0, hW0⟩ : ∃ W0, w.alloc (.cells #[.string T.lang, ve, .string T.script, .string T.region, vv, vx, vp, .string T.grand] 29) = W0 := ⟨_, rfl⟩
  have hbw : Below w.heap.size w W0 := by rw [← hW0]; exact (Below.refl _ w).alloc (Nat.le_refl _) _
  have hz0 : w.heap.size < W0.heap.size := by rw [← hW0]; simp
  have hh0 : W0.heap[w.heap.size]? = some (.cells #[.string T.lang, ve, .string T.script, .string T.region, vv, vx, vp, .string T.grand] 29 (0, 0)) := by rw [← hW0]; exact World.alloc_heap_new w _
  have hl0 := hbw.size
  obtain ⟨d0, d1, d2, d3, d4, d5, d6, d7⟩ := tag_cells hh0
  have HB0 := Lib.hid hbw
  by_cases hgr : T.grand.size = 0
  · have he := empty_true hgr
    have HSUB := Lib.hid (subtagsT_fields T hgr)
    have F1 := Lib.hid (fun w5 (hb : Below W0.heap.size W0 w5) => field1_own (.agg #[.string T.lang, ve, .string T.script, .string T.region, vv, vx, vp, .string T.grand]) T w5 (hT0.below (hbw.trans (hb.mono hl0))))
    have F2 := Lib.hid (fun w5 (hb : Below W0.heap.size W0 w5) => field2_own (.agg #[.string T.lang, ve, .string T.script, .string T.region, vv, vx, vp, .string T.grand]) T w5 (hT0.below (hbw.trans (hb.mono hl0))))
    have F3 := Lib.hid (fun w5 (hb : Below W0.heap.size W0 w5) => field3_own (.agg #[.string T.lang, ve, .string T.script, .string T.region, vv, vx, vp, .string T.grand]) T w5 (hT0.below (hbw.trans (hb.mono hl0))))
    have F4 := Lib.hid (fun w5 (hb : Below W0.heap.size W0 w5) => field4_own (.agg #[.string T.lang, ve, .string T.script, .string T.region, vv, vx, vp, .string T.grand]) T w5 (hT0.below (hbw.trans (hb.mono hl0))))
    have F5 := Lib.hid (fun w5 (hb : Below W0.heap.size W0 w5) => field5_own (.agg #[.string T.lang, ve, .string T.script, .string T.region, vv, vx, vp, .string T.grand]) T w5 (hT0.below (hbw.trans (hb.mono hl0))))
    have F6 := Lib.hid (fun w5 (hb : Below W0.heap.size W0 w5) => field6_own (.agg #[.string T.lang, ve, .string T.script, .string T.region, vv, vx, vp, .string T.grand]) T w5 (hT0.below (hbw.trans (hb.mono hl0))) hF.2.2.1 hF.2.2.2.1)
    rw [show T.exts.flatMap extT = flatT T.exts from rfl] at F6
    have F7 := Lib.hid (fun w5 (hb : Below W0.heap.size W0 w5) => field7_own (.agg #[.string T.lang, ve, .string T.script, .string T.region, vv, vx, vp, .string T.grand]) T w5 (hT0.below (hbw.trans (hb.mono hl0))) (by have := hF.2.2.2.2.1; omega))
    have HFL := Lib.hid (fields_len T hF)
    have HTL := Lib.hid (take_len T hF)
    clear hT0 hgr hF
    have hfo := Lib.hid (fields_own W0)
    obtain ⟨W1, hW1⟩ : ∃ W1, W0.alloc (.cells #[.func (.func 66) #[] #[], .func (.func 68) #[] #[], .func (.func 69) #[] #[], .func (.func 70) #[] #[], .func (.func 71) #[] #[], .func (.func 72) #[] #[], .func (.func 73) #[] #[]] 50) = W1 := ⟨_, rfl⟩
    have hb1 : Below W0.heap.size W0 W1 := by rw [← hW1]; exact (Below.refl _ W0).alloc (Nat.le_refl _) _
    have hf1 : W1.heap[W0.heap.size]? = some (.cells #[.func (.func 66) #[] #[], .func (.func 68) #[] #[], .func (.func 69) #[] #[], .func (.func 70) #[] #[], .func (.func 71) #[] #[], .func (.func 72) #[] #[], .func (.func 73) #[] #[]] 50 (0, 0)) := by rw [← hW1]; exact World.alloc_heap_new W0 _
    rw [hW1] at hfo
    have hz1 : W0.heap.size < W1.heap.size := by rw [← hW1]; simp
    have HH := Lib.hid (fun wr (hb : Below W0.heap.size W0 wr) => tag_cells ((hb.block _ hz0).trans hh0))
    have HF1 := Lib.hid (fun wr (hb : Below W1.heap.size W1 wr) => (hb.block _ hz1).trans hf1)
    have HB1 := Lib.hid hb1
    have hs1 := hb1.size
    clear hh0 hf1 hb1 hW1 hbw
    go_enter Try.func22, Try.ntmps22
    go_wp2_with (go_at_call 45; (with_reducible refine hfo.out.mono ?_); rintro e w5 ⟨rfl, rfl⟩)
    go_loopw [3, 14] (fun u i wr => ∃ k : Nat, k ≤ 7 ∧ i = .int .i64 (k : Int) ∧ Acc W1 ((fieldsT T).take k).flatten u wr) (fun _ i _ => 7 - (intOf i).toNat)
    case atStart => exact ⟨0, by omega, rfl, Acc.start W1⟩
    case round =>
      obtain ⟨k, hk, rfl, HA⟩ := hrel
      have hsz := HA.2.size
      by_cases hlt : k < 7
      · have hk7 : k = 0 ∨ k = 1 ∨ k = 2 ∨ k = 3 ∨ k = 4 ∨ k = 5 ∨ k = 6 := by omega
        have hBr := HB1.out.trans (HA.2.mono hs1)
        obtain ⟨e0, e1, e2, e3, e4, e5, e6, e7⟩ := HH.out wr hBr
        have hfr := HF1.out wr HA.2
        have hfc : wr.cell? ⟨W0.heap.size, 0, none⟩ = some (.func (.func 66) #[] #[]) ∧ wr.cell? ⟨W0.heap.size, 1, none⟩ = some (.func (.func 68) #[] #[]) ∧ wr.cell? ⟨W0.heap.size, 2, none⟩ = some (.func (.func 69) #[] #[]) ∧ wr.cell? ⟨W0.heap.size, 3, none⟩ = some (.func (.func 70) #[] #[]) ∧ wr.cell? ⟨W0.heap.size, 4, none⟩ = some (.func (.func 71) #[] #[]) ∧ wr.cell? ⟨W0.heap.size, 5, none⟩ = some (.func (.func 72) #[] #[]) ∧ wr.cell? ⟨W0.heap.size, 6, none⟩ = some (.func (.func 73) #[] #[]) := by simp [World.cell?, hfr]
        obtain ⟨g0, g1, g2, g3, g4, g5, g6⟩ := hfc
        have hBd : Below W0.heap.size W0 wr := hBr
        have HOW := Lib.hid HA.1
        have HB1d := Lib.hid HA.2
        have hlen := HTL.out k
        have HNX := Lib.hid (fun (f : List ByteArray) (h : (fieldsT T)[k]? = some f) => show ((fieldsT T).take (k + 1)).flatten = ((fieldsT T).take k).flatten ++ f by rw [take_next h, List.flatten_append]; simp)
        clear HA hfr hlt
        generalize ((fieldsT T).take k).flatten = L at *
        rcases hk7 with rfl | rfl | rfl | rfl | rfl | rfl | rfl
        · have hml := HFL.out (oneT T.lang) (by simp [fieldsT])
          have hnx := Lib.hid (HNX.out (oneT T.lang) rfl)
          clear HNX HFL HTL HSUB HF1
          go_wp2_with (first | (go_at_call 66; (with_reducible refine (F1.out _ hBd).mono ?_); rintro e w6 ⟨u, rfl, hR, hb6⟩; have HRu := Lib.hid hR.news'; obtain ⟨ua, uc, rfl, _⟩ := hR; have hown6 := ownsRow_belowF HOW.out hb6; have hB6 := hBd.trans (hb6.mono hBd.size); have hs6 := Nat.le_trans HB1d.out.size hb6.size; have hs6' := hB6.size) | (at_builtin; refine wpList_append_any _ rfl _ _ 26 rfl W1.heap.size 9 i0 (.string ByteArray.empty) 1 16 Try.underlying26 hii iz0 iz1 iz2 rfl (by decide) _ L.length _ rfl hown6 ua _ uc (strs (oneT T.lang)) rfl (by simp [strs]) (HRu.out ua uc rfl).1 (HRu.out ua uc rfl).2 (by intro u hu; unfold strs at hu; obtain ⟨_, _, rfl⟩ := List.mem_map.1 hu; rfl) (by unfold maxLen; omega) (by omega) hs6 ?_; intro v7 w7 hown7 hgrow7; have hB7 := hB6.grown hgrow7 hs6' (fun g hg => by have := (hown6.lt g hg).1; omega)))
          go_roundw
          case rel =>
            refine ⟨1, by omega, by go_num, ?_, (HB1d.out.trans (hb6.mono HB1d.out.size)).grown hgrow7 hs6 (fun g hg => (hown6.lt g hg).1)⟩
            rw [hnx.out, List.length_append, strs_append]
            exact hown7
          case measure => simp [intOf]
        · have hml := HFL.out (T.extl) (by simp [fieldsT])
          have hnx := Lib.hid (HNX.out (T.extl) rfl)
          clear HNX HFL HTL HSUB HF1
          go_wp2_with (first | (go_at_call 68; (with_reducible refine (F2.out _ hBd).mono ?_); rintro e w6 ⟨u, rfl, hR, hb6⟩; have HRu := Lib.hid hR.news'; obtain ⟨ua, uc, rfl, _⟩ := hR; have hown6 := ownsRow_belowF HOW.out hb6; have hB6 := hBd.trans (hb6.mono hBd.size); have hs6 := Nat.le_trans HB1d.out.size hb6.size; have hs6' := hB6.size) | (at_builtin; refine wpList_append_any _ rfl _ _ 26 rfl W1.heap.size 9 i0 (.string ByteArray.empty) 1 16 Try.underlying26 hii iz0 iz1 iz2 rfl (by decide) _ L.length _ rfl hown6 ua _ uc (strs (T.extl)) rfl (by simp [strs]) (HRu.out ua uc rfl).1 (HRu.out ua uc rfl).2 (by intro u hu; unfold strs at hu; obtain ⟨_, _, rfl⟩ := List.mem_map.1 hu; rfl) (by unfold maxLen; omega) (by omega) hs6 ?_; intro v7 w7 hown7 hgrow7; have hB7 := hB6.grown hgrow7 hs6' (fun g hg => by have := (hown6.lt g hg).1; omega)))
          go_roundw
          case rel =>
            refine ⟨2, by omega, by go_num, ?_, (HB1d.out.trans (hb6.mono HB1d.out.size)).grown hgrow7 hs6 (fun g hg => (hown6.lt g hg).1)⟩
            rw [hnx.out, List.length_append, strs_append]
            exact hown7
          case measure => simp [intOf]
        · have hml := HFL.out (oneT T.script) (by simp [fieldsT])
          have hnx := Lib.hid (HNX.out (oneT T.script) rfl)
          clear HNX HFL HTL HSUB HF1
          go_wp2_with (first | (go_at_call 69; (with_reducible refine (F3.out _ hBd).mono ?_); rintro e w6 ⟨u, rfl, hR, hb6⟩; have HRu := Lib.hid hR.news'; obtain ⟨ua, uc, rfl, _⟩ := hR; have hown6 := ownsRow_belowF HOW.out hb6; have hB6 := hBd.trans (hb6.mono hBd.size); have hs6 := Nat.le_trans HB1d.out.size hb6.size; have hs6' := hB6.size) | (at_builtin; refine wpList_append_any _ rfl _ _ 26 rfl W1.heap.size 9 i0 (.string ByteArray.empty) 1 16 Try.underlying26 hii iz0 iz1 iz2 rfl (by decide) _ L.length _ rfl hown6 ua _ uc (strs (oneT T.script)) rfl (by simp [strs]) (HRu.out ua uc rfl).1 (HRu.out ua uc rfl).2 (by intro u hu; unfold strs at hu; obtain ⟨_, _, rfl⟩ := List.mem_map.1 hu; rfl) (by unfold maxLen; omega) (by omega) hs6 ?_; intro v7 w7 hown7 hgrow7; have hB7 := hB6.grown hgrow7 hs6' (fun g hg => by have := (hown6.lt g hg).1; omega)))
          go_roundw
          case rel =>
            refine ⟨3, by omega, by go_num, ?_, (HB1d.out.trans (hb6.mono HB1d.out.size)).grown hgrow7 hs6 (fun g hg => (hown6.lt g hg).1)⟩
            rw [hnx.out, List.length_append, strs_append]
            exact hown7
          case measure => simp [intOf]
        · have hml := HFL.out (oneT T.region) (by simp [fieldsT])
          have hnx := Lib.hid (HNX.out (oneT T.region) rfl)
          clear HNX HFL HTL HSUB HF1
          go_wp2_with (first | (go_at_call 70; (with_reducible refine (F4.out _ hBd).mono ?_); rintro e w6 ⟨u, rfl, hR, hb6⟩; have HRu := Lib.hid hR.news'; obtain ⟨ua, uc, rfl, _⟩ := hR; have hown6 := ownsRow_belowF HOW.out hb6; have hB6 := hBd.trans (hb6.mono hBd.size); have hs6 := Nat.le_trans HB1d.out.size hb6.size; have hs6' := hB6.size) | (at_builtin; refine wpList_append_any _ rfl _ _ 26 rfl W1.heap.size 9 i0 (.string ByteArray.empty) 1 16 Try.underlying26 hii iz0 iz1 iz2 rfl (by decide) _ L.length _ rfl hown6 ua _ uc (strs (oneT T.region)) rfl (by simp [strs]) (HRu.out ua uc rfl).1 (HRu.out ua uc rfl).2 (by intro u hu; unfold strs at hu; obtain ⟨_, _, rfl⟩ := List.mem_map.1 hu; rfl) (by unfold maxLen; omega) (by omega) hs6 ?_; intro v7 w7 hown7 hgrow7; have hB7 := hB6.grown hgrow7 hs6' (fun g hg => by have := (hown6.lt g hg).1; omega)))
          go_roundw
          case rel =>
            refine ⟨4, by omega, by go_num, ?_, (HB1d.out.trans (hb6.mono HB1d.out.size)).grown hgrow7 hs6 (fun g hg => (hown6.lt g hg).1)⟩
            rw [hnx.out, List.length_append, strs_append]
            exact hown7
          case measure => simp [intOf]
        · have hml := HFL.out (T.vars) (by simp [fieldsT])
          have hnx := Lib.hid (HNX.out (T.vars) rfl)
          clear HNX HFL HTL HSUB HF1
          go_wp2_with (first | (go_at_call 71; (with_reducible refine (F5.out _ hBd).mono ?_); rintro e w6 ⟨u, rfl, hR, hb6⟩; have HRu := Lib.hid hR.news'; obtain ⟨ua, uc, rfl, _⟩ := hR; have hown6 := ownsRow_belowF HOW.out hb6; have hB6 := hBd.trans (hb6.mono hBd.size); have hs6 := Nat.le_trans HB1d.out.size hb6.size; have hs6' := hB6.size) | (at_builtin; refine wpList_append_any _ rfl _ _ 26 rfl W1.heap.size 9 i0 (.string ByteArray.empty) 1 16 Try.underlying26 hii iz0 iz1 iz2 rfl (by decide) _ L.length _ rfl hown6 ua _ uc (strs (T.vars)) rfl (by simp [strs]) (HRu.out ua uc rfl).1 (HRu.out ua uc rfl).2 (by intro u hu; unfold strs at hu; obtain ⟨_, _, rfl⟩ := List.mem_map.1 hu; rfl) (by unfold maxLen; omega) (by omega) hs6 ?_; intro v7 w7 hown7 hgrow7; have hB7 := hB6.grown hgrow7 hs6' (fun g hg => by have := (hown6.lt g hg).1; omega)))
          go_roundw
          case rel =>
            refine ⟨5, by omega, by go_num, ?_, (HB1d.out.trans (hb6.mono HB1d.out.size)).grown hgrow7 hs6 (fun g hg => (hown6.lt g hg).1)⟩
            rw [hnx.out, List.length_append, strs_append]
            exact hown7
          case measure => simp [intOf]
        · have hml := HFL.out (flatT T.exts) (by simp [fieldsT])
          have hnx := Lib.hid (HNX.out (flatT T.exts) rfl)
          clear HNX HFL HTL HSUB HF1
          go_wp2_with (first | (go_at_call 72; (with_reducible refine (F6.out _ hBd).mono ?_); rintro e w6 ⟨u, rfl, hR, hb6⟩; have HRu := Lib.hid hR.news'; obtain ⟨ua, uc, rfl, _⟩ := hR; have hown6 := ownsRow_belowF HOW.out hb6; have hB6 := hBd.trans (hb6.mono hBd.size); have hs6 := Nat.le_trans HB1d.out.size hb6.size; have hs6' := hB6.size) | (at_builtin; refine wpList_append_any _ rfl _ _ 26 rfl W1.heap.size 9 i0 (.string ByteArray.empty) 1 16 Try.underlying26 hii iz0 iz1 iz2 rfl (by decide) _ L.length _ rfl hown6 ua _ uc (strs (flatT T.exts)) rfl (by simp [strs]) (HRu.out ua uc rfl).1 (HRu.out ua uc rfl).2 (by intro u hu; unfold strs at hu; obtain ⟨_, _, rfl⟩ := List.mem_map.1 hu; rfl) (by unfold maxLen; omega) (by omega) hs6 ?_; intro v7 w7 hown7 hgrow7; have hB7 := hB6.grown hgrow7 hs6' (fun g hg => by have := (hown6.lt g hg).1; omega)))
          go_roundw
          case rel =>
            refine ⟨6, by omega, by go_num, ?_, (HB1d.out.trans (hb6.mono HB1d.out.size)).grown hgrow7 hs6 (fun g hg => (hown6.lt g hg).1)⟩
            rw [hnx.out, List.length_append, strs_append]
            exact hown7
          case measure => simp [intOf]
        · have hml := HFL.out (privT T.priv) (by simp [fieldsT])
          have hnx := Lib.hid (HNX.out (privT T.priv) rfl)
          clear HNX HFL HTL HSUB HF1
          go_wp2_with (first | (go_at_call 73; (with_reducible refine (F7.out _ hBd).mono ?_); rintro e w6 ⟨u, rfl, hR, hb6⟩; have HRu := Lib.hid hR.news'; obtain ⟨ua, uc, rfl, _⟩ := hR; have hown6 := ownsRow_belowF HOW.out hb6; have hB6 := hBd.trans (hb6.mono hBd.size); have hs6 := Nat.le_trans HB1d.out.size hb6.size; have hs6' := hB6.size) | (at_builtin; refine wpList_append_any _ rfl _ _ 26 rfl W1.heap.size 9 i0 (.string ByteArray.empty) 1 16 Try.underlying26 hii iz0 iz1 iz2 rfl (by decide) _ L.length _ rfl hown6 ua _ uc (strs (privT T.priv)) rfl (by simp [strs]) (HRu.out ua uc rfl).1 (HRu.out ua uc rfl).2 (by intro u hu; unfold strs at hu; obtain ⟨_, _, rfl⟩ := List.mem_map.1 hu; rfl) (by unfold maxLen; omega) (by omega) hs6 ?_; intro v7 w7 hown7 hgrow7; have hB7 := hB6.grown hgrow7 hs6' (fun g hg => by have := (hown6.lt g hg).1; omega)))
          go_roundw
          case rel =>
            refine ⟨7, by omega, by go_num, ?_, (HB1d.out.trans (hb6.mono HB1d.out.size)).grown hgrow7 hs6 (fun g hg => (hown6.lt g hg).1)⟩
            rw [hnx.out, List.length_append, strs_append]
            exact hown7
          case measure => simp [intOf]
      · obtain rfl : k = 7 := by omega
        have hki : ¬ ((7 : Nat) : Int) < (7 : Int) := by omega
        go_wp2_with fail
        go_ret
        refine ⟨_, rfl, ?_, HB0.out.trans ((HB1.out.mono hl0).trans (HA.2.mono (by omega)))⟩
        rw [HSUB.out]
        exact own_lower HA.1 (by omega)
  · have he := empty_false (s := T.grand) (by omega)
    have HE := Lib.hid (show subtagsT T = splS T.grand by unfold subtagsT; rw [if_neg hgr])
    have SP := Lib.hid (split_any T.grand W0 (by have := hF.2.2.2.2.2; omega))
    clear hT0 hgr hF hh0 hbw
    go_enter Try.func22, Try.ntmps22
    go_wp2_with (go_at_call 44; (with_reducible refine SP.out.mono ?_); rintro e w5 ⟨u, rfl, ho, hb5⟩)
    go_ret
    exact ⟨_, rfl, by rw [HE.out]; exact own_lower ho (by omega), HB0.out.trans (hb5.mono hl0)⟩
end Go.Proofs.Ytdgeaelblebaoaa
