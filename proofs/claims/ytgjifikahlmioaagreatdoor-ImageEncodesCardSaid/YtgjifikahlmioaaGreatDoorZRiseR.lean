/-
 The document's answers of layer 13: rising and twice. (Printed by wip/gen_zriser.py.)
-/
import Derived.Test.YtgjifikahlmioaaGreatDoorWRefM
import Derived.Test.YtgjifikahlmioaaGreatDoorZPacks
import Derived.Laws.Concat
namespace Go.Proofs.YtgjifikahlmioaaGreatDoor
open Go Go.RowKit

def insX (K : Nat) (r : ByteArray) (l : List ByteArray) : List ByteArray := (l.takeWhile fun y => ltW (keyW K y) (keyW K r)) ++ r :: (l.dropWhile fun y => ltW (keyW K y) (keyW K r))
theorem insX_perm (K : Nat) (r : ByteArray) (l : List ByteArray) : (insX K r l).Perm (r :: l) := by
 unfold insX
 refine List.perm_middle.trans ?_
 rw [List.takeWhile_append_dropWhile]
theorem insX_sorted {K : Nat} {r : ByteArray} : ∀ {l : List ByteArray}, l.Pairwise (KS K) → (insX K r l).Pairwise (KS K)
 | [], _ => by simp [insX]
 | y :: t, h => by
  have h1 := (List.pairwise_cons.1 h).1
  have h2 := (List.pairwise_cons.1 h).2
  by_cases hc : ltW (keyW K y) (keyW K r) = true
  ·rw [show insX K r (y :: t) = y :: insX K r t by simp [insX, hc], List.pairwise_cons]
   refine ⟨fun x hx => ?_, insX_sorted h2⟩
   rcases List.mem_cons.1 ((insX_perm K r t).mem_iff.1 hx) with rfl | hx
   ·exact ltW_asymm hc
   ·exact h1 x hx
  ·have hc' : ltW (keyW K y) (keyW K r) = false := by simpa using hc
   rw [show insX K r (y :: t) = r :: y :: t by simp [insX, hc'], List.pairwise_cons]
   refine ⟨fun x hx => ?_, h⟩
   rcases List.mem_cons.1 hx with rfl | hx
   ·exact hc'
   ·exact ltW_ntrans (h1 x hx) hc'
theorem insX_at {K : Nat} {r : ByteArray} : ∀ {D : List ByteArray} {n : Nat}, n ≤ D.length → (∀ i y, i < n → D[i]? = some y → ltW (keyW K y) (keyW K r) = true) → (∀ y, D[n]? = some y → ltW (keyW K y) (keyW K r) = false) → insX K r D = D.take n ++ r :: D.drop n
 | [], n, _, _, _ => by simp [insX]
 | y :: t, 0, _, _, h2 => by
  have := h2 y rfl
  simp [insX, this]
 | y :: t, n + 1, hn, h1, h2 => by
  have h0 := h1 0 y (by omega) rfl
  have ih := insX_at (r := r) (D := t) (n := n) (by simp at hn; omega) (fun i z hi hz => h1 (i + 1) z (by omega) (by rw [List.getElem?_cons_succ]; exact hz)) (fun z hz => h2 z (by rw [List.getElem?_cons_succ]; exact hz))
  have e : insX K r (y :: t) = y :: insX K r t := by simp [insX, h0]
  rw [e, ih]; rfl
def riseX (K : Nat) (l : List ByteArray) : List ByteArray := l.foldl (fun acc r => insX K r acc) []
theorem riseX_snoc (K : Nat) (l : List ByteArray) (r : ByteArray) : riseX K (l ++ [r]) = insX K r (riseX K l) := by simp [riseX, List.foldl_append]
theorem riseX_both (K : Nat) : ∀ l, (riseX K l).Perm l ∧ (riseX K l).Pairwise (KS K) := by
 have gen : ∀ (l acc : List ByteArray), acc.Pairwise (KS K) → (l.foldl (fun acc r => insX K r acc) acc).Perm (acc ++ l) ∧ (l.foldl (fun acc r => insX K r acc) acc).Pairwise (KS K) := by
  intro l
  induction l with
  | nil => intro acc h; simpa using h
  | cons r t ih =>
   intro acc h
   obtain ⟨h1, h2⟩ := ih (insX K r acc) (insX_sorted h)
   refine ⟨h1.trans (((insX_perm K r acc).append_right t).trans ?_), h2⟩
   exact List.perm_middle.symm
 exact fun l => gen l [] List.Pairwise.nil
theorem riseX_len (K : Nat) (l : List ByteArray) : (riseX K l).length = l.length := (riseX_both K l).1.length_eq
theorem keys_sameX (K : Nat) (l : List ByteArray) : (sortW l).map (keyW K) = (riseX K l).map (keyW K) := by
 have h1 := sortW_keys K l
 have h2 := (riseX_both K l).2
 refine List.Perm.eq_of_pairwise (le := fun a b => ltW b a = false) (fun _ _ _ _ h1 h2 => (ltW_tri h1 h2).symm) ?_ ?_ ?_
 ·rw [List.pairwise_map]; exact h1
 ·rw [List.pairwise_map]; exact h2
 ·exact ((sortW_perm l).trans (riseX_both K l).1.symm).map _
theorem rise_same {K : Nat} {l : List ByteArray} (hK : 0 < K) (hs : ∀ x ∈ l, K ≤ x.size) (h : badW K (sortW l) = none) : sortW l = riseX K l := by
 have hp := (riseX_both K l).1
 have r1 := (badW_none hK (fun x hx => hs x ((sortW_perm l).mem_iff.1 hx))).1 h
 have hb : badW K (riseX K l) = none := by unfold badW at h ⊢; rwa [keys_sameX] at h
 have r2 := (badW_none hK (fun x hx => hs x (hp.mem_iff.1 hx))).1 hb
 exact List.Perm.eq_of_pairwise (fun a b _ _ h1 h2 => by rw [ltW_asymm h1] at h2; cases h2) r1 r2 ((sortW_perm l).trans hp.symm)
set_option maxRecDepth 1000000 in
set_option maxHeartbeats 4000000 in
theorem rising_ref (K W : Nat) (v : Value) (l : List ByteArray) (w : World) (hv : RowW w v l) (hl : l.length ≤ 1000) (h1 : 0 < K) (h2 : K ≤ W) (h3 : W ≤ 255) (hs : ∀ x ∈ l, x.size = W) :
  Calls Tryz.prog 46 #[v, .int .i64 (K : Int)] w fun e w' => e = .returned (.string (catW (riseX K l))) ∧ Below w.heap.size w w' := by
 obtain ⟨i0, hii, iz0, iz1, iz2⟩ := info_parts stringInfo
 have HV := Lib.hid hv
 obtain ⟨ao, c, rfl, -⟩ := hv
 obtain ⟨W0, hW0⟩ : ∃ W0, W0 = w := ⟨_, rfl⟩
 rw [← hW0] at HV ⊢
 have HC := Lib.hid HV.out
 have HSZ := Lib.hid hs
 have k0 : (0 : Int) ≤ (K : Int) := by omega
 clear hs hW0
 go_enter Tryz.func46, Tryz.ntmps46
 go_wp2_with fail
 go_loopw [5, 6, 7, 8] (fun u i _ _ wr => ∃ k : Nat, k ≤ l.length ∧ i = .int .i64 (k : Int) ∧ wr.ownsRow W0.heap.size 9 1 u (riseX K (l.take k)).length (strsW (riseX K (l.take k))) ∧ Below W0.heap.size W0 wr) (fun _ i _ _ _ => l.length - (intOf i).toNat)
 case atStart => exact ⟨0, Nat.zero_le _, rfl, World.ownsRow_nil _ _ _ _, Below.refl _ _⟩
 case round =>
  obtain ⟨k, hk, rfl, hO, hB⟩ := hrel
  by_cases hlt : k < l.length
  ·have hki : (k : Int) < (l.length : Int) := by omega
   have hd : decide (k < l.length) = true := decide_eq_true hlt
   have hk0 : (0 : Int) ≤ (k : Int) := by omega
   obtain ⟨x, hx⟩ : ∃ x, l[k]? = some x := ⟨_, List.getElem?_eq_getElem hlt⟩
   obtain ⟨ao', cap', e', hc⟩ := HC.out
   injection e' with q1 q2 q3
   subst q1
   subst q3
   obtain ⟨g0, o0, rfl, c0⟩ := hc k x hx
   have HX := Lib.hid (fun wr (hb : Below W0.heap.size W0 wr) => (hb.cell (p := ⟨g0, o0 + k, none⟩) (lt_of_cellW c0)).trans c0)
   clear hc c0
   have hsz := HSZ.out x (mem_of_at hx)
   have HN := Lib.hid (show riseX K (l.take (k + 1)) = insX K x (riseX K (l.take k)) by rw [take_nextW hx, riseX_snoc])
   have hDl := riseX_len K (l.take k)
   rw [List.length_take, Nat.min_eq_left hk] at hDl
   have HDS := Lib.hid (show ∀ y ∈ riseX K (l.take k), y.size = W from fun y hy => HSZ.out y (List.mem_of_mem_take ((riseX_both K (l.take k)).1.mem_iff.1 hy)))
   have x1 : (K : Int) ≤ (x.size : Int) := by omega
   clear hx hsz
   generalize riseX K (l.take k) = D at *
   have HO := Lib.hid hO
   obtain ⟨ua, un, uc, rfl⟩ := own_sliceW hO
   obtain rfl : un = D.length := own_lenW hO
   have HCX := HX.out _ hB
   clear hO
   have hDk := Lib.hid hDl
   have hD100 : D.length ≤ 1000 := by omega
   clear hDl
   go_wp2_with fail
   go_loopw [7] (fun j w1 => ∃ n : Nat, n ≤ D.length ∧ j = .int .i64 (n : Int) ∧ w1.ownsRow W0.heap.size 9 1 (.slice ua D.length uc) D.length (strsW D) ∧ Below W0.heap.size W0 w1 ∧ Hid (∀ i y, i < n → D[i]? = some y → ltW (keyW K y) (keyW K x) = true)) (fun j _ => D.length - (intOf j).toNat)
   case atStart => exact ⟨0, Nat.zero_le _, rfl, HO.out, hB, Lib.hid (fun i y h => by omega)⟩
   case round =>
    clear HCX
    obtain ⟨n, hn, rfl, hO, hB1, HP⟩ := hrel
    have hn0 : (0 : Int) ≤ (n : Int) := by omega
    have cx := HX.out _ hB1
    have hcl := (own_capW hO).2
    have hcn : (n : Int) ≤ (uc : Int) := by omega
    have HOA := Lib.hid (fun m => (show (wr.drewN m).ownsRow W0.heap.size 9 1 (.slice ua D.length uc) D.length (strsW D) from hO).alloc (.cells #[] 9))
    by_cases hnl : n < D.length
    ·have hni : (n : Int) < (D.length : Int) := by omega
     have hnd : decide (n < D.length) = true := decide_eq_true hnl
     have hun : ¬ uc = n := by omega
     have hne : ((n : Int) == (D.length : Int)) = false := by rw [beq_eq_false_iff_ne]; omega
     obtain ⟨g, cap, hg⟩ := own_someW hO (by omega)
     injection hg with q1 _ q3
     subst q1
     subst q3
     obtain ⟨y, hy⟩ : ∃ y, D[n]? = some y := ⟨_, List.getElem?_eq_getElem hnl⟩
     have cy := own_cellW hO n y hy
     have y1 : (K : Int) ≤ (y.size : Int) := by rw [HDS.out y (mem_of_at hy)]; omega
     cases hc : ltW (keyW K y) (keyW K x) with
     | true =>
      have e1 : Op.bytesLess (y.extract 0 K).toList (x.extract 0 K).toList = true := by rw [less_ltW]; exact hc
      have HP2 := Lib.hid (show ∀ i z, i < n + 1 → D[i]? = some z → ltW (keyW K z) (keyW K x) = true from fun i z hi hz => by
       rcases Nat.lt_or_ge i n with h | h
       ·exact HP.out i z h hz
       ·obtain rfl : i = n := by omega
        rw [hy] at hz; cases hz; exact hc)
      go_wp2_with fail
      go_quiet (fail)
      go_wp2_with fail
      go_roundw
      case rel => exact ⟨n + 1, by omega, by go_num, hO, below_drewN hB1 _, HP2⟩
      case measure => simp [intOf]; omega
     | false =>
      have e1 : Op.bytesLess (y.extract 0 K).toList (x.extract 0 K).toList = false := by rw [less_ltW]; exact hc
      have HE := Lib.hid (insX_at hn HP.out (fun z hz => by rw [hy] at hz; cases hz; exact hc))
      go_wp2_with fail
      go_quiet (fail)
      rcases Nat.eq_zero_or_pos n with hz | hz
      ·subst hz
       go_upto_region 9 with (first
        | (refine wpList_build_noneW _ rfl rfl ?_)
        | (at_builtin; refine wpList_append_anyW _ rfl _ _ 67 rfl wr.heap.size 9 i0 (.string ByteArray.empty) 1 16 Tryz.underlying67 hii iz0 iz1 iz2 rfl (by decide) _ 0 _ rfl (own_none9W _ _) _ _ _ (strsW (D.drop 0)) rfl (by simp [strsW]) (fun h => by cases h) (fun ad ha j u hu => by cases ha; rw [Addr.add_lit]; exact own_dropW (HOA.out _) 0 j u hu) strsW_one (by unfold maxLen; omega) (by omega) (by simp) ?_; intro v6 w6 hown6 hgrow6; have hO6 := own_normW hown6; have hB6 := none9_belW hgrow6; clear hown6 hgrow6; obtain ⟨va, vn, vc, rfl⟩ := own_sliceW hO6; obtain rfl : vn = (D.drop 0).length := own_lenW hO6))
       have hBw6 := hB1.trans (hB6.mono hB1.size)
       have HT := Lib.hid ((show w6.drew.ownsRow W0.heap.size 9 1 (.slice (some ⟨g, 0, none⟩) D.length uc) D.length (strsW D) from own_belowW hO (Below.drew hB6)).alloc (.cells #[.string x] 9))
       have HR6 := Lib.hid (fun w' (hb : Below w6.heap.size w6 w') => ((RowW.of_own hO6).below hb).news)
       have cx : w6.drew.cell? ⟨g0, o0 + k, none⟩ = some (.string x) := HX.out _ (Below.drew hBw6)
       have hba : Below w6.heap.size w6 (w6.drew.alloc (.cells #[.string x] 9)) := (Below.drew (Below.refl _ _)).alloc (Nat.le_refl _) _
       have ca := HX.out _ (hBw6.trans (hba.mono hBw6.size))
       have hrl : (D.drop 0).length ≤ 1000 := by rw [List.length_drop]; omega
       clear hO6
       go_region_held3 (fun w' => w'.cell? ⟨g0, o0 + k, none⟩ = some (.string x))
        (assumption)
        (first
         | (refine step_append_grows (by rfl) _ _ 67 (by rfl) 9 i0 (.string ByteArray.empty) 1 16 Tryz.underlying67 hii iz0 iz1 iz2 (by rfl) (by decide) _ 0 0 (strsW (D.take 0)) (by rfl) (fun h => by cases h) (by simp [strsW] <;> omega) (fun b hb j u hu => by cases hb; simp only [Addr.add_lit, Nat.zero_add]; exact own_takeW HT.out 0 j u hu) _ 1 1 [.string x] (by rfl) (by rfl) (World.news_of_block (World.alloc_heap_new _ _)) (by intro u hu; simp at hu; subst hu; rfl) (Nat.lt_succ_self _) (by unfold maxLen; omega) (by omega) ?_; intro v7 w7 hown7 hgrow7; have hB7 := hba.grown hgrow7 hba.size (fun g hg => by cases hg); have cx7 := HX.out _ (hBw6.trans (hB7.mono hBw6.size)); have HN7 := Lib.hid (HR6.out _ hB7))
         | (refine step_append_anyW _ (by rfl) _ _ 67 (by rfl) _ 9 i0 (.string ByteArray.empty) 1 16 Tryz.underlying67 hii iz0 iz1 iz2 (by rfl) (by decide) _ (0 + 1) _ (by rfl) hown7 va _ vc (strsW (D.drop 0)) (by rfl) (by simp [strsW]) (fun h => by have := HN7.out.1 h; have e := List.length_drop (i := 0) (l := D); omega) HN7.out.2 strsW_one (by unfold maxLen; omega) (by omega) hgrow7.size ?_; intro v8 w8 hown8 hgrow8; have hB8 := bel_step9W hB7 (by simp) hown7 hgrow8; have cx8 := HX.out _ (hBw6.trans (hB8.mono hBw6.size))))
       go_wp2_with fail
       go_roundw
       case rel => exact ⟨k + 1, by omega, by go_num, by rw [HN.out, HE.out]; exact own_insW hown8 (Nat.le_trans hBw6.size (by simp)), hBw6.trans (hB8.mono hBw6.size)⟩
       case measure => simp [intOf]; omega
      ·have hz : ¬ n = 0 := by omega
       go_upto_region 9 with (first
        | (refine wpList_build_noneW _ rfl rfl ?_)
        | (at_builtin; refine wpList_append_anyW _ rfl _ _ 67 rfl wr.heap.size 9 i0 (.string ByteArray.empty) 1 16 Tryz.underlying67 hii iz0 iz1 iz2 rfl (by decide) _ 0 _ rfl (own_none9W _ _) _ _ _ (strsW (D.drop n)) rfl (by simp [strsW]) (fun h => by cases h) (fun ad ha j u hu => by cases ha; rw [Addr.add_lit]; exact own_dropW (HOA.out _) n j u hu) strsW_one (by unfold maxLen; omega) (by omega) (by simp) ?_; intro v6 w6 hown6 hgrow6; have hO6 := own_normW hown6; have hB6 := none9_belW hgrow6; clear hown6 hgrow6; obtain ⟨va, vn, vc, rfl⟩ := own_sliceW hO6; obtain rfl : vn = (D.drop n).length := own_lenW hO6))
       have hBw6 := hB1.trans (hB6.mono hB1.size)
       have HT := Lib.hid ((show w6.drew.ownsRow W0.heap.size 9 1 (.slice (some ⟨g, 0, none⟩) D.length uc) D.length (strsW D) from own_belowW hO (Below.drew hB6)).alloc (.cells #[.string x] 9))
       have HR6 := Lib.hid (fun w' (hb : Below w6.heap.size w6 w') => ((RowW.of_own hO6).below hb).news)
       have cx : w6.drew.cell? ⟨g0, o0 + k, none⟩ = some (.string x) := HX.out _ (Below.drew hBw6)
       have hba : Below w6.heap.size w6 (w6.drew.alloc (.cells #[.string x] 9)) := (Below.drew (Below.refl _ _)).alloc (Nat.le_refl _) _
       have ca := HX.out _ (hBw6.trans (hba.mono hBw6.size))
       have hrl : (D.drop n).length ≤ 1000 := by rw [List.length_drop]; omega
       clear hO6
       go_region_held3 (fun w' => w'.cell? ⟨g0, o0 + k, none⟩ = some (.string x))
        (assumption)
        (first
         | (refine step_append_grows (by rfl) _ _ 67 (by rfl) 9 i0 (.string ByteArray.empty) 1 16 Tryz.underlying67 hii iz0 iz1 iz2 (by rfl) (by decide) _ n n (strsW (D.take n)) (by rfl) (fun h => by cases h) (by simp [strsW] <;> omega) (fun b hb j u hu => by cases hb; simp only [Addr.add_lit, Nat.zero_add]; exact own_takeW HT.out n j u hu) _ 1 1 [.string x] (by rfl) (by rfl) (World.news_of_block (World.alloc_heap_new _ _)) (by intro u hu; simp at hu; subst hu; rfl) (Nat.lt_succ_self _) (by unfold maxLen; omega) (by omega) ?_; intro v7 w7 hown7 hgrow7; have hB7 := hba.grown hgrow7 hba.size (fun g hg => by cases hg); have cx7 := HX.out _ (hBw6.trans (hB7.mono hBw6.size)); have HN7 := Lib.hid (HR6.out _ hB7))
         | (refine step_append_anyW _ (by rfl) _ _ 67 (by rfl) _ 9 i0 (.string ByteArray.empty) 1 16 Tryz.underlying67 hii iz0 iz1 iz2 (by rfl) (by decide) _ (n + 1) _ (by rfl) hown7 va _ vc (strsW (D.drop n)) (by rfl) (by simp [strsW]) (fun h => by have := HN7.out.1 h; have e := List.length_drop (i := n) (l := D); omega) HN7.out.2 strsW_one (by unfold maxLen; omega) (by omega) hgrow7.size ?_; intro v8 w8 hown8 hgrow8; have hB8 := bel_step9W hB7 (by simp) hown7 hgrow8; have cx8 := HX.out _ (hBw6.trans (hB8.mono hBw6.size))))
       go_wp2_with fail
       go_roundw
       case rel => exact ⟨k + 1, by omega, by go_num, by rw [HN.out, HE.out]; exact own_insW hown8 (Nat.le_trans hBw6.size (by simp)), hBw6.trans (hB8.mono hBw6.size)⟩
       case measure => simp [intOf]; omega
    ·obtain rfl : n = D.length := by omega
     have hni : ¬ (D.length : Int) < (D.length : Int) := by omega
     have hdi : decide (D.length < D.length) = false := decide_eq_false (by omega)
     have HE := Lib.hid (insX_at hn HP.out (fun z hz => by rw [List.getElem?_eq_none (Nat.le_refl _)] at hz; cases hz))
     go_wp2_with fail
     go_quiet (fail)
     by_cases huc : uc = D.length
     ·rcases Nat.eq_zero_or_pos D.length with hz | hz
      ·obtain rfl : D = [] := List.eq_nil_of_length_eq_zero hz
       go_upto_region 9 with (first
        | (refine wpList_build_noneW _ rfl rfl ?_)
        | (at_builtin; refine wpList_append_anyW _ rfl _ _ 67 rfl wr.heap.size 9 i0 (.string ByteArray.empty) 1 16 Tryz.underlying67 hii iz0 iz1 iz2 rfl (by decide) _ 0 _ rfl (own_none9W _ _) _ _ _ (strsW (([] : List ByteArray).drop 0)) rfl (by simp [strsW]) (fun _ => by first | rfl | omega) (fun ad ha j u hu => by simp [strsW] at hu) strsW_one (by unfold maxLen; omega) (by omega) (by simp) ?_; intro v6 w6 hown6 hgrow6; have hO6 := own_normW hown6; have hB6 := none9_belW hgrow6; clear hown6 hgrow6; obtain ⟨va, vn, vc, rfl⟩ := own_sliceW hO6; obtain rfl : vn = (([] : List ByteArray).drop 0).length := own_lenW hO6))
       have hBw6 := hB1.trans (hB6.mono hB1.size)
       have HT := Lib.hid ((show w6.drew.ownsRow W0.heap.size 9 1 (.slice ua ([] : List ByteArray).length uc) ([] : List ByteArray).length (strsW ([] : List ByteArray)) from own_belowW hO (Below.drew hB6)).alloc (.cells #[.string x] 9))
       have HR6 := Lib.hid (fun w' (hb : Below w6.heap.size w6 w') => ((RowW.of_own hO6).below hb).news)
       have cx : w6.drew.cell? ⟨g0, o0 + k, none⟩ = some (.string x) := HX.out _ (Below.drew hBw6)
       have hba : Below w6.heap.size w6 (w6.drew.alloc (.cells #[.string x] 9)) := (Below.drew (Below.refl _ _)).alloc (Nat.le_refl _) _
       have ca := HX.out _ (hBw6.trans (hba.mono hBw6.size))
       have hrl : (([] : List ByteArray).drop 0).length ≤ 1000 := by rw [List.length_drop]; omega
       clear hO6
       go_region_held3 (fun w' => w'.cell? ⟨g0, o0 + k, none⟩ = some (.string x))
        (assumption)
        (first
         | (refine step_append_grows (by rfl) _ _ 67 (by rfl) 9 i0 (.string ByteArray.empty) 1 16 Tryz.underlying67 hii iz0 iz1 iz2 (by rfl) (by decide) _ 0 0 (strsW (([] : List ByteArray).take 0)) (by rfl) (fun _ => ⟨rfl, rfl⟩) (by simp [strsW] <;> omega) (fun b hb j u hu => by simp [strsW] at hu) _ 1 1 [.string x] (by rfl) (by rfl) (World.news_of_block (World.alloc_heap_new _ _)) (by intro u hu; simp at hu; subst hu; rfl) (Nat.lt_succ_self _) (by unfold maxLen; omega) (by omega) ?_; intro v7 w7 hown7 hgrow7; have hB7 := hba.grown hgrow7 hba.size (fun g hg => by cases hg); have cx7 := HX.out _ (hBw6.trans (hB7.mono hBw6.size)); have HN7 := Lib.hid (HR6.out _ hB7))
         | (refine step_append_anyW _ (by rfl) _ _ 67 (by rfl) _ 9 i0 (.string ByteArray.empty) 1 16 Tryz.underlying67 hii iz0 iz1 iz2 (by rfl) (by decide) _ (0 + 1) _ (by rfl) hown7 va _ vc (strsW (([] : List ByteArray).drop 0)) (by rfl) (by simp [strsW]) (fun h => by have := HN7.out.1 h; have e := List.length_drop (i := 0) (l := ([] : List ByteArray)); omega) HN7.out.2 strsW_one (by unfold maxLen; omega) (by omega) hgrow7.size ?_; intro v8 w8 hown8 hgrow8; have hB8 := bel_step9W hB7 (by simp) hown7 hgrow8; have cx8 := HX.out _ (hBw6.trans (hB8.mono hBw6.size))))
       go_wp2_with fail
       go_roundw
       case rel => exact ⟨k + 1, by omega, by go_num, by rw [HN.out, HE.out]; exact own_insW hown8 (Nat.le_trans hBw6.size (by simp)), hBw6.trans (hB8.mono hBw6.size)⟩
       case measure => simp [intOf]; omega
      ·have hz : ¬ D.length = 0 := by omega
       obtain ⟨g, cap, hg⟩ := own_someW hO (by omega)
       injection hg with q1 _ q3
       subst q1
       subst q3
       go_upto_region 9 with (first
        | (refine wpList_build_noneW _ rfl rfl ?_)
        | (at_builtin; refine wpList_append_anyW _ rfl _ _ 67 rfl wr.heap.size 9 i0 (.string ByteArray.empty) 1 16 Tryz.underlying67 hii iz0 iz1 iz2 rfl (by decide) _ 0 _ rfl (own_none9W _ _) _ _ _ (strsW (D.drop D.length)) rfl (by simp [strsW]) (fun _ => by first | rfl | omega) (fun ad ha j u hu => by simp [strsW] at hu) strsW_one (by unfold maxLen; omega) (by omega) (by simp) ?_; intro v6 w6 hown6 hgrow6; have hO6 := own_normW hown6; have hB6 := none9_belW hgrow6; clear hown6 hgrow6; obtain ⟨va, vn, vc, rfl⟩ := own_sliceW hO6; obtain rfl : vn = (D.drop D.length).length := own_lenW hO6))
       have hBw6 := hB1.trans (hB6.mono hB1.size)
       have HT := Lib.hid ((show w6.drew.ownsRow W0.heap.size 9 1 (.slice (some ⟨g, 0, none⟩) D.length uc) D.length (strsW D) from own_belowW hO (Below.drew hB6)).alloc (.cells #[.string x] 9))
       have HR6 := Lib.hid (fun w' (hb : Below w6.heap.size w6 w') => ((RowW.of_own hO6).below hb).news)
       have cx : w6.drew.cell? ⟨g0, o0 + k, none⟩ = some (.string x) := HX.out _ (Below.drew hBw6)
       have hba : Below w6.heap.size w6 (w6.drew.alloc (.cells #[.string x] 9)) := (Below.drew (Below.refl _ _)).alloc (Nat.le_refl _) _
       have ca := HX.out _ (hBw6.trans (hba.mono hBw6.size))
       have hrl : (D.drop D.length).length ≤ 1000 := by rw [List.length_drop]; omega
       clear hO6
       go_region_held3 (fun w' => w'.cell? ⟨g0, o0 + k, none⟩ = some (.string x))
        (assumption)
        (first
         | (refine step_append_grows (by rfl) _ _ 67 (by rfl) 9 i0 (.string ByteArray.empty) 1 16 Tryz.underlying67 hii iz0 iz1 iz2 (by rfl) (by decide) _ D.length D.length (strsW (D.take D.length)) (by rfl) (fun h => by cases h) (by simp [strsW] <;> omega) (fun b hb j u hu => by cases hb; simp only [Addr.add_lit, Nat.zero_add]; exact own_takeW HT.out D.length j u hu) _ 1 1 [.string x] (by rfl) (by rfl) (World.news_of_block (World.alloc_heap_new _ _)) (by intro u hu; simp at hu; subst hu; rfl) (Nat.lt_succ_self _) (by unfold maxLen; omega) (by omega) ?_; intro v7 w7 hown7 hgrow7; have hB7 := hba.grown hgrow7 hba.size (fun g hg => by cases hg); have cx7 := HX.out _ (hBw6.trans (hB7.mono hBw6.size)); have HN7 := Lib.hid (HR6.out _ hB7))
         | (refine step_append_anyW _ (by rfl) _ _ 67 (by rfl) _ 9 i0 (.string ByteArray.empty) 1 16 Tryz.underlying67 hii iz0 iz1 iz2 (by rfl) (by decide) _ (D.length + 1) _ (by rfl) hown7 va _ vc (strsW (D.drop D.length)) (by rfl) (by simp [strsW]) (fun h => by have := HN7.out.1 h; have e := List.length_drop (i := D.length) (l := D); omega) HN7.out.2 strsW_one (by unfold maxLen; omega) (by omega) hgrow7.size ?_; intro v8 w8 hown8 hgrow8; have hB8 := bel_step9W hB7 (by simp) hown7 hgrow8; have cx8 := HX.out _ (hBw6.trans (hB8.mono hBw6.size))))
       go_wp2_with fail
       go_roundw
       case rel => exact ⟨k + 1, by omega, by go_num, by rw [HN.out, HE.out]; exact own_insW hown8 (Nat.le_trans hBw6.size (by simp)), hBw6.trans (hB8.mono hBw6.size)⟩
       case measure => simp [intOf]; omega
     ·rcases Nat.eq_zero_or_pos D.length with hz | hz
      ·obtain rfl : D = [] := List.eq_nil_of_length_eq_zero hz
       go_upto_region 9 with (first
        | (refine wpList_build_noneW _ rfl rfl ?_)
        | (at_builtin; refine wpList_append_anyW _ rfl _ _ 67 rfl wr.heap.size 9 i0 (.string ByteArray.empty) 1 16 Tryz.underlying67 hii iz0 iz1 iz2 rfl (by decide) _ 0 _ rfl (own_none9W _ _) _ _ _ (strsW (([] : List ByteArray).drop 0)) rfl (by simp [strsW]) (fun _ => by first | rfl | omega) (fun ad ha j u hu => by simp [strsW] at hu) strsW_one (by unfold maxLen; omega) (by omega) (by simp) ?_; intro v6 w6 hown6 hgrow6; have hO6 := own_normW hown6; have hB6 := none9_belW hgrow6; clear hown6 hgrow6; obtain ⟨va, vn, vc, rfl⟩ := own_sliceW hO6; obtain rfl : vn = (([] : List ByteArray).drop 0).length := own_lenW hO6))
       have hBw6 := hB1.trans (hB6.mono hB1.size)
       have HT := Lib.hid ((show w6.drew.ownsRow W0.heap.size 9 1 (.slice ua ([] : List ByteArray).length uc) ([] : List ByteArray).length (strsW ([] : List ByteArray)) from own_belowW hO (Below.drew hB6)).alloc (.cells #[.string x] 9))
       have HR6 := Lib.hid (fun w' (hb : Below w6.heap.size w6 w') => ((RowW.of_own hO6).below hb).news)
       have cx : w6.drew.cell? ⟨g0, o0 + k, none⟩ = some (.string x) := HX.out _ (Below.drew hBw6)
       have hba : Below w6.heap.size w6 (w6.drew.alloc (.cells #[.string x] 9)) := (Below.drew (Below.refl _ _)).alloc (Nat.le_refl _) _
       have ca := HX.out _ (hBw6.trans (hba.mono hBw6.size))
       have hrl : (([] : List ByteArray).drop 0).length ≤ 1000 := by rw [List.length_drop]; omega
       clear hO6
       go_region_held3 (fun w' => w'.cell? ⟨g0, o0 + k, none⟩ = some (.string x))
        (assumption)
        (first
         | (refine step_append_grows (by rfl) _ _ 67 (by rfl) 9 i0 (.string ByteArray.empty) 1 16 Tryz.underlying67 hii iz0 iz1 iz2 (by rfl) (by decide) _ 0 0 (strsW (([] : List ByteArray).take 0)) (by rfl) (fun _ => ⟨rfl, rfl⟩) (by simp [strsW] <;> omega) (fun b hb j u hu => by simp [strsW] at hu) _ 1 1 [.string x] (by rfl) (by rfl) (World.news_of_block (World.alloc_heap_new _ _)) (by intro u hu; simp at hu; subst hu; rfl) (Nat.lt_succ_self _) (by unfold maxLen; omega) (by omega) ?_; intro v7 w7 hown7 hgrow7; have hB7 := hba.grown hgrow7 hba.size (fun g hg => by cases hg); have cx7 := HX.out _ (hBw6.trans (hB7.mono hBw6.size)); have HN7 := Lib.hid (HR6.out _ hB7))
         | (refine step_append_anyW _ (by rfl) _ _ 67 (by rfl) _ 9 i0 (.string ByteArray.empty) 1 16 Tryz.underlying67 hii iz0 iz1 iz2 (by rfl) (by decide) _ (0 + 1) _ (by rfl) hown7 va _ vc (strsW (([] : List ByteArray).drop 0)) (by rfl) (by simp [strsW]) (fun h => by have := HN7.out.1 h; have e := List.length_drop (i := 0) (l := ([] : List ByteArray)); omega) HN7.out.2 strsW_one (by unfold maxLen; omega) (by omega) hgrow7.size ?_; intro v8 w8 hown8 hgrow8; have hB8 := bel_step9W hB7 (by simp) hown7 hgrow8; have cx8 := HX.out _ (hBw6.trans (hB8.mono hBw6.size))))
       go_wp2_with fail
       go_roundw
       case rel => exact ⟨k + 1, by omega, by go_num, by rw [HN.out, HE.out]; exact own_insW hown8 (Nat.le_trans hBw6.size (by simp)), hBw6.trans (hB8.mono hBw6.size)⟩
       case measure => simp [intOf]; omega
      ·have hz : ¬ D.length = 0 := by omega
       obtain ⟨g, cap, hg⟩ := own_someW hO (by omega)
       injection hg with q1 _ q3
       subst q1
       subst q3
       go_upto_region 9 with (first
        | (refine wpList_build_noneW _ rfl rfl ?_)
        | (at_builtin; refine wpList_append_anyW _ rfl _ _ 67 rfl wr.heap.size 9 i0 (.string ByteArray.empty) 1 16 Tryz.underlying67 hii iz0 iz1 iz2 rfl (by decide) _ 0 _ rfl (own_none9W _ _) _ _ _ (strsW (D.drop D.length)) rfl (by simp [strsW]) (fun _ => by first | rfl | omega) (fun ad ha j u hu => by simp [strsW] at hu) strsW_one (by unfold maxLen; omega) (by omega) (by simp) ?_; intro v6 w6 hown6 hgrow6; have hO6 := own_normW hown6; have hB6 := none9_belW hgrow6; clear hown6 hgrow6; obtain ⟨va, vn, vc, rfl⟩ := own_sliceW hO6; obtain rfl : vn = (D.drop D.length).length := own_lenW hO6))
       have hBw6 := hB1.trans (hB6.mono hB1.size)
       have HT := Lib.hid ((show w6.drew.ownsRow W0.heap.size 9 1 (.slice (some ⟨g, 0, none⟩) D.length uc) D.length (strsW D) from own_belowW hO (Below.drew hB6)).alloc (.cells #[.string x] 9))
       have HR6 := Lib.hid (fun w' (hb : Below w6.heap.size w6 w') => ((RowW.of_own hO6).below hb).news)
       have cx : w6.drew.cell? ⟨g0, o0 + k, none⟩ = some (.string x) := HX.out _ (Below.drew hBw6)
       have hba : Below w6.heap.size w6 (w6.drew.alloc (.cells #[.string x] 9)) := (Below.drew (Below.refl _ _)).alloc (Nat.le_refl _) _
       have ca := HX.out _ (hBw6.trans (hba.mono hBw6.size))
       have hrl : (D.drop D.length).length ≤ 1000 := by rw [List.length_drop]; omega
       clear hO6
       go_region_held3 (fun w' => w'.cell? ⟨g0, o0 + k, none⟩ = some (.string x))
        (assumption)
        (first
         | (refine step_append_grows (by rfl) _ _ 67 (by rfl) 9 i0 (.string ByteArray.empty) 1 16 Tryz.underlying67 hii iz0 iz1 iz2 (by rfl) (by decide) _ D.length D.length (strsW (D.take D.length)) (by rfl) (fun h => by cases h) (by simp [strsW] <;> omega) (fun b hb j u hu => by cases hb; simp only [Addr.add_lit, Nat.zero_add]; exact own_takeW HT.out D.length j u hu) _ 1 1 [.string x] (by rfl) (by rfl) (World.news_of_block (World.alloc_heap_new _ _)) (by intro u hu; simp at hu; subst hu; rfl) (Nat.lt_succ_self _) (by unfold maxLen; omega) (by omega) ?_; intro v7 w7 hown7 hgrow7; have hB7 := hba.grown hgrow7 hba.size (fun g hg => by cases hg); have cx7 := HX.out _ (hBw6.trans (hB7.mono hBw6.size)); have HN7 := Lib.hid (HR6.out _ hB7))
         | (refine step_append_anyW _ (by rfl) _ _ 67 (by rfl) _ 9 i0 (.string ByteArray.empty) 1 16 Tryz.underlying67 hii iz0 iz1 iz2 (by rfl) (by decide) _ (D.length + 1) _ (by rfl) hown7 va _ vc (strsW (D.drop D.length)) (by rfl) (by simp [strsW]) (fun h => by have := HN7.out.1 h; have e := List.length_drop (i := D.length) (l := D); omega) HN7.out.2 strsW_one (by unfold maxLen; omega) (by omega) hgrow7.size ?_; intro v8 w8 hown8 hgrow8; have hB8 := bel_step9W hB7 (by simp) hown7 hgrow8; have cx8 := HX.out _ (hBw6.trans (hB8.mono hBw6.size))))
       go_wp2_with fail
       go_roundw
       case rel => exact ⟨k + 1, by omega, by go_num, by rw [HN.out, HE.out]; exact own_insW hown8 (Nat.le_trans hBw6.size (by simp)), hBw6.trans (hB8.mono hBw6.size)⟩
       case measure => simp [intOf]; omega
  ·obtain rfl : k = l.length := by omega
   have hki : ¬ (l.length : Int) < (l.length : Int) := by omega
   have hd : decide (l.length < l.length) = false := decide_eq_false (by omega)
   rw [List.take_of_length_le (Nat.le_refl _)] at hO
   have hBl := riseX_len K l
   have HBS := Lib.hid (show ∀ y ∈ riseX K l, y.size = W from fun y hy => HSZ.out y ((riseX_both K l).1.mem_iff.1 hy))
   obtain ⟨B, hBe⟩ : ∃ B, riseX K l = B := ⟨_, rfl⟩
   rw [hBe] at hO hBl HBS
   have HBE := Lib.hid hBe
   have HO := Lib.hid hO
   obtain ⟨ua, cap, hsl⟩ := (RowW.of_own hO).slice
   subst hsl
   clear hBe hO hlt hk
   have hB100 : B.length ≤ 1000 := by omega
   clear hBl
   go_wp2_with fail
   generalize wr = w2 at *
   go_loopw [9, 10] (fun b i wq => ∃ k : Nat, i = .int .i64 (k : Int) ∧ k ≤ B.length ∧ b = .string (catW (B.take k)) ∧ wq = w2) (fun _ i _ => B.length + 1 - (intOf i).toNat)
   case atStart => exact ⟨0, rfl, Nat.zero_le _, rfl, rfl⟩
   case round =>
    obtain ⟨k, rfl, hk, rfl, hwq⟩ := hrel
    subst hwq
    by_cases hlt : k < B.length
    ·have hki : (k : Int) < (B.length : Int) := by omega
     have hd : decide (k < B.length) = true := decide_eq_true hlt
     have hk0 : (0 : Int) ≤ (k : Int) := by omega
     obtain ⟨x, hx⟩ : ∃ x, B[k]? = some x := ⟨_, List.getElem?_eq_getElem hlt⟩
     obtain ⟨ao', cap', e', hc⟩ := RowW.of_own HO.out
     injection e' with q1 q2 q3
     subst q1
     subst q3
     obtain ⟨g0, o0, rfl, c0⟩ := hc k x hx
     have HST := Lib.hid (show catW (B.take k) ++ x = catW (B.take (k + 1)) by rw [take_nextW hx, cat_snoc])
     have hq : ¬ 9223372036854775807 < (catW (B.take k)).size + x.size := by
      rw [cat_size (W := W) (fun y hy => HBS.out y (List.mem_of_mem_take hy)), HBS.out x (mem_of_at hx)]
      have : (B.take k).length * W ≤ 1000 * 255 := Nat.mul_le_mul (by rw [List.length_take]; omega) h3
      omega
     clear hc hx
     generalize catW (B.take k) = cc at *
     go_wp2_with fail
     go_roundw
     case rel => exact ⟨k + 1, by go_num, by omega, by rw [HST.out], trivial⟩
     case measure => simp [intOf]; omega
    ·obtain rfl : k = B.length := by omega
     have hki : ¬ (B.length : Int) < (B.length : Int) := by omega
     have hd : decide (B.length < B.length) = false := decide_eq_false (by omega)
     rw [List.take_of_length_le (Nat.le_refl _)]
     go_wp2_with fail
     go_ret
     exact ⟨by rw [HBE.out]; rfl, hB⟩
def twiceX (K : Nat) (l : List ByteArray) : Bool := !decide ((l.map (keyW K)).Nodup)
theorem nodup_snocX {α : Type} [DecidableEq α] {l : List α} {x : α} : (l ++ [x]).Nodup ↔ l.Nodup ∧ x ∉ l := by
 rw [List.nodup_append]
 constructor
 ·rintro ⟨h1, _, h3⟩
  exact ⟨h1, fun hm => h3 x hm x (List.mem_singleton.2 rfl) rfl⟩
 ·rintro ⟨h1, h2⟩
  exact ⟨h1, List.nodup_cons.2 ⟨by simp, List.nodup_nil⟩, fun a ha b hb e => by obtain rfl := List.mem_singleton.1 hb; exact h2 (e ▸ ha)⟩
set_option maxRecDepth 1000000 in
set_option maxHeartbeats 4000000 in
theorem twice_ref (K : Nat) (v : Value) (l : List ByteArray) (w : World) (hv : RowW w v l) (hl : l.length ≤ 4000) (hs : ∀ x ∈ l, K ≤ x.size) :
  Calls Tryz.prog 44 #[v, .int .i64 (K : Int)] w fun e w' => e = .returned (.bool (twiceX K l)) ∧ Below w.heap.size w w' := by
 have HV := Lib.hid hv
 obtain ⟨ao, c, rfl, -⟩ := hv
 have HSZ := Lib.hid hs
 have k0 : (0 : Int) ≤ (K : Int) := by omega
 have HCELL := Lib.hid (fun w' (hb : Below w.heap.size w w') (i : Nat) (x : ByteArray) (hx : l[i]? = some x) => show ∃ g o, ao = some ⟨g, o, none⟩ ∧ w'.cell? ⟨g, o + i, none⟩ = some (.string x) by
  obtain ⟨ao', cap', e', hc⟩ := HV.out
  injection e' with q1 q2 q3
  subst q1
  obtain ⟨g0, o0, e0, c0⟩ := hc i x hx
  exact ⟨g0, o0, e0, (hb.cell (p := ⟨g0, o0 + i, none⟩) (lt_of_cellW c0)).trans c0⟩)
 clear hs
 go_enter Tryz.func44, Tryz.ntmps44
 go_wp2_with fail
 go_loopw [5, 6] (fun i _ wr => ∃ n : Nat, n ≤ l.length ∧ i = .int .i64 (n : Int) ∧ Hid ((l.take n).map (keyW K)).Nodup ∧ Below w.heap.size w wr) (fun i _ _ => l.length - (intOf i).toNat)
 case atStart => exact ⟨0, Nat.zero_le _, rfl, Lib.hid List.nodup_nil, Below.refl _ _⟩
 case round =>
  obtain ⟨n, hn, rfl, HND, hB⟩ := hrel
  by_cases hlt : n < l.length
  ·have hlt' : (n : Int) < (l.length : Int) := by omega
   have hn0 : (0 : Int) ≤ (n : Int) := by omega
   obtain ⟨x, hx⟩ : ∃ x, l[n]? = some x := ⟨_, List.getElem?_eq_getElem hlt⟩
   obtain ⟨g, o, hao, -⟩ := HCELL.out _ hB n x hx
   subst hao
   have x1 : (K : Int) ≤ (x.size : Int) := by have := HSZ.out x (mem_of_at hx); omega
   have HXX := Lib.hid hx
   clear hx
   have HB := Lib.hid hB
   go_wp2_with fail
   go_loopw [6] (fun j w1 => ∃ m : Nat, m ≤ n ∧ j = .int .i64 (m : Int) ∧ Hid (∀ i y, i < m → l[i]? = some y → keyW K y ≠ keyW K x) ∧ Below w.heap.size w w1) (fun j _ => n - (intOf j).toNat)
   case atStart => exact ⟨0, Nat.zero_le _, rfl, Lib.hid (fun i y h => by omega), HB.out⟩
   case round =>
    obtain ⟨m, hm, rfl, HP, hB1⟩ := hrel
    by_cases hml : m < n
    ·have hml' : (m : Int) < (n : Int) := by omega
     have hm0 : (0 : Int) ≤ (m : Int) := by omega
     have hm1 : (m : Int) < (l.length : Int) := by omega
     obtain ⟨y, hy⟩ : ∃ y, l[m]? = some y := ⟨_, List.getElem?_eq_getElem (by omega)⟩
     obtain ⟨g', o', e', cy⟩ := HCELL.out _ hB1 m y hy
     injection e' with e'
     injection e' with e1' e2'
     subst e1' e2'
     obtain ⟨g', o', e', cx⟩ := HCELL.out _ hB1 n x HXX.out
     injection e' with e'
     injection e' with e1' e2'
     subst e1' e2'
     have y1 : (K : Int) ≤ (y.size : Int) := by have := HSZ.out y (mem_of_at hy); omega
     have HYY := Lib.hid hy
     clear hy
     by_cases hk : keyW K y = keyW K x
     ·have e1 : ((y.extract 0 K).toList == (x.extract 0 K).toList) = true := by rw [eql_W]; exact decide_eq_true hk
      have HTW := Lib.hid (show twiceX K l = true by
       unfold twiceX
       rw [Bool.not_eq_true', decide_eq_false_iff_not]
       intro hnd
       have h1 : (l.map (keyW K))[m]? = some (keyW K y) := by rw [List.getElem?_map, HYY.out]; rfl
       have h2 : (l.map (keyW K))[n]? = some (keyW K x) := by rw [List.getElem?_map, HXX.out]; rfl
       rw [hk] at h1
       obtain ⟨a1, b1⟩ := List.getElem?_eq_some_iff.1 h1
       obtain ⟨a2, b2⟩ := List.getElem?_eq_some_iff.1 h2
       exact (List.pairwise_iff_getElem.1 hnd) m n a1 a2 hml (b1.trans b2.symm))
      clear hk
      go_wp2_with fail
      go_quiet (fail)
      go_wp2_with fail
      go_ret
      exact ⟨by rw [HTW.out]; rfl, below_drewN hB1 _⟩
     ·have e1 : ((y.extract 0 K).toList == (x.extract 0 K).toList) = false := by rw [eql_W]; exact decide_eq_false hk
      have HP2 := Lib.hid (show ∀ i z, i < m + 1 → l[i]? = some z → keyW K z ≠ keyW K x from fun i z hi hz => by
       rcases Nat.lt_or_ge i m with h | h
       ·exact HP.out i z h hz
       ·obtain rfl : i = m := by omega
        rw [HYY.out] at hz; cases hz; exact hk)
      clear hk
      go_wp2_with fail
      go_quiet (fail)
      go_wp2_with fail
      go_roundw
      case rel => exact ⟨m + 1, by omega, by go_num, HP2, below_drewN hB1 _⟩
      case measure => simp [intOf]; omega
    ·obtain rfl : m = n := by omega
     have hml' : ¬ (m : Int) < (m : Int) := by omega
     have HND2 := Lib.hid (show ((l.take (m + 1)).map (keyW K)).Nodup by
      rw [take_nextW HXX.out, List.map_append, List.map_cons, List.map_nil, nodup_snocX]
      refine ⟨HND.out, fun hmem => ?_⟩
      obtain ⟨y, hy, he⟩ := List.mem_map.1 hmem
      obtain ⟨i, hi⟩ := List.getElem?_of_mem hy
      rw [List.getElem?_take] at hi
      split at hi
      ·exact HP.out i y (by assumption) hi he
      ·cases hi)
     go_wp2_with fail
     go_roundw
     case rel => exact ⟨m + 1, by omega, by go_num, HND2, hB1⟩
     case measure => simp [intOf]; omega
  ·obtain rfl : n = l.length := by omega
   have hlt' : ¬ (l.length : Int) < (l.length : Int) := by omega
   have HTW := Lib.hid (show twiceX K l = false by
    unfold twiceX
    rw [Bool.not_eq_false', decide_eq_true_iff]
    have := HND.out
    rwa [List.take_of_length_le (Nat.le_refl _)] at this)
   go_wp2_with fail
   go_ret
   exact ⟨by rw [HTW.out]; rfl, hB⟩
end Go.Proofs.YtgjifikahlmioaaGreatDoor
