/-
  The document's Write.
-/
import Derived.Test.YtgdcdijdpflmdaaUWrite
import Derived.Test.YtgdcdijdpflmdaaUJoinsLaw
namespace Go.Proofs.Ytgdcdijdpflmdaa
open Go Go.RowKit

set_option maxRecDepth 100000 in
set_option maxHeartbeats 2000000 in
theorem writeR_kw (v : Value) (A : List ByteArray) (K : KX) (w : World) (hv : KeyU w v (A, K)) (hA : A.length ≤ 100) (hF : K.length ≤ 100) (hS : ∀ x ∈ K, x.2.length ≤ 100) :
    Calls Try.prog 22 #[v] w fun e w' => ∃ u, e = .returned u ∧ w'.ownsRow w.heap.size 9 1 u (writeK (A, K)).length (strs (writeK (A, K))) ∧ Below w.heap.size w w' := by
  obtain ⟨i0, hii, iz0, iz1, iz2⟩ := info_parts stringInfo
  obtain ⟨va, vk, rfl, rA, rK⟩ := hv
  obtain ⟨W0, hW0⟩ : ∃ W0, w.alloc (.cells #[va, vk] 41) = W0 := ⟨_, rfl⟩
  have hb0 : Below w.heap.size w W0 := by rw [← hW0]; exact (Below.refl _ w).alloc (Nat.le_refl _) _
  have hh0 : W0.heap[w.heap.size]? = some (.cells #[va, vk] 41 (0, 0)) := by rw [← hW0]; exact World.alloc_heap_new w _
  have hl0 := hb0.size
  have HQ := Lib.hid (fun wr (hb : Below W0.heap.size W0 wr) => key_cells ((hb.block _ (lt_of_heap hh0)).trans hh0))
  obtain ⟨q0, q1⟩ := key_cells hh0
  have HB0 := Lib.hid hb0
  have RA := Lib.hid (rA.below hb0)
  obtain ⟨a1, p1, rfl, -⟩ := rA
  have RK := Lib.hid (rK.below hb0)
  obtain ⟨ao, cp, rfl, -⟩ := rK
  have HSL := Lib.hid hS
  have HWK := Lib.hid (writeK_ext A K)
  obtain ⟨W1, hW1⟩ : ∃ W1, W0.alloc (.cells #[] 9) = W1 := ⟨_, rfl⟩
  have hb1 : Below W0.heap.size W0 W1 := by rw [← hW1]; exact (Below.refl _ W0).alloc (Nat.le_refl _) _
  have HO1 := Lib.hid (show W1.ownsRow W0.heap.size 9 1 (.slice (some ⟨W0.heap.size, 0, none⟩) 0 0) 0 (strs []) from own_lit (l := []) (by rw [← hW1]; exact World.alloc_heap_new W0 _) rfl (Nat.le_refl _) (by decide))
  have HN1 := Lib.hid ((RA.out.below hb1).news)
  obtain ⟨d0, d1⟩ := HQ.out _ hb1
  have HB1 := Lib.hid hb1
  clear hh0 hb0 hS hb1
  go_enter Try.func22, Try.ntmps22
  go_upto_region 1 with fail
  clear hW0
  go_upto_region 2 with (first
    | (refine wpList_build_none9 _ rfl rfl ?_; try rw [hW1])
    | (at_builtin; refine wpList_append_any _ rfl _ _ 26 rfl W0.heap.size 9 i0 (.string ByteArray.empty) 1 16 Try.underlying26 hii iz0 iz1 iz2 rfl (by decide) _ 0 _ rfl HO1.out a1 A.length p1 (strs A) rfl (by simp [strs]) HN1.out.1 HN1.out.2 strsU_one (by unfold maxLen; omega) (by omega) HB1.out.size ?_; intro u2 w2 hown2 hgrow2; have HO2 := Lib.hid hown2; have HB2 := Lib.hid (HB1.out.grown hgrow2 HB1.out.size (fun g hg => (HO1.out.lt g hg).1)); clear hown2 hgrow2))
  have HA0 := Lib.hid (show Acc W0 A u2 w2 from ⟨by have h := HO2.out; rw [show strs [] ++ strs A = strs A from rfl, Nat.zero_add] at h; exact h, HB2.out⟩)
  clear hW1 d0 d1 q0 q1 HO1 HN1 HB1 HO2 HB2
  go_wp2_with fail
  go_loopw [3, 4] (fun u i wr => ∃ k : Nat, k ≤ K.length ∧ i = .int .i64 (k : Int) ∧ Acc W0 (A ++ (K.take k).flatMap extT) u wr) (fun _ i _ => K.length - (intOf i).toNat)
  case atStart => exact ⟨0, Nat.zero_le _, rfl, by simpa using HA0.out⟩
  case round =>
    obtain ⟨k, hk, rfl, HA⟩ := hrel
    have hsz := HA.2.size
    obtain ⟨q0, q1⟩ := HQ.out _ HA.2
    by_cases hlt : k < K.length
    · have hki : (k : Int) < (K.length : Int) := by omega
      have hk0 : (0 : Int) ≤ (k : Int) := by omega
      obtain ⟨x, hx⟩ : ∃ x, K[k]? = some x := ⟨_, List.getElem?_eq_getElem hlt⟩
      obtain ⟨g, o, ⟨ua, un, uc⟩, rfl, c1, c2, r1, hun⟩ := RK.out.at hx
      simp only [slc] at c2 r1 hun
      subst hun
      have hxl := HSL.out x (List.mem_of_getElem? hx)
      have HCE := Lib.hid (fun wr (hb : Below W0.heap.size W0 wr) => show wr.cell? ⟨w.heap.size, 1, none⟩ = some (.slice (some ⟨g, o, none⟩) K.length cp) ∧ wr.cell? ⟨g, o + k * 2, none⟩ = some (.string x.1) ∧ wr.cell? ⟨g, o + k * 2 + 1, none⟩ = some (.slice ua x.2.length uc) from
        ⟨(HQ.out _ hb).2, (hb.cell (p := ⟨g, o + k * 2, none⟩) (lt_of_cellF c1)).trans c1, (hb.cell (p := ⟨g, o + k * 2 + 1, none⟩) (lt_of_cellF c2)).trans c2⟩)
      have hfl := flat_lenU K HSL.out hF k
      have HNX := Lib.hid (show A ++ (K.take (k + 1)).flatMap extT = (A ++ (K.take k).flatMap extT) ++ ([x.1] ++ x.2) by rw [take_next hx, List.flatMap_append]; simp [extT])
      have hfl : (A ++ (K.take k).flatMap extT).length ≤ 10300 := by rw [List.length_append]; omega
      generalize A ++ (K.take k).flatMap extT = L at *
      have HR1 := Lib.hid r1
      have hBd : Below W0.heap.size W0 wr.drew := Below.drew HA.2
      have hownd : wr.drew.ownsRow W0.heap.size 9 1 u3 L.length (strs L) := HA.1
      have hBa : Below W0.heap.size W0 (wr.drew.alloc (.cells #[.string x.1] 9)) := hBd.alloc hBd.size _
      obtain ⟨q1, q2, q3⟩ := HCE.out _ hBd
      have HHA := Lib.hid hBa
      have HOW := Lib.hid hownd
      clear c1 c2 HA r1 q0 hx
      go_upto_region 5 with fail
      go_region_held3 (fun w' => Below W0.heap.size W0 w' ∧ w'.cell? ⟨w.heap.size, 1, none⟩ = some (.slice (some ⟨g, o, none⟩) K.length cp) ∧ w'.cell? ⟨g, o + k * 2, none⟩ = some (.string x.1) ∧ w'.cell? ⟨g, o + k * 2 + 1, none⟩ = some (.slice ua x.2.length uc))
        (first | exact ⟨by assumption, by assumption, by assumption, by assumption⟩ | exact ⟨hB6, HCE.out _ hB6⟩ | exact ⟨HHA.out, HCE.out _ HHA.out⟩)
        (first
          | ((refine step_append_lies _ (by rfl) _ _ 26 (by rfl) W0.heap.size 9 i0 (.string ByteArray.empty) 1 16 Try.underlying26 hii iz0 iz1 iz2 (by rfl) (by decide) _ L.length _ (by rfl) (HOW.out.alloc _) _ 1 1 [.string x.1] (by rfl) (by rfl) (World.news_of_block (World.alloc_heap_new _ _)) (by intro u hu; simp at hu; subst hu; rfl) (by decide) (by unfold maxLen; omega) (by omega) (by simp; omega) _ rfl ?_); intro g6 cap6 w6 hown6 hgrow6 _ _; have hB6 := HHA.out.grown hgrow6 HHA.out.size (fun g hg => (HOW.out.lt g hg).1); have HN6 := Lib.hid ((HR1.out.below hB6).news); have hs6 := hB6.size)
          | ((refine step_append_any _ (by rfl) _ _ 26 (by rfl) W0.heap.size 9 i0 (.string ByteArray.empty) 1 16 Try.underlying26 hii iz0 iz1 iz2 (by rfl) (by decide) _ (L.length + 1) _ (by rfl) hown6 ua x.2.length uc (strs x.2) (by rfl) (by simp [strs]) HN6.out.1 HN6.out.2 (by intro u hu; unfold strs at hu; obtain ⟨_, _, rfl⟩ := List.mem_map.1 hu; rfl) (by unfold maxLen; omega) (by omega) hs6 ?_); intro v7 w7 hown7 hgrow7; have hB6 := hB6.grown hgrow7 hB6.size (fun g hg => (hown6.lt g hg).1)))
      go_wp2_with fail
      go_roundw
      case rel =>
        refine ⟨k + 1, by omega, by go_num, ?_, hB6⟩
        rw [HNX.out, List.length_append, List.length_append, strs_append, strs_append, ← List.append_assoc, ← Nat.add_assoc]
        exact hown7
      case measure => simp [intOf]; omega
    · obtain rfl : k = K.length := by omega
      have hki : ¬ (K.length : Int) < (K.length : Int) := by omega
      rw [List.take_of_length_le (Nat.le_refl _)] at HA
      go_wp2_with fail
      go_ret
      exact ⟨_, rfl, by rw [HWK.out]; exact ownsRow_base HA.1 hl0, HB0.out.trans (HA.2.mono hl0)⟩
end Go.Proofs.Ytgdcdijdpflmdaa
