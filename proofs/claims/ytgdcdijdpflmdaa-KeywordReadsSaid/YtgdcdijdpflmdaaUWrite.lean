/-
  keyword: Write.
-/
import Derived.Test.YtgdcdijdpflmdaaURead
import Derived.Test.YtgdcdijdpflmdaaLSubtags
namespace Go.Proofs.Ytgdcdijdpflmdaa
open Go Go.RowKit

theorem flat_lenU (L : KX) (h : ∀ x ∈ L, x.2.length ≤ 100) (hl : L.length ≤ 100) (k : Nat) : ((L.take k).flatMap extT).length ≤ 10200 := by
  have : ∀ M : KX, (∀ x ∈ M, x.2.length ≤ 100) → (M.flatMap extT).length ≤ M.length * 101 := by
    intro M
    induction M with
    | nil => simp
    | cons x M ih =>
      intro hM
      rw [List.flatMap_cons, List.length_append, List.length_cons]
      have h1 := ih (fun y hy => hM y (List.mem_cons_of_mem _ hy))
      have h2 := hM x List.mem_cons_self
      simp only [extT, List.length_cons]
      omega
  have h1 := this (L.take k) (fun x hx => h x (List.mem_of_mem_take hx))
  have h2 : (L.take k).length ≤ 100 := by rw [List.length_take]; omega
  omega
theorem writeK_ext (A : List ByteArray) (K : KX) : writeK (A, K) = A ++ K.flatMap extT := rfl
set_option maxRecDepth 100000 in
set_option maxHeartbeats 4000000 in
theorem write_kw (v : Value) (A : List ByteArray) (K : KX) (w : World) (hv : KeyU w v (A, K)) (hA : A.length ≤ 100) (hF : K.length ≤ 100) (hS : ∀ x ∈ K, x.2.length ≤ 100) :
    Calls Try.prog 21 #[v] w fun e w' => ∃ u, e = .returned u ∧ w'.ownsRow w.heap.size 9 1 u (writeK (A, K)).length (strs (writeK (A, K))) ∧ Below w.heap.size w w' := by
  obtain ⟨i0, hii, iz0, iz1, iz2⟩ := info_parts stringInfo
  obtain ⟨va, vk, rfl, rA, rK⟩ := hv
  obtain ⟨W0, hW0⟩ : ∃ W0, w.alloc (.cells #[va, vk] 41) = W0 := ⟨_, rfl⟩
  have hb0 : Below w.heap.size w W0 := by rw [← hW0]; exact (Below.refl _ w).alloc (Nat.le_refl _) _
  have hh0 : W0.heap[w.heap.size]? = some (.cells #[va, vk] 41 (0, 0)) := by rw [← hW0]; exact World.alloc_heap_new w _
  have hl0 := hb0.size
  have d0 := cell_row2 0 hh0 rfl
  have HB0 := Lib.hid hb0
  have CC := Lib.hid (copied_own va A W0 (rA.below hb0) (by omega))
  obtain ⟨a1, p1, rfl, -⟩ := rA
  obtain ⟨ao, cp, rfl, K3⟩ := rK.below hb0
  have K3 := Lib.hid K3
  have HSL := Lib.hid hS
  have HWK := Lib.hid (writeK_ext A K)
  have hhl := lt_of_heap hh0
  have HH0 := Lib.hid hh0
  clear hh0 hb0 rK hS
  go_enter Try.func21, Try.ntmps21
  go_upto_region 2 with (go_at_call 57; (with_reducible refine CC.out.mono ?_); rintro e w1 ⟨u, rfl, ho1, hb1⟩; have d1 := cell_row2 1 ((hb1.block _ hhl).trans HH0.out) rfl)
  have HA0 := Lib.hid (show Acc W0 A u w1 from ⟨ho1, hb1⟩)
  clear hW0 d0 ho1 hb1
  go_wp2_with fail
  clear d1
  go_loopw [3, 12] (fun u i wr => ∃ k : Nat, k ≤ K.length ∧ i = .int .i64 (k : Int) ∧ Acc W0 (A ++ (K.take k).flatMap extT) u wr) (fun _ i _ => K.length - (intOf i).toNat)
  case atStart => exact ⟨0, Nat.zero_le _, rfl, by simpa using HA0.out⟩
  case round =>
    obtain ⟨k, hk, rfl, HA⟩ := hrel
    have hsz := HA.2.size
    by_cases hlt : k < K.length
    · have hki : (k : Int) < (K.length : Int) := by omega
      have hk0 : (0 : Int) ≤ (k : Int) := by omega
      obtain ⟨x, hx⟩ : ∃ x, K[k]? = some x := ⟨_, List.getElem?_eq_getElem hlt⟩
      obtain ⟨g, o, us, rfl, c1, c2, r1⟩ := K3.out k x hx
      have hxl := HSL.out x (List.mem_of_getElem? hx)
      have c1 := (HA.2.cell (p := ⟨g, o + k * 2, none⟩) (lt_of_cellF c1)).trans c1
      have c2 := (HA.2.cell (p := ⟨g, o + k * 2 + 1, none⟩) (lt_of_cellF c2)).trans c2
      have hfl := flat_lenU K HSL.out hF k
      have HNX := Lib.hid (show A ++ (K.take (k + 1)).flatMap extT = (A ++ (K.take k).flatMap extT) ++ ([x.1] ++ x.2) by rw [take_next hx, List.flatMap_append]; simp [extT])
      have hfl : (A ++ (K.take k).flatMap extT).length ≤ 10300 := by rw [List.length_append]; omega
      generalize A ++ (K.take k).flatMap extT = L at *
      obtain ⟨ua, uc, rfl, _⟩ := r1
      have hr1 : RowU W0 (.slice ua x.2.length uc) x.2 := ⟨ua, uc, rfl, by assumption⟩
      have HR1 := Lib.hid hr1
      go_upto_region 5 with fail
      obtain ⟨we, hwe⟩ : ∃ we, wr.alloc (.cells #[.string x.1, .slice ua x.2.length uc] 53) = we := ⟨_, rfl⟩
      have hE : we.heap[wr.heap.size]? = some (.cells #[.string x.1, .slice ua x.2.length uc] 53 (0, 0)) := by rw [← hwe]; exact World.alloc_heap_new wr _
      have hown : we.ownsRow W0.heap.size 9 1 u3 L.length (strs L) := by rw [← hwe]; exact HA.1.alloc _
      have hBe : Below W0.heap.size W0 we := by rw [← hwe]; exact HA.2.alloc hsz _
      have hse := hBe.size
      rw [hwe]
      have hEd : we.drew.heap[wr.heap.size]? = some (.cells #[.string x.1, .slice ua x.2.length uc] 53 (0, 0)) := hE
      have hBd : Below W0.heap.size W0 we.drew := Below.drew hBe
      have hownd : we.drew.ownsRow W0.heap.size 9 1 u3 L.length (strs L) := hown
      have hEl := lt_of_heap hEd
      have hEa := (Below.heap_alloc we.drew (.cells #[.string x.1] 9) _ hEl).trans hEd
      have hBa : Below W0.heap.size W0 (we.drew.alloc (.cells #[.string x.1] 9)) := hBd.alloc hBd.size _
      have q0 : we.drew.cell? ⟨wr.heap.size, 0, none⟩ = some (.string x.1) ∧ we.drew.cell? ⟨wr.heap.size, 1, none⟩ = some (.slice ua x.2.length uc) := by simp [World.cell?, hEd]
      have HCE := Lib.hid (fun (w' : World) (h : w'.heap[wr.heap.size]? = some (.cells #[.string x.1, .slice ua x.2.length uc] 53 (0, 0))) => show w'.cell? ⟨wr.heap.size, 0, none⟩ = some (.string x.1) ∧ w'.cell? ⟨wr.heap.size, 1, none⟩ = some (.slice ua x.2.length uc) by simp [World.cell?, h])
      obtain ⟨q1, q2⟩ := q0
      have hne : u3.ownBlock ≠ some wr.heap.size := by
        intro e
        have h1 := own_not_extE hownd hEd
        exact h1 e
      have HHE := Lib.hid hEa
      have HHA := Lib.hid hBa
      have HOW := Lib.hid hownd
      clear c1 c2 HA hE hown hBe hwe hEd hEa hr1
      go_region_held3 (fun w' => Below W0.heap.size W0 w' ∧ w'.cell? ⟨wr.heap.size, 0, none⟩ = some (.string x.1) ∧ w'.cell? ⟨wr.heap.size, 1, none⟩ = some (.slice ua x.2.length uc))
        (first | exact ⟨by assumption, by assumption, by assumption⟩ | exact ⟨hB6, HCE.out _ hE6⟩ | exact ⟨HHA.out, HCE.out _ HHE.out⟩)
        (first
          | ((refine step_append_lies _ (by rfl) _ _ 26 (by rfl) W0.heap.size 9 i0 (.string ByteArray.empty) 1 16 Try.underlying26 hii iz0 iz1 iz2 (by rfl) (by decide) _ L.length _ (by rfl) (HOW.out.alloc _) _ 1 1 [.string x.1] (by rfl) (by rfl) (World.news_of_block (World.alloc_heap_new _ _)) (by intro u hu; simp at hu; subst hu; rfl) (by decide) (by unfold maxLen; omega) (by omega) (by simp; omega) _ rfl ?_); intro g6 cap6 w6 hown6 hgrow6 _ _; have hE6 := (hgrow6.block _ (lt_of_heap HHE.out) (fun e => hne e.symm)).trans HHE.out; have hB6 := HHA.out.grown hgrow6 HHA.out.size (fun g hg => (HOW.out.lt g hg).1); have hne6 := own_not_extE hown6 hE6; have HN6 := Lib.hid ((HR1.out.below hB6).news); have hs6 := hB6.size)
          | ((refine step_append_any _ (by rfl) _ _ 26 (by rfl) W0.heap.size 9 i0 (.string ByteArray.empty) 1 16 Try.underlying26 hii iz0 iz1 iz2 (by rfl) (by decide) _ (L.length + 1) _ (by rfl) hown6 ua x.2.length uc (strs x.2) (by rfl) (by simp [strs]) HN6.out.1 HN6.out.2 (by intro u hu; unfold strs at hu; obtain ⟨_, _, rfl⟩ := List.mem_map.1 hu; rfl) (by unfold maxLen; omega) (by omega) hs6 ?_); intro v7 w7 hown7 hgrow7; have hE6 := (hgrow7.block _ (lt_of_heap hE6) (fun e => hne6 e.symm)).trans hE6; have hB6 := hB6.grown hgrow7 hB6.size (fun g hg => (hown6.lt g hg).1)))
      go_wp2_with fail
      go_roundw
      case rel =>
        refine ⟨k + 1, by omega, by go_num, ?_, hB6⟩
        rw [HNX.out, List.length_append, List.length_append, strs_append, strs_append, ← List.append_assoc, ← Nat.add_assoc]
        exact hown7
      case measure => simp [intOf]; omega
    · obtain rfl : k = K.length := by omega
      have hki : ¬ (K.length : Int) < (K.length : Int) := by omega
      rw [List.take_of_length_le (Nat.le_refl _)] at HA
      go_wp2_with fail
      go_ret
      exact ⟨_, rfl, by rw [HWK.out]; exact ownsRow_base HA.1 hl0, HB0.out.trans (HA.2.mono hl0)⟩
end Go.Proofs.Ytgdcdijdpflmdaa
