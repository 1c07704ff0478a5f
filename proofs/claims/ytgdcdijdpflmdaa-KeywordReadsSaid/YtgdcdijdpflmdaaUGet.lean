/-
  Get: the project's, and the document's.
-/
import Derived.Test.YtgdcdijdpflmdaaUSet
namespace Go.Proofs.Ytgdcdijdpflmdaa
open Go Go.RowKit

/-- What a key is told. -/
def getL (K : KX) (key : ByteArray) : List ByteArray := ((K[placeN K key]?).map (·.2)).getD []
set_option maxRecDepth 100000 in
set_option maxHeartbeats 1500000 in
theorem get_kw (v : Value) (k : List ByteArray × KX) (key : ByteArray) (w : World) (hv : KeyU w v k) (hK : k.2.length ≤ 100) (hx : ∀ x ∈ k.2, x.2.length ≤ 1000) (hks : key.size ≤ 1000) :
    Calls Try.prog 66 #[v, .string key] w fun e w' => ∃ u, e = .returned (.tuple #[u, .bool (decide (placeN k.2 (lowS key) < k.2.length))]) ∧ w'.ownsRow w.heap.size 9 1 u (getL k.2 (lowS key)).length (strs (getL k.2 (lowS key))) ∧ Below w.heap.size w w' := by
  obtain ⟨va, vk, rfl, rA, rK⟩ := hv
  obtain ⟨W0, hW0⟩ : ∃ W0, w.alloc (.cells #[va, vk] 41) = W0 := ⟨_, rfl⟩
  have hb0 : Below w.heap.size w W0 := by rw [← hW0]; exact (Below.refl _ w).alloc (Nat.le_refl _) _
  have hA0 : W0.heap[w.heap.size]? = some (.cells #[va, vk] 41 (0, 0)) := by rw [← hW0]; exact World.alloc_heap_new w _
  have LK := Lib.hid (fun wr => lower_text key wr (Nat.le_trans hks (by decide)))
  have PL := Lib.hid (fun wr (hb : Below W0.heap.size W0 wr) => place_own (.agg #[va, vk]) k (lowS key) wr ⟨va, vk, rfl, (rA.below hb0).below hb, (rK.below hb0).below hb⟩ (by omega))
  have HQ := Lib.hid (fun wr (hb : Below W0.heap.size W0 wr) => key_cells ((hb.block _ (lt_of_heap hA0)).trans hA0))
  have HE := Lib.hid (rK.below hb0)
  obtain ⟨a1, p1, rfl, -⟩ := rA
  obtain ⟨a2, p2, rfl, -⟩ := rK
  have hbd : Below W0.heap.size W0 W0.drew := Below.drew (Below.refl _ _)
  obtain ⟨q0, q1⟩ := HQ.out _ hbd
  have HB0 := Lib.hid hb0
  have HX := Lib.hid hx
  clear hb0 hA0 hx
  generalize lowS key = key' at *
  obtain ⟨pi, hpi⟩ : ∃ pi, placeI k.2 key' = pi := ⟨_, rfl⟩
  rw [hpi] at PL
  have HPI := Lib.hid hpi
  clear hpi
  go_enter Try.func66, Try.ntmps66
  go_upto_region 1 with fail
  clear hW0
  go_region_held3 (fun w' => w'.cell? ⟨w.heap.size, 0, none⟩ = some (.slice a1 k.1.length p1) ∧ w'.cell? ⟨w.heap.size, 1, none⟩ = some (.slice a2 (List.length k.2) p2))
    (exact ⟨by assumption, by assumption⟩)
    (first
      | (go_at_call 72; (with_reducible refine (LK.out _).mono ?_); rintro e w3 ⟨rfl, hb3⟩; have hB3 := hbd.trans (hb3.mono hbd.size); obtain ⟨q0, q1⟩ := HQ.out _ hB3)
      | (go_at_call 90; (with_reducible refine (PL.out _ hB3).mono ?_); rintro e w4 ⟨rfl, hb4⟩; have hB4 := hB3.trans (hb4.mono hB3.size); obtain ⟨q0, q1⟩ := HQ.out _ hB4))
  have HB4 := Lib.hid hB4
  clear hB3 hb4 hB4 hb3 PL LK hbd
  by_cases hp : placeN k.2 key' < k.2.length
  · have hI : pi = (placeN k.2 key' : Int) := by rw [← HPI.out]; unfold placeI; rw [if_pos hp]
    subst hI
    have hd : decide (placeN k.2 key' < k.2.length) = true := decide_eq_true hp
    obtain ⟨y, hy⟩ : ∃ y, k.2[placeN k.2 key']? = some y := ⟨_, List.getElem?_eq_getElem hp⟩
    have HG := Lib.hid (show getL k.2 key' = y.2 by unfold getL; rw [hy]; rfl)
    have HD := Lib.hid hd
    obtain ⟨g, o, ⟨ta, tn, tc⟩, rfl, -, c2, hr, -⟩ := ExtU.at (HE.out.below HB4.out) hy
    simp only [slc] at c2 hr
    have CC := Lib.hid (copied_own (.slice ta tn tc) y.2 w4 hr (Nat.le_trans (HX.out y (List.mem_of_getElem? hy)) (by decide)))
    clear hd hy HPI HE hr
    have hp0 : ¬ (placeN k.2 key' : Int) < 0 := by omega
    have hp1 : (placeN k.2 key' : Int) < (k.2.length : Int) := by omega
    have hp2 : (0 : Int) ≤ (placeN k.2 key' : Int) := by omega
    go_wp2_with (go_at_call 57; (with_reducible refine CC.out.mono ?_); rintro e w5 ⟨u, rfl, ho5, hb5⟩)
    go_ret2
    try rw [HD.out]
    rw [HG.out]
    exact ⟨_, rfl, ownsRow_base ho5 (Nat.le_trans HB0.out.size HB4.out.size), HB0.out.trans ((HB4.out.trans (hb5.mono HB4.out.size)).mono HB0.out.size)⟩
  · have hI : pi = -1 := by rw [← HPI.out]; unfold placeI; rw [if_neg hp]
    subst hI
    have hd : decide (placeN k.2 key' < k.2.length) = false := decide_eq_false hp
    have HG := Lib.hid (show getL k.2 key' = [] by unfold getL; rw [List.getElem?_eq_none (by omega)]; rfl)
    have HD := Lib.hid hd
    clear hd
    go_wp2_with fail
    go_ret2
    try rw [HD.out]
    rw [HG.out]
    exact ⟨_, rfl, World.ownsRow_nil _ _ _ _, HB0.out.trans (HB4.out.mono HB0.out.size)⟩
set_option maxRecDepth 100000 in
set_option maxHeartbeats 1500000 in
theorem getR_kw (v : Value) (k : List ByteArray × KX) (key : ByteArray) (w : World) (hv : KeyU w v k) (hK : k.2.length ≤ 100) (hks : key.size ≤ 1000) :
    Calls Try.prog 65 #[v, .string key] w fun e w' => e = .returned (.int .i64 (placeI k.2 (lowS key))) ∧ Below w.heap.size w w' := by
  obtain ⟨va, vk, rfl, rA, rK⟩ := hv
  obtain ⟨W0, hW0⟩ : ∃ W0, w.alloc (.cells #[va, vk] 41) = W0 := ⟨_, rfl⟩
  have hb0 : Below w.heap.size w W0 := by rw [← hW0]; exact (Below.refl _ w).alloc (Nat.le_refl _) _
  have hA0 : W0.heap[w.heap.size]? = some (.cells #[va, vk] 41 (0, 0)) := by rw [← hW0]; exact World.alloc_heap_new w _
  have LK := Lib.hid (fun wr => lower_ref key wr (Nat.le_trans hks (by decide)))
  have HQ := Lib.hid (fun wr (hb : Below W0.heap.size W0 wr) => key_cells ((hb.block _ (lt_of_heap hA0)).trans hA0))
  have HE := Lib.hid (rK.below hb0)
  obtain ⟨a1, p1, rfl, -⟩ := rA
  obtain ⟨a2, p2, rfl, -⟩ := rK
  have HB0 := Lib.hid hb0
  clear hb0 hA0
  generalize lowS key = key' at *
  go_enter Try.func65, Try.ntmps65
  go_upto_region 1 with fail
  clear hW0
  go_wp2_with fail
  go_loopw [5] (fun i wr => ∃ n : Nat, n ≤ k.2.length ∧ i = .int .i64 (n : Int) ∧ Below W0.heap.size W0 wr ∧ Hid (∀ i x, i < n → k.2[i]? = some x → x.1 ≠ key')) (fun i _ => k.2.length - (intOf i).toNat)
  case atStart => exact ⟨0, Nat.zero_le _, rfl, Below.refl _ _, Lib.hid (fun i x h => by omega)⟩
  case round =>
    obtain ⟨n, hn, rfl, hB, HP⟩ := hrel
    obtain ⟨q0, q1⟩ := HQ.out _ hB
    by_cases hlt : n < k.2.length
    · have hki : (n : Int) < (k.2.length : Int) := by omega
      have hk0 : (0 : Int) ≤ (n : Int) := by omega
      obtain ⟨x, hx⟩ : ∃ x, k.2[n]? = some x := ⟨_, List.getElem?_eq_getElem hlt⟩
      obtain ⟨g, o, t, rfl, c1, -, -, -⟩ := HE.out.at hx
      have HC := Lib.hid (fun wr (hb : Below W0.heap.size W0 wr) => (hb.cell (p := ⟨g, o + n * 2, none⟩) (lt_of_cellF c1)).trans c1)
      have HBn := Lib.hid hB
      have hbd : Below W0.heap.size W0 wr.drew := hB.trans ((Below.drew (Below.refl _ _)).mono hB.size)
      obtain ⟨d0, d1⟩ := HQ.out _ hbd
      have c2 := HC.out _ hbd
      clear c1
      by_cases hb : x.1 = key'
      · have HR := Lib.hid (show placeI k.2 key' = (n : Int) by
          have e : placeN k.2 key' = n := placeN_of (by omega) HP.out (fun y hy => by rw [hx] at hy; cases hy; exact hb)
          unfold placeI
          rw [e, if_pos hlt])
        have ht : (x.1.toList == key'.toList) = true := by rw [hb]; simp
        obtain ⟨xk, xl⟩ := x
        dsimp only at ht c2 HC
        clear hb hx
        go_upto_region 4 with fail
        go_region_held3 (fun w' => w'.cell? ⟨w.heap.size, 1, none⟩ = some (.slice (some ⟨g, o, none⟩) (List.length k.2) p2) ∧ w'.cell? ⟨g, o + n * 2, none⟩ = some (.string xk))
          (exact ⟨by assumption, by assumption⟩)
          ((go_at_call 12; (with_reducible refine (LK.out _).mono ?_); rintro e w3 ⟨rfl, hb3⟩; have hB3 := hbd.trans (hb3.mono hbd.size); obtain ⟨q0, q1⟩ := HQ.out _ hB3; have c3 := HC.out _ hB3))
        go_wp2_with fail
        go_ret
        exact ⟨by rw [HR.out]; rfl, HB0.out.trans (hB3.mono HB0.out.size)⟩
      · have HS := Lib.hid (show ∀ i y, i < n + 1 → k.2[i]? = some y → y.1 ≠ key' from fun i y hi hy => by
          rcases Nat.lt_or_ge i n with h | h
          · exact HP.out i y h hy
          · obtain rfl : i = n := by omega
            rw [hx] at hy; cases hy; exact hb)
        have ht := toList_ne hb
        obtain ⟨xk, xl⟩ := x
        dsimp only at ht c2 HC
        clear hb hx
        go_upto_region 4 with fail
        go_region_held3 (fun w' => w'.cell? ⟨w.heap.size, 1, none⟩ = some (.slice (some ⟨g, o, none⟩) (List.length k.2) p2) ∧ w'.cell? ⟨g, o + n * 2, none⟩ = some (.string xk))
          (exact ⟨by assumption, by assumption⟩)
          ((go_at_call 12; (with_reducible refine (LK.out _).mono ?_); rintro e w3 ⟨rfl, hb3⟩; have hB3 := hbd.trans (hb3.mono hbd.size); obtain ⟨q0, q1⟩ := HQ.out _ hB3; have c3 := HC.out _ hB3))
        go_wp2_with fail
        go_roundw
        case rel => exact ⟨n + 1, by omega, by go_num, hB3, HS⟩
        case measure => simp [intOf]; omega
    · obtain rfl : n = k.2.length := by omega
      have hki : ¬ (k.2.length : Int) < (k.2.length : Int) := by omega
      have HR := Lib.hid (show placeI k.2 key' = -1 by
        have e : placeN k.2 key' = k.2.length := placeN_of (Nat.le_refl _) HP.out (fun y hy => by simp at hy)
        unfold placeI
        rw [e, if_neg (by omega)])
      go_wp2_with fail
      go_ret
      exact ⟨by rw [HR.out]; rfl, HB0.out.trans (hB.mono HB0.out.size)⟩
end Go.Proofs.Ytgdcdijdpflmdaa
