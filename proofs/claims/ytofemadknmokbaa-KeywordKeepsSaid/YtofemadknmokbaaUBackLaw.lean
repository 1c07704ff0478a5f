/-
  KeywordBack: the walk over the law.
-/
import Derived.Test.YtofemadknmokbaaUKit
namespace Go.Proofs.Ytofemadknmokbaa
open Go Go.RowKit

theorem few_arg (v : Value) (l : List ByteArray) (n : Nat) (N : Int) (hN : N = (n : Int)) (w0 w : World) (hv : RowA w0 v l) (hb : Below w0.heap.size w0 w) (hn : n ≤ 100) :
    Calls Try.prog 19 #[v, .int .i64 N] w fun e w' => ∃ u, e = .returned u ∧ w'.ownsRow w.heap.size 9 1 u (fewT n l).length (strs (fewT n l)) ∧ Below w.heap.size w w' := by
  refine fewU_any v l n N hN w ((RowU.of_arg hv).below hb) ?_ ?_ hn
  · obtain ⟨ao, c, _, _, hi⟩ := hv
    intro x hx
    obtain ⟨i, hi'⟩ := List.getElem?_of_mem hx
    obtain ⟨_, _, _, _, h⟩ := hi i x hi'
    exact h
  · obtain ⟨_, _, _, h, _⟩ := hv
    exact h
theorem RowU.at {W : World} {ao : Option Addr} {l : List ByteArray} {n c : Nat} (h : RowU W (.slice ao n c) l) {k : Nat} {x : ByteArray} (hx : l[k]? = some x) : ∃ g o, ao = some ⟨g, o, none⟩ ∧ W.cell? ⟨g, o + k, none⟩ = some (.string x) := by
  obtain ⟨a', c', he, hc⟩ := h
  injection he with q1 _ _
  subst q1
  exact hc k x hx
theorem few_small (n : Nat) (l : List ByteArray) (m : Nat) (hm : 9 ≤ m) : ∀ x ∈ fewT n l, x.size ≤ m := fun x hx => Nat.le_trans (fewT_size n l x hx) hm
set_option maxRecDepth 100000 in
set_option maxHeartbeats 4000000 in
theorem back_law (v : Value) (l : List ByteArray) (w : World) (hv : RowA w v l) :
    Calls Try.prog 5 #[v] w fun e w' => e = .returned (.bool true) ∧ Below w.heap.size w w' := by
  have AW := Lib.hid (awake9_own w)
  have FW := Lib.hid (fun w5 (hb : Below w.heap.size w w5) => few_arg v l 10 10 rfl w w5 hv hb (by decide))
  have hfl := fewT_len 10 l
  have HS := Lib.hid (few_small 10 l)
  obtain ⟨va, vc, rfl, -, -⟩ := hv
  generalize fewT 10 l = f at *
  have HWR := Lib.hid (show writeK (readK f) = f.map lowS from write_read _)
  have HRR := Lib.hid (show readK (f.map lowS) = readK f by unfold readK; rw [List.map_map]; congr 1; exact List.map_congr_left fun x _ => low_lowS x)
  have HT := Lib.hid (tiny_read hfl (HS.out 100 (by decide)))
  go_enter Try.func5, Try.ntmps5
  go_upto_region 4 with (first
    | (go_at_call 18; (with_reducible refine AW.out.mono ?_); rintro e w1 ⟨rfl, hb1⟩; have F1 := Lib.hid (FW.out w1 hb1))
    | (go_at_call 19; (with_reducible refine F1.out.mono ?_); rintro e w2 ⟨u2, rfl, ho2, hb2⟩; have hr2 := RowU.of_own ho2; have hB2 := hb1.trans (hb2.mono hb1.size); have RD := Lib.hid (read_kw u2 f w2 hr2 (by omega) (HS.out 1000 (by decide))); obtain ⟨ua, uc, rfl, hcu⟩ := id hr2)
    | (go_at_call 22; (with_reducible refine RD.out.mono ?_); rintro e w3 ⟨u3, rfl, hk3, hb3⟩; have hB3 := hB2.trans (hb3.mono hB2.size); obtain ⟨a3, n3, c3, b3, m3, d3, rfl⟩ := key_agg hk3))
  obtain ⟨W4, hW4⟩ : ∃ W4, w3.alloc (.cells #[.slice a3 n3 c3, .slice b3 m3 d3] 41) = W4 := ⟨_, rfl⟩
  have hb4 : Below w3.heap.size w3 W4 := by rw [← hW4]; exact (Below.refl _ w3).alloc (Nat.le_refl _) _
  have hK4 : W4.heap[w3.heap.size]? = some (.cells #[.slice a3 n3 c3, .slice b3 m3 d3] 41 (0, 0)) := by rw [← hW4]; exact World.alloc_heap_new w3 _
  have hB4 := hB3.trans (hb4.mono hB3.size)
  have hk4 := hk3.below hb4
  have WR := Lib.hid (write_any _ (readK f) W4 hk4 HT.out)
  rw [HWR.out] at WR
  obtain ⟨q0, q1⟩ := key_cells hK4
  have HK4 := Lib.hid hK4
  have Hk4 := Lib.hid hk4
  have HB4 := Lib.hid hB4
  have HR4 := Lib.hid ((hr2.below hb3).below hb4)
  rw [hW4]
  clear hW4 hK4 hk4 hB4 hB3 hB2 hb4 hb3 hb2 hb1 hk3 hr2 ho2 hcu RD F1 FW AW
  have hml : (f.map lowS).length = f.length := by simp
  rw [hml] at WR
  go_upto_region 5 with (go_at_call 25; (with_reducible refine WR.out.mono ?_); rintro e w5 ⟨u5, rfl, ho5, hb5⟩)
  clear q0 q1
  have hr5 : RowU w5 u5 (f.map lowS) := RowU.of_own (by rw [hml]; exact ho5)
  have HR5 := Lib.hid hr5
  have HRf := Lib.hid (HR4.out.below hb5)
  have HB5 := Lib.hid (HB4.out.trans (hb5.mono HB4.out.size))
  have HK5 := Lib.hid ((hb5.block _ (lt_of_heap HK4.out)).trans HK4.out)
  have Hk5 := Lib.hid (Hk4.out.below hb5)
  obtain ⟨ya, yc, rfl, -⟩ := hr5
  rw [hml]
  rw [hml] at HR5
  clear hb5 ho5 HR4 HB4 HK4 Hk4 WR
  have HML := Lib.hid hml
  clear hml
  have hne : ((f.length : Int) != (f.length : Int)) = false := by simp
  go_upto_region 7 with fail
  have RD5 := Lib.hid (fun w6 (hb : Below w5.heap.size w5 w6) => read_kw (.slice ya f.length yc) (f.map lowS) w6 (HR5.out.below hb) (by rw [HML.out]; omega) (low_sizes (HS.out 1000 (by decide))))
  rw [HRR.out] at RD5
  have SM5 := Lib.hid (fun w6 (hb : Below w5.heap.size w5 w6) (v : Value) (hv : KeyU w6 v (readK f)) => sameK_refl v (.agg #[.slice a3 n3 c3, .slice b3 m3 d3]) (readK f) w6 hv (Hk5.out.below hb) (Nat.le_trans HT.out.la (by decide)) (Nat.le_trans HT.out.lk (by decide)) (fun x hx => Nat.le_trans (HT.out.sx x hx).2 (by decide)))
  clear hne
  go_wp2_with fail
  go_loopw [6] (fun i wr => ∃ k : Nat, k ≤ f.length ∧ i = .int .i64 (k : Int) ∧ Below w5.heap.size w5 wr) (fun i _ => f.length - (intOf i).toNat)
  case atStart => exact ⟨0, Nat.zero_le _, rfl, Below.refl _ _⟩
  case round =>
    obtain ⟨k, hk, rfl, hB⟩ := hrel
    by_cases hlt : k < f.length
    · have hki : (k : Int) < (f.length : Int) := by omega
      have hk0 : (0 : Int) ≤ (k : Int) := by omega
      obtain ⟨x, hx⟩ : ∃ x, f[k]? = some x := ⟨_, List.getElem?_eq_getElem hlt⟩
      obtain ⟨g, o, rfl, c1⟩ := HRf.out.at hx
      obtain ⟨g2, o2, rfl, c2⟩ := HR5.out.at (show (f.map lowS)[k]? = some (lowS x) by rw [List.getElem?_map, hx]; rfl)
      have HC := Lib.hid (fun w6 (hb : Below w5.heap.size w5 w6) => show w6.cell? ⟨g, o + k, none⟩ = some (.string x) ∧ w6.cell? ⟨g2, o2 + k, none⟩ = some (.string (lowS x)) from
        ⟨(hb.cell (p := ⟨g, o + k, none⟩) (lt_of_cellF c1)).trans c1, (hb.cell (p := ⟨g2, o2 + k, none⟩) (lt_of_cellF c2)).trans c2⟩)
      have hBd : Below w5.heap.size w5 wr.drew := hB.drew
      obtain ⟨q1, q2⟩ := HC.out _ hBd
      have LW := Lib.hid (lower_ref x wr.drew (by have := HS.out 9 (by decide) x (List.mem_of_getElem? hx); omega))
      clear hx c1 c2
      generalize lowS x = y at *
      have hyy : (y.toList != y.toList) = false := by simp
      go_upto_region 10 with fail
      go_region_held3 (fun w' => w'.cell? ⟨g, o + k, none⟩ = some (.string x) ∧ w'.cell? ⟨g2, o2 + k, none⟩ = some (.string y))
        (exact ⟨by assumption, by assumption⟩)
        (first
          | (go_at_call 16; (with_reducible refine LW.out.mono ?_); rintro e w6 ⟨rfl, hb6⟩; have hB6 := hBd.trans (hb6.mono hBd.size); obtain ⟨q1, q2⟩ := HC.out _ hB6))
      go_wp2_with fail
      go_roundw
      case rel => exact ⟨k + 1, by omega, by go_num, hB6⟩
      case measure => simp [intOf]; omega
    · obtain rfl : k = f.length := by omega
      have hki : ¬ (f.length : Int) < (f.length : Int) := by omega
      go_upto_region 12 with fail
      have hBd : Below w5.heap.size w5 wr.drew := hB.drew
      have HKC := Lib.hid (fun w6 (hb : Below w5.heap.size w5 w6) => key_cells ((hb.block _ (lt_of_heap HK5.out)).trans HK5.out))
      obtain ⟨q0, q1⟩ := HKC.out _ hBd
      have RW := Lib.hid (RD5.out _ hBd)
      go_region_held3 (fun w' => w'.cell? ⟨w3.heap.size, 0, none⟩ = some (.slice a3 n3 c3) ∧ w'.cell? ⟨w3.heap.size, 1, none⟩ = some (.slice b3 m3 d3))
        (exact ⟨by assumption, by assumption⟩)
        (first
          | (go_at_call 22; (with_reducible refine RW.out.mono ?_); rintro e w6 ⟨u6, rfl, hk6, hb6⟩; have hB6 := hBd.trans (hb6.mono hBd.size); obtain ⟨q0, q1⟩ := HKC.out _ hB6; have SW := Lib.hid (SM5.out _ hB6 u6 hk6); obtain ⟨_, _, _, _, _, _, rfl⟩ := key_agg hk6)
          | (go_at_call 21; (with_reducible refine SW.out.mono ?_); rintro e w7 ⟨rfl, hb7⟩; have hB7 := hB6.trans (hb7.mono hB6.size); obtain ⟨q0, q1⟩ := HKC.out _ hB7))
      go_wp2_with fail
      go_ret
      exact ⟨rfl, HB5.out.trans (hB7.mono HB5.out.size)⟩
end Go.Proofs.Ytofemadknmokbaa
