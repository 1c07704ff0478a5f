/-
  KeywordSets: the walk over the law.
-/
import Derived.Test.YtgdcdijdpflmdaaUSets
namespace Go.Proofs.Ytgdcdijdpflmdaa
open Go Go.RowKit

def acb : List ByteArray := [⟨#[97]⟩, ⟨#[99, 97]⟩, ⟨#[98]⟩]
theorem acb_small : ∀ m, 9 ≤ m → ∀ x ∈ acb, x.size ≤ m := fun m hm x hx => Nat.le_trans ((show ∀ x ∈ acb, x.size ≤ 9 by decide +kernel) x hx) hm
set_option maxRecDepth 100000 in
set_option maxHeartbeats 4000000 in
theorem sets_law (va vk : Value) (A : List ByteArray) (K : KX) (key : ByteArray) (vv : Value) (L : List ByteArray) (w : World) (hA : RowA w va A) (hK : ExtA w vk K) (hkey : key.size ≤ maxLen) (hV : RowA w vv L) :
    Calls Try.prog 5 #[.agg #[va, vk], .string key, vv] w fun e w' => e = .returned (.bool true) ∧ Below w.heap.size w w' := by
  obtain ⟨W0, hW0⟩ : ∃ W0, w.alloc (.cells #[va, vk] 41) = W0 := ⟨_, rfl⟩
  have hb0 : Below w.heap.size w W0 := by rw [← hW0]; exact (Below.refl _ w).alloc (Nat.le_refl _) _
  have hh0 : W0.heap[w.heap.size]? = some (.cells #[va, vk] 41 (0, 0)) := by rw [← hW0]; exact World.alloc_heap_new w _
  have AW := Lib.hid (awake9_own W0)
  have FW := Lib.hid (fun w5 (hb : Below W0.heap.size W0 w5) => few_kw va vk A K w5 (hA.below (hb0.trans (hb.mono hb0.size))) (hK.below (hb0.trans (hb.mono hb0.size))))
  have FV := Lib.hid (fun w5 (hb : Below W0.heap.size W0 w5) => few_arg vv L 3 3 rfl w w5 hV (hb0.trans (hb.mono hb0.size)) (by decide))
  have FK := Lib.hid (fun (w5 : World) (g : Nat) (h : w5.heap[g]? = some (.cells #[.string key] 9 (0, 0))) => fewU_any (.slice (some ⟨g, 0, none⟩) 1 1) [key] 1 1 rfl w5 (rowU_one h) (fun x hx => by rw [List.mem_singleton.1 hx]; exact hkey) (by unfold maxLen; simp) (by decide))
  rw [fewT_one] at FK
  have hfl := fewT_len 3 L
  have HFS := Lib.hid (few_small 3 L 1000 (by decide))
  have hcs := cut9_size key
  have HB0 := Lib.hid hb0
  have HH0 := Lib.hid hh0
  have HT := Lib.hid (tiny_few (A, K))
  have HTR := Lib.hid (tiny_read (l := acb) (n := 3) (by decide) (acb_small 100 (by decide)))
  obtain ⟨a0, n0, rfl, -, -⟩ := hA
  obtain ⟨k0, m0, rfl, -, -⟩ := hK
  obtain ⟨v0, c0, rfl, -, -⟩ := hV
  generalize fewK (A, K) = x at *
  generalize fewT 3 L = fv at *
  generalize cut9 key = ck at *
  clear hb0 hh0
  go_enter Try.func5, Try.ntmps5
  go_upto_region 2 with (go_at_call 14; (with_reducible refine AW.out.mono ?_); rintro e w1 ⟨rfl, hb1⟩; obtain ⟨q0, q1⟩ := key_cells ((hb1.block _ (lt_of_heap HH0.out)).trans HH0.out); have F1 := Lib.hid (FW.out w1 hb1))
  clear hW0
  go_upto_region 3 with (go_at_call 16; (with_reducible refine F1.out.mono ?_); rintro e w2 ⟨u2, rfl, hk2, hb2⟩; obtain ⟨xa, xn, xc, ya, yn, yc, rfl⟩ := key_agg hk2)
  obtain ⟨W3, hW3⟩ : ∃ W3, w2.alloc (.cells #[.slice xa xn xc, .slice ya yn yc] 41) = W3 := ⟨_, rfl⟩
  have hb3 : Below w2.heap.size w2 W3 := by rw [← hW3]; exact (Below.refl _ w2).alloc (Nat.le_refl _) _
  have hX3 : W3.heap[w2.heap.size]? = some (.cells #[.slice xa xn xc, .slice ya yn yc] 41 (0, 0)) := by rw [← hW3]; exact World.alloc_heap_new w2 _
  have hB3 : Below W0.heap.size W0 W3 := hb1.trans ((hb2.trans (hb3.mono hb2.size)).mono hb1.size)
  obtain ⟨W4, hW4⟩ : ∃ W4, W3.alloc (.cells #[.string key] 9) = W4 := ⟨_, rfl⟩
  have hb4 : Below W3.heap.size W3 W4 := by rw [← hW4]; exact (Below.refl _ W3).alloc (Nat.le_refl _) _
  have F4 := Lib.hid (FK.out W4 W3.heap.size (by rw [← hW4]; exact World.alloc_heap_new W3 _))
  have HX4 := Lib.hid ((hb4.block _ (lt_of_heap hX3)).trans hX3)
  have HK4 := Lib.hid ((hk2.below hb3).below hb4)
  have HB4 := Lib.hid (hB3.trans (hb4.mono hB3.size))
  rw [hW3]
  clear hW3 hb3 hb2 hb1 hX3 hk2 F1 FW AW FK hb4 hB3 q0 q1
  go_upto_region 4 with (go_at_call 15; (with_reducible refine F4.out.mono ?_); rintro e w5 ⟨u5, rfl, ho5, hb5⟩; obtain ⟨g5, c5, rfl⟩ := own_someU ho5 (Nat.succ_pos 0); have e5 := own_cell ho5 0 ck rfl)
  clear hW4 e5
  have HB5 := Lib.hid (HB4.out.trans (hb5.mono HB4.out.size))
  have HX5 := Lib.hid ((hb5.block _ (lt_of_heap HX4.out)).trans HX4.out)
  have HK5 := Lib.hid (HK4.out.below hb5)
  have F5 := Lib.hid (FV.out w5 HB5.out)
  clear ho5 hb5 F4 HX4 HK4 HB4 FV
  go_upto_region 5 with (go_at_call 15; (with_reducible refine F5.out.mono ?_); rintro e w6 ⟨u6, rfl, ho6, hb6⟩; obtain ⟨fa, fn, fc, rfl⟩ := own_slice ho6; obtain rfl : fn = fv.length := own_lenD ho6)
  have HQ := Lib.hid (fun wr (hb : Below w6.heap.size w6 wr) => key_cells (((hb6.trans (hb.mono hb6.size)).block _ (lt_of_heap HX5.out)).trans HX5.out))
  have HV6 := Lib.hid (RowU.of_own ho6)
  have HK6 := Lib.hid (HK5.out.below hb6)
  have HB6 := Lib.hid (HB5.out.trans (hb6.mono HB5.out.size))
  have S1 := Lib.hid (fun wr (hb : Below w6.heap.size w6 wr) (s : ByteArray) (hs : s.size ≤ 1000) => sets_own (.agg #[.slice xa xn xc, .slice ya yn yc]) x s (.slice fa fv.length fc) fv wr (HK6.out.below hb) (HV6.out.below hb) (Nat.le_trans HT.out.la (by decide)) (Nat.le_trans HT.out.lk (by decide)) (fun y hy => Nat.le_trans (HT.out.sx y hy).2 (by decide)) hs (by omega) HFS.out)
  have hs2 : (⟨#[99, 111]⟩ : ByteArray).size ≤ 1000 := by decide
  have hs1 : ck.size ≤ 1000 := by omega
  have hbz := Below.refl w6.heap.size w6
  obtain ⟨q0, q1⟩ := HQ.out _ hbz
  clear ho6 hb6 F5 HX5 HK5 HB5
  go_wp2_with (first
    | (go_at_call 25; (with_reducible refine (S1.out _ hbz ck hs1).mono ?_); rintro e w7 ⟨rfl, hb7⟩; have hb7 := hbz.trans (hb7.mono hbz.size); obtain ⟨q0, q1⟩ := HQ.out _ hb7)
    | (go_at_call 25; (with_reducible refine (S1.out _ hb7 ⟨#[99, 111]⟩ hs2).mono ?_); rintro e w8 ⟨rfl, hb8⟩; have hb8 := hb7.trans (hb8.mono hb7.size); have hb9 := hb8.alloc hb8.size (.cells #[.string ⟨#[97]⟩, .string ⟨#[99, 97]⟩, .string ⟨#[98]⟩] 9); have RD := Lib.hid (read_kw (.slice (some ⟨w8.heap.size, 0, none⟩) 3 3) acb (w8.alloc (.cells #[.string ⟨#[97]⟩, .string ⟨#[99, 97]⟩, .string ⟨#[98]⟩] 9)) (RowU.of_row (Row.of_block acb _ _ rfl (World.alloc_heap_new w8 _))) (by decide) (acb_small 1000 (by decide))))
    | (go_at_call 18; (with_reducible refine RD.out.mono ?_); rintro e w10 ⟨u10, rfl, hk10, hb10⟩; have hb10 := hb9.trans (hb10.mono hb9.size); have S2 := Lib.hid (sets_own u10 (readK acb) ck (.slice fa fv.length fc) fv w10 hk10 (HV6.out.below hb10) (Nat.le_trans HTR.out.la (by decide)) (Nat.le_trans HTR.out.lk (by decide)) (fun y hy => Nat.le_trans (HTR.out.sx y hy).2 (by decide)) hs1 (by omega) HFS.out); obtain ⟨_, _, _, _, _, _, rfl⟩ := key_agg hk10)
    | (go_at_call 25; (with_reducible refine S2.out.mono ?_); rintro e w11 ⟨rfl, hb11⟩; have hb11 := hb10.trans (hb11.mono hb10.size)))
  go_ret
  exact ⟨rfl, HB0.out.trans ((HB6.out.trans (hb11.mono HB6.out.size)).mono HB0.out.size)⟩
end Go.Proofs.Ytgdcdijdpflmdaa
