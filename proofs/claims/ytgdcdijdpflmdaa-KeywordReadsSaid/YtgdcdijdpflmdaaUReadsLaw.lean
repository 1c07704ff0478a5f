/-
  KeywordReads: the walk over the law.
-/
import Derived.Test.YtgdcdijdpflmdaaUOrderR
import Derived.Test.YtgdcdijdpflmdaaUReadR
import Derived.Test.YtgdcdijdpflmdaaUBackLaw
namespace Go.Proofs.Ytgdcdijdpflmdaa
open Go Go.RowKit

set_option maxRecDepth 100000 in
set_option maxHeartbeats 4000000 in
theorem reads_law (vl : Value) (L : List ByteArray) (va vk : Value) (A : List ByteArray) (K : KX) (w : World) (hL : RowA w vl L) (hA : RowA w va A) (hK : ExtA w vk K) :
    Calls Try.prog 4 #[vl, .agg #[va, vk]] w fun e w' => e = .returned (.bool true) ∧ Below w.heap.size w w' := by
  obtain ⟨W0, hW0⟩ : ∃ W0, w.alloc (.cells #[va, vk] 41) = W0 := ⟨_, rfl⟩
  have hb0 : Below w.heap.size w W0 := by rw [← hW0]; exact (Below.refl _ w).alloc (Nat.le_refl _) _
  have hh0 : W0.heap[w.heap.size]? = some (.cells #[va, vk] 41 (0, 0)) := by rw [← hW0]; exact World.alloc_heap_new w _
  have AW := Lib.hid (awake9_own W0)
  have FW := Lib.hid (fun w5 (hb : Below W0.heap.size W0 w5) => few_kw va vk A K w5 (hA.below (hb0.trans (hb.mono hb0.size))) (hK.below (hb0.trans (hb.mono hb0.size))))
  have FV := Lib.hid (fun w5 (hb : Below W0.heap.size W0 w5) => few_arg vl L 10 10 rfl w w5 hL (hb0.trans (hb.mono hb0.size)) (by decide))
  have hfl := fewT_len 10 L
  have HFS := Lib.hid (few_small 10 L)
  have HB0 := Lib.hid hb0
  have HH0 := Lib.hid hh0
  have HT := Lib.hid (tiny_few (A, K))
  obtain ⟨a0, n0, rfl, -, -⟩ := hA
  obtain ⟨k0, m0, rfl, -, -⟩ := hK
  obtain ⟨v0, c0, rfl, -, -⟩ := hL
  generalize fewK (A, K) = x at *
  generalize fewT 10 L = fl at *
  have T10 := Lib.hid (show Tiny x 10 from ⟨Nat.le_trans HT.out.la (by decide), Nat.le_trans HT.out.lk (by decide), HT.out.sa, fun y hy => ⟨(HT.out.sx y hy).1, Nat.le_trans (HT.out.sx y hy).2 (by decide)⟩⟩)
  have HTR := Lib.hid (tiny_read (l := fl) (n := 10) hfl (HFS.out 100 (by decide)))
  clear hb0 hh0
  go_enter Try.func4, Try.ntmps4
  go_upto_region 2 with (go_at_call 14; (with_reducible refine AW.out.mono ?_); rintro e w1 ⟨rfl, hb1⟩; have F1 := Lib.hid (FV.out w1 hb1))
  clear hW0
  go_upto_region 3 with (go_at_call 15; (with_reducible refine F1.out.mono ?_); rintro e w2 ⟨u2, rfl, ho2, hb2⟩; have hB2 := hb1.trans (hb2.mono hb1.size); obtain ⟨fa, fn, fc, rfl⟩ := own_slice ho2; obtain rfl : fn = fl.length := own_lenD ho2; obtain ⟨q0, q1⟩ := key_cells ((hB2.block _ (lt_of_heap HH0.out)).trans HH0.out); have F2 := Lib.hid (FW.out w2 hB2))
  go_upto_region 4 with (go_at_call 16; (with_reducible refine F2.out.mono ?_); rintro e w3 ⟨u3, rfl, hk3, hb3⟩; obtain ⟨xa, xn, xc, ya, yn, yc, rfl⟩ := key_agg hk3)
  obtain ⟨W4, hW4⟩ : ∃ W4, w3.alloc (.cells #[.slice xa xn xc, .slice ya yn yc] 41) = W4 := ⟨_, rfl⟩
  have hb4 : Below w3.heap.size w3 W4 := by rw [← hW4]; exact (Below.refl _ w3).alloc (Nat.le_refl _) _
  have hX4 : W4.heap[w3.heap.size]? = some (.cells #[.slice xa xn xc, .slice ya yn yc] 41 (0, 0)) := by rw [← hW4]; exact World.alloc_heap_new w3 _
  have HQ := Lib.hid (fun wr (hb : Below W4.heap.size W4 wr) => key_cells ((hb.block _ (lt_of_heap hX4)).trans hX4))
  have HKX := Lib.hid (fun wr (hb : Below W4.heap.size W4 wr) => (hk3.below hb4).below hb)
  have HFL := Lib.hid (fun wr (hb : Below W4.heap.size W4 wr) => (((RowU.of_own ho2).below hb3).below hb4).below hb)
  have HB4 := Lib.hid (HB0.out.trans ((hB2.trans ((hb3.trans (hb4.mono hb3.size)).mono hB2.size)).mono HB0.out.size))
  rw [hW4]
  clear hW4 hb4 hX4 hk3 hb3 hb2 hb1 hB2 ho2 q0 q1 F1 F2 FW FV AW
  have RD := Lib.hid (fun wr (hb : Below W4.heap.size W4 wr) => read_kw (.slice fa fl.length fc) fl wr (HFL.out _ hb) (by omega) (HFS.out 1000 (by decide)))
  have RR := Lib.hid (fun wr (hb : Below W4.heap.size W4 wr) => readRf_kw (.slice fa fl.length fc) fl wr (HFL.out _ hb) (by omega) (HFS.out 1000 (by decide)))
  have WO := Lib.hid (fun wr (hb : Below W4.heap.size W4 wr) => write_any (.agg #[.slice xa xn xc, .slice ya yn yc]) x wr (HKX.out _ hb) T10.out)
  have WR := Lib.hid (fun wr (hb : Below W4.heap.size W4 wr) => writeR_kw (.agg #[.slice xa xn xc, .slice ya yn yc]) x.1 x.2 wr (HKX.out _ hb) (Nat.le_trans T10.out.la (by decide)) (Nat.le_trans T10.out.lk (by decide)) (fun y hy => Nat.le_trans (T10.out.sx y hy).2 (by decide)))
  have OO := Lib.hid (fun wr (hb : Below W4.heap.size W4 wr) => order_any (.agg #[.slice xa xn xc, .slice ya yn yc]) x wr (HKX.out _ hb) T10.out)
  have OR := Lib.hid (fun wr (hb : Below W4.heap.size W4 wr) => orderR_kw (.agg #[.slice xa xn xc, .slice ya yn yc]) x wr (HKX.out _ hb) (Nat.le_trans T10.out.la (by decide)) (Nat.le_trans T10.out.lk (by decide)))
  have SK := Lib.hid (fun (v1 v2 : Value) (k : List ByteArray × KX) (hT : Tiny k 10) wr (h1 : KeyU wr v1 k) (h2 : KeyU wr v2 k) => sameK_refl v1 v2 k wr h1 h2 (Nat.le_trans hT.la (by decide)) (Nat.le_trans hT.lk (by decide)) (fun y hy => Nat.le_trans (hT.sx y hy).2 (by decide)))
  have HWL := Lib.hid (show (writeK x).length ≤ 1048576 by
    obtain ⟨xA, xK⟩ := x
    rw [writeK_ext, List.length_append]
    have h1 := flat_lenU xK (fun y hy => Nat.le_trans (T10.out.sx y hy).2 (by decide)) (Nat.le_trans T10.out.lk (by decide)) xK.length
    rw [List.take_of_length_le (Nat.le_refl _)] at h1
    have h2 := T10.out.la
    simp only at h2
    omega)
  have hbz := Below.refl W4.heap.size W4
  -- read, twice
  go_upto_region 5 with (first
    | (go_at_call 18; (with_reducible refine (RD.out _ hbz).mono ?_); rintro e w5 ⟨u5, rfl, hk5, hb5⟩; have hB5 := hbz.trans (hb5.mono hbz.size); obtain ⟨_, _, _, _, _, _, rfl⟩ := key_agg hk5)
    | (go_at_call 19; (with_reducible refine (RR.out _ hB5).mono ?_); rintro e w6 ⟨u6, rfl, hk6, hb6⟩; have hB6 := hB5.trans (hb6.mono hB5.size); have S6 := Lib.hid (SK.out _ _ _ HTR.out w6 (hk5.below hb6) hk6); obtain ⟨_, _, _, _, _, _, rfl⟩ := key_agg hk6)
    | (go_at_call 17; (with_reducible refine S6.out.mono ?_); rintro e w7 ⟨rfl, hb7⟩; have hB7 := hB6.trans (hb7.mono hB6.size)))
  clear S6 hk5 hk6 hb5 hb6 hb7 hB5 hB6 hbz
  -- written
  have hbd : Below W4.heap.size W4 w7.drew := hB7.trans ((Below.drew (Below.refl _ _)).mono hB7.size)
  obtain ⟨q0, q1⟩ := HQ.out _ hbd
  go_region_held3 (fun w' => w'.cell? ⟨w3.heap.size, 0, none⟩ = some (.slice xa xn xc) ∧ w'.cell? ⟨w3.heap.size, 1, none⟩ = some (.slice ya yn yc))
    (exact ⟨by assumption, by assumption⟩)
    (first
      | (go_at_call 21; (with_reducible refine (WO.out _ hbd).mono ?_); rintro e w8 ⟨u8, rfl, ho8, hb8⟩; have hB8 := hbd.trans (hb8.mono hbd.size); obtain ⟨q0, q1⟩ := HQ.out _ hB8)
      | (go_at_call 22; (with_reducible refine (WR.out _ hB8).mono ?_); rintro e w9 ⟨u9, rfl, ho9, hb9⟩; have hB9 := hB8.trans (hb9.mono hB8.size); obtain ⟨q0, q1⟩ := HQ.out _ hB9; have S9 := sameU_rows u8 u9 (writeK x) (writeK x) w9 (RowU.of_own (ownsRow_belowF ho8 hb9)) (RowU.of_own ho9) HWL.out; rw [decide_eq_true rfl] at S9; have S9 := Lib.hid S9; obtain ⟨_, _, _, rfl⟩ := own_slice ho8; obtain ⟨_, _, _, rfl⟩ := own_slice ho9)
      | (go_at_call 20; (with_reducible refine S9.out.mono ?_); rintro e w10 ⟨rfl, hb10⟩; have hB10 := hB9.trans (hb10.mono hB9.size); obtain ⟨q0, q1⟩ := HQ.out _ hB10))
  clear S9 ho8 ho9 hb8 hb9 hb10 hB8 hB9 hB7 hbd
  -- ordered
  have hbd : Below W4.heap.size W4 w10.drew := hB10.trans ((Below.drew (Below.refl _ _)).mono hB10.size)
  go_upto_region 6 with fail
  obtain ⟨q0, q1⟩ := HQ.out _ hbd
  go_region_held3 (fun w' => w'.cell? ⟨w3.heap.size, 0, none⟩ = some (.slice xa xn xc) ∧ w'.cell? ⟨w3.heap.size, 1, none⟩ = some (.slice ya yn yc))
    (exact ⟨by assumption, by assumption⟩)
    (first
      | (go_at_call 23; (with_reducible refine (OO.out _ hbd).mono ?_); rintro e w11 ⟨va11, vk11, rfl, -, hk11, hb11⟩; have hB11 := hbd.trans (hb11.mono hbd.size); obtain ⟨q0, q1⟩ := HQ.out _ hB11)
      | (go_at_call 24; (with_reducible refine (OR.out _ hB11).mono ?_); rintro e w12 ⟨u12, rfl, hk12, hb12⟩; have hB12 := hB11.trans (hb12.mono hB11.size); obtain ⟨q0, q1⟩ := HQ.out _ hB12; have S12 := Lib.hid (SK.out _ _ _ (tiny_order T10.out) w12 (hk11.below hb12) hk12); obtain ⟨_, _, _, _, _, _, rfl⟩ := key_agg hk12)
      | (go_at_call 17; (with_reducible refine S12.out.mono ?_); rintro e w13 ⟨rfl, hb13⟩; have hB13 := hB12.trans (hb13.mono hB12.size); obtain ⟨q0, q1⟩ := HQ.out _ hB13))
  clear S12 hk11 hk12 hb11 hb12 hb13 hB11 hB12 hB10 hbd q0 q1
  -- read, then ordered
  go_upto_region 7 with fail
  go_wp2_with (first
    | (go_at_call 18; (with_reducible refine (RD.out _ hB13).mono ?_); rintro e w14 ⟨u14, rfl, hk14, hb14⟩; have hB14 := hB13.trans (hb14.mono hB13.size); have O14 := Lib.hid (order_any u14 (readK fl) w14 hk14 HTR.out); obtain ⟨_, _, _, _, _, _, rfl⟩ := key_agg hk14)
    | (go_at_call 23; (with_reducible refine O14.out.mono ?_); rintro e w15 ⟨va15, vk15, rfl, -, hk15, hb15⟩; have hB15 := hB14.trans (hb15.mono hB14.size); obtain ⟨_, _, _, _, _, _, he15⟩ := key_agg hk15; injection he15 with he15; injection he15 with he15; injection he15 with he16 he15; injection he15 with he17; subst he16 he17)
    | (go_at_call 19; (with_reducible refine (RR.out _ hB15).mono ?_); rintro e w16 ⟨u16, rfl, hk16, hb16⟩; have hB16 := hB15.trans (hb16.mono hB15.size); have O16 := Lib.hid (orderR_kw u16 (readK fl) w16 hk16 (Nat.le_trans HTR.out.la (by decide)) (Nat.le_trans HTR.out.lk (by decide))); obtain ⟨_, _, _, _, _, _, rfl⟩ := key_agg hk16)
    | (go_at_call 24; (with_reducible refine O16.out.mono ?_); rintro e w17 ⟨u17, rfl, hk17, hb17⟩; have hB17 := hB16.trans (hb17.mono hB16.size); have S17 := Lib.hid (SK.out _ _ _ (tiny_order HTR.out) w17 ((hk15.below hb16).below hb17) hk17); obtain ⟨_, _, _, _, _, _, rfl⟩ := key_agg hk17)
    | (go_at_call 17; (with_reducible refine S17.out.mono ?_); rintro e w18 ⟨rfl, hb18⟩; have hB18 := hB17.trans (hb18.mono hB17.size)))
  go_ret
  exact ⟨rfl, HB4.out.trans (hB18.mono HB4.out.size)⟩
end Go.Proofs.Ytgdcdijdpflmdaa
