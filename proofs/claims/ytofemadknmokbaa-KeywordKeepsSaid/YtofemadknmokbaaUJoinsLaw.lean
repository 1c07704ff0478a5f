/-
  KeywordJoins: the walk over the law.
-/
import Derived.Test.YtofemadknmokbaaUBackLaw
import Derived.Test.YtofemadknmokbaaUZ
import Derived.Deep.AppendLies
namespace Go.Proofs.Ytofemadknmokbaa
open Go Go.RowKit

theorem wpList_build_none9 (w : World) {ops : Array Oper} {rest : List Oper} {o : Oper} {a : Act} {Q : Exit → Act → World → Prop} (hg : o.guard = none) (hop : o.op = Op.buildSlice 26 0 #[])
    (hK : wpList Try.prog ops Q rest (a.put o.dst (.slice (some ⟨w.heap.size, 0, none⟩) 0 0)) (w.alloc (.cells #[] 9))) : wpList Try.prog ops Q (o :: rest) a w := by
  refine wpList_plain hg fun K hK' => ?_
  unfold Oper.wp
  simp [execOp, hop, Result.andThen, go_sem]
  exact hK' _ _ hK
theorem lt_of_cellF' {w : World} {p : Addr} {v : Value} (h : w.cell? p = some v) : p.block < w.heap.size := World.block_lt_of_cell? _ _ h
theorem step_appX {w W14 : World} {B : Nat} {ops : Array Oper} {o : Oper} {a : Act} {K : Act → World → Prop} {Q : Exit → Act → World → Prop} {X : Prop} (s x : Operand) (x0 : TypeInfo) (xii : Try.prog.info? 51 = some x0) (xz0 : x0.zero = some (.agg #[.string ByteArray.empty, .slice none 0 0])) (xz1 : x0.size = 2) (xz2 : x0.bytes = 40) (hgd : o.guard = none)
    (ho : o.op = .call { callee := .builtin .append, args := #[s, x], argTypes := #[27, 27] }) (v : Value) (n : Nat) (xs : List Value) (hs : a.eval s = v) (hown : w.ownsRow B 51 2 v n xs) (hb : Below B W14 w) (hB : B ≤ w.heap.size)
    (b : Option Addr) (d : Nat) (Z : List ZE) (hx : a.eval x = .slice b Z.length d) (N : (b = none → Z.length = 0) ∧ ∀ ad, b = some ad → ∀ j u, (zcells Z)[j]? = some u → w.cell? (ad.add j) = some u) (hn : n + Z.length ≤ 1000)
    (h : ∀ v' w', w'.ownsRow B 51 2 v' (n + Z.length) (xs ++ zcells Z) → Below B W14 w' → B ≤ w'.heap.size → (∀ (k : Nat) (cs : Array Value), w.heap[k]? = some (.cells cs 41 (0, 0)) → w'.heap[k]? = some (.cells cs 41 (0, 0))) → K (a.put o.dst v') w') : if Region.wanted o (yielded ops a.tmps) = true then Oper.wp Try.prog o a w K Q else X := by
  refine step_append_any w hgd s x 27 ho B 51 x0 (.agg #[.string ByteArray.empty, .slice none 0 0]) 2 40 Try.underlying27 xii xz0 xz1 xz2 (by rfl) (by decide) v n xs hs hown b Z.length d (zcells Z) hx (zcells_len Z) N.1 N.2 zcells_one (by unfold maxLen; omega) (by omega) hB ?_
  intro v' w' h1 h2
  refine h v' w' h1 (hb.grown h2 hB (fun g hg => (hown.lt g hg).1)) (Nat.le_trans hB h2.size) (fun k cs hk => (h2.block k (lt_of_heap hk) (own_not_ty hown hk (by decide)).symm).trans hk)
theorem fin_alloc {w17 W14 : World} {base n : Nat} {x y : Value} {xs : List Value} (ho : w17.ownsRow base 51 2 y n xs) (hb : Below base W14 w17) (hs : base ≤ w17.heap.size) : (w17.alloc (.cells #[x, y] 41)).heap[w17.heap.size]? = some (.cells #[x, y] 41 (0, 0)) ∧ (w17.alloc (.cells #[x, y] 41)).ownsRow base 51 2 y n xs ∧ Below base W14 (w17.alloc (.cells #[x, y] 41)) :=
  ⟨World.alloc_heap_new w17 _, ho.alloc _, hb.alloc hs _⟩
theorem fin_set {w17 W14 : World} {base n B : Nat} {x y x0 y0 : Value} {xs : List Value} (hk : w17.heap[B]? = some (.cells #[x0, y0] 41 (0, 0))) (ho : w17.ownsRow base 51 2 y n xs) (hb : Below base W14 w17) (hs : base ≤ B) : ((w17.setCell ⟨B, 0, none⟩ x).setCell ⟨B, 1, none⟩ y).heap[B]? = some (.cells #[x, y] 41 (0, 0)) ∧ ((w17.setCell ⟨B, 0, none⟩ x).setCell ⟨B, 1, none⟩ y).ownsRow base 51 2 y n xs ∧ Below base W14 ((w17.setCell ⟨B, 0, none⟩ x).setCell ⟨B, 1, none⟩ y) :=
  ⟨cells_set (k := 1) (cells_set (k := 0) hk x) y, own_setOther (own_setOther ho (own_not_ty ho hk (by decide)) _) (own_not_ty ho hk (by decide)) _, (hb.setCell hs _).setCell hs _⟩
theorem own_noneX {W : World} {g base : Nat} (h : W.heap[g]? = some (.cells #[] 51 (0, 0))) (hb : base ≤ g) : W.ownsRow base 51 2 (.slice (some ⟨g, 0, none⟩) 0 0) 0 [] :=
  ⟨rfl, .inr ⟨g, 0, #[], rfl, hb, h, Nat.le_refl _, by decide, rfl, rfl⟩⟩
def caB : ByteArray := ⟨#[99, 97]⟩
theorem joins_read (a b : List ByteArray) : readK (a ++ caB :: b) = ((readK a).1, (readK a).2 ++ (readK (caB :: b)).2) ∧ (readK (caB :: b)).1 = [] ∧ 1 ≤ (readK (caB :: b)).2.length := by
  have hl : lowS caB = caB := by decide +kernel
  have hk : isK caB = true := by decide +kernel
  have e : readK (caB :: b) = ([], (caB, (readR (b.map lowS)).1) :: (readR (b.map lowS)).2) := by
    unfold readK
    rw [List.map_cons, hl, readR_key _ hk]
  refine ⟨?_, by rw [e], by rw [e]; simp⟩
  unfold readK at *
  rw [List.map_append]
  exact readR_app _ _ (by rw [e])
set_option maxRecDepth 100000 in
set_option maxHeartbeats 8000000 in
theorem joins_law (v1 : Value) (l1 : List ByteArray) (v2 : Value) (l2 : List ByteArray) (w : World) (hv1 : RowA w v1 l1) (hv2 : RowA w v2 l2) :
    Calls Try.prog 9 #[v1, v2] w fun e w' => e = .returned (.bool true) ∧ Below w.heap.size w w' := by
  obtain ⟨i0, hii, iz0, iz1, iz2⟩ := info_parts stringInfo
  obtain ⟨x0, xii, xz0, xz1, xz2⟩ := info_parts extInfoM
  have AW := Lib.hid (awake9_own w)
  have FA := Lib.hid (fun w5 (hb : Below w.heap.size w w5) => few_arg v1 l1 10 10 rfl w w5 hv1 hb (by decide))
  have FB := Lib.hid (fun w5 (hb : Below w.heap.size w w5) => few_arg v2 l2 10 10 rfl w w5 hv2 hb (by decide))
  have hfa := fewT_len 10 l1
  have hfb := fewT_len 10 l2
  have HSA := Lib.hid (few_small 10 l1)
  have HSB := Lib.hid (few_small 10 l2)
  obtain ⟨va, vc, rfl, -, -⟩ := hv1
  obtain ⟨vb, vd, rfl, -, -⟩ := hv2
  generalize fewT 10 l1 = fa at *
  generalize fewT 10 l2 = fb at *
  obtain ⟨HJ1, HJ2, HJ3⟩ := joins_read fa fb
  have HJ1 := Lib.hid HJ1
  have HJ2 := Lib.hid HJ2
  have HJ3 := Lib.hid HJ3
  have HSC := Lib.hid (show ∀ m, 9 ≤ m → ∀ x ∈ caB :: fb, x.size ≤ m from fun m hm x hx => by
    rcases List.mem_cons.1 hx with rfl | hx
    · exact Nat.le_trans (by decide) hm
    · exact HSB.out m hm x hx)
  have HTA := Lib.hid (tiny_read (n := 10) hfa (HSA.out 100 (by decide)))
  have HTB := Lib.hid (tiny_read (n := 11) (l := caB :: fb) (by simp; omega) (HSC.out 100 (by decide)))
  go_enter Try.func9, Try.ntmps9
  go_upto_region 3 with (first
    | (go_at_call 18; (with_reducible refine AW.out.mono ?_); rintro e w1 ⟨rfl, hb1⟩; have F1 := Lib.hid (FA.out w1 hb1))
    | (go_at_call 19; (with_reducible refine F1.out.mono ?_); rintro e w2 ⟨u2, rfl, ho2, hb2⟩; have HB2 := Lib.hid (hb1.trans (hb2.mono hb1.size)); have HA2 := Lib.hid (RowU.of_own ho2); obtain ⟨qa, qn, qc, rfl⟩ := own_slice ho2; obtain rfl : qn = fa.length := (by obtain ⟨_, _, he, _⟩ := HA2.out; injection he); clear ho2 hb2 hb1))
  obtain ⟨W3, hW3⟩ : ∃ W3, w2.alloc (.cells #[.string ⟨#[99, 97]⟩] 9) = W3 := ⟨_, rfl⟩
  have hb3 : Below w2.heap.size w2 W3 := by rw [← hW3]; exact (Below.refl _ w2).alloc (Nat.le_refl _) _
  have HO3 := Lib.hid (show W3.ownsRow w2.heap.size 9 1 (.slice (some ⟨w2.heap.size, 0, none⟩) 1 1) 1 (strs [caB]) from own_lit (l := [caB]) (by rw [← hW3]; exact World.alloc_heap_new w2 _) rfl (Nat.le_refl _) (by decide))
  have HB3 := Lib.hid (HB2.out.trans (hb3.mono HB2.out.size))
  have F3 := Lib.hid (FB.out W3 HB3.out)
  have hs3 := hb3.size
  have HC3 := Lib.hid hb3
  have hz3 : W3.heap.size = w2.heap.size + 1 := by rw [← hW3]; simp
  clear hb3 F1 FA FB AW
  go_upto_region 4 with (first
    | (go_at_call 19; (with_reducible refine F3.out.mono ?_); rintro e w4 ⟨u4, rfl, ho4, hb4⟩; have HO4 := Lib.hid (ownsRow_belowF HO3.out hb4); have HN4 := Lib.hid (RowU.of_own ho4); have HB4 := Lib.hid (HB3.out.trans (hb4.mono HB3.out.size)); have HC4 := Lib.hid (HC3.out.trans (hb4.mono (Nat.le_of_lt (by omega)))); have hs4 := hb4.size; obtain ⟨pa, pn, pc, rfl⟩ := own_slice ho4; obtain rfl : pn = fb.length := (by obtain ⟨_, _, he, _⟩ := HN4.out; injection he); have HNN := Lib.hid (HN4.out.news); clear ho4 hb4)
    | (at_builtin; refine wpList_append_any _ rfl _ _ 26 rfl w2.heap.size 9 i0 (.string ByteArray.empty) 1 16 Try.underlying26 hii iz0 iz1 iz2 rfl (by decide) _ 1 _ rfl HO4.out pa fb.length pc (strs fb) rfl (by simp [strs]) HNN.out.1 HNN.out.2 strsU_one (by unfold maxLen; omega) (by omega) (by omega) ?_; intro u5 w5 hown5 hgrow5; have HO5 := Lib.hid hown5; have HG5 := Lib.hid hgrow5; clear hown5 hgrow5))
  clear hW3
  have hb5 : Below w2.heap.size w2 w5 := HC4.out.grown HG5.out (by omega) (fun g hg => by cases hg; exact Nat.le_refl _)
  have hB5 : Below w.heap.size w w5 := HB2.out.trans (hb5.mono HB2.out.size)
  have ho5 : w5.ownsRow w2.heap.size 9 1 u5 (caB :: fb).length (strs (caB :: fb)) := by
    have e : strs (caB :: fb) = strs [caB] ++ strs fb := rfl
    rw [e, show (caB :: fb).length = 1 + fb.length by simp; omega]
    exact HO5.out
  have HR5 := Lib.hid (RowU.of_own ho5)
  have HA5 := Lib.hid (HA2.out.below hb5)
  have HB5 := Lib.hid hB5
  obtain ⟨ra, rn, rc, rfl⟩ := own_slice ho5
  obtain ⟨n5, hn5⟩ : ∃ n, (caB :: fb).length = n := ⟨_, rfl⟩
  obtain rfl : rn = n5 := by
    obtain ⟨_, _, he, _⟩ := HR5.out
    injection he with _ h2 _
    omega
  have hn11 : rn ≤ 11 := by rw [← hn5]; simp; omega
  have R1 := Lib.hid (read_kw _ fa w5 HA5.out (by omega) (HSA.out 1000 (by decide)))
  clear HO3 HO4 HO5 HG5 HN4 HNN HB3 HB4 HC3 HC4 HB2 HA2 F3 hb5 hB5 ho5 hs3 hs4 hz3
  go_upto_region 5 with (go_at_call 22; (with_reducible refine R1.out.mono ?_); rintro e w6 ⟨u6, rfl, hk6, hb6⟩; obtain ⟨a6, m6, c6, b6, e6, d6, rfl⟩ := key_agg hk6)
  obtain ⟨W7, hW7⟩ : ∃ W7, w6.alloc (.cells #[.slice a6 m6 c6, .slice b6 e6 d6] 41) = W7 := ⟨_, rfl⟩
  have hb7 : Below w6.heap.size w6 W7 := by rw [← hW7]; exact (Below.refl _ w6).alloc (Nat.le_refl _) _
  have hX7 : W7.heap[w6.heap.size]? = some (.cells #[.slice a6 m6 c6, .slice b6 e6 d6] 41 (0, 0)) := by rw [← hW7]; exact World.alloc_heap_new w6 _
  have hb57 : Below w5.heap.size w5 W7 := hb6.trans (hb7.mono hb6.size)
  have HX7 := Lib.hid hX7
  have Hk7 := Lib.hid (hk6.below hb7)
  have H57 := Lib.hid hb57
  have R2 := Lib.hid (read_kw _ (caB :: fb) W7 (HR5.out.below hb57) (by rw [hn5]; omega) (HSC.out 1000 (by decide)))
  rw [hW7]
  clear hW7 hb7 hX7 hb57 hk6 hb6 R1
  go_upto_region 6 with (go_at_call 22; (with_reducible refine R2.out.mono ?_); rintro e w8 ⟨u8, rfl, hk8, hb8⟩; obtain ⟨a8, m8, c8, b8, e8, d8, rfl⟩ := key_agg hk8)
  obtain ⟨W9, hW9⟩ : ∃ W9, w8.alloc (.cells #[.slice a8 m8 c8, .slice b8 e8 d8] 41) = W9 := ⟨_, rfl⟩
  have hb9 : Below w8.heap.size w8 W9 := by rw [← hW9]; exact (Below.refl _ w8).alloc (Nat.le_refl _) _
  have hY9 : W9.heap[w8.heap.size]? = some (.cells #[.slice a8 m8 c8, .slice b8 e8 d8] 41 (0, 0)) := by rw [← hW9]; exact World.alloc_heap_new w8 _
  have hb79 : Below W7.heap.size W7 W9 := hb8.trans (hb9.mono hb8.size)
  have HX9 := Lib.hid ((hb79.block _ (lt_of_heap HX7.out)).trans HX7.out)
  have HY9 := Lib.hid hY9
  have Hk9 := Lib.hid (Hk7.out.below hb79)
  have Hy9 := Lib.hid (hk8.below hb9)
  have H59 := Lib.hid (H57.out.trans (hb79.mono H57.out.size))
  rw [hW9]
  clear hW9 hb9 hY9 hb79 hk8 hb8 R2 HX7 Hk7 H57
  obtain ⟨W10, hW10⟩ : ∃ W10, W9.alloc (.cells #[] 9) = W10 := ⟨_, rfl⟩
  have hb10 : Below W9.heap.size W9 W10 := by rw [← hW10]; exact (Below.refl _ W9).alloc (Nat.le_refl _) _
  have HO10 := Lib.hid (show W10.ownsRow W9.heap.size 9 1 (.slice (some ⟨W9.heap.size, 0, none⟩) 0 0) 0 (strs []) from own_lit (l := []) (by rw [← hW10]; exact World.alloc_heap_new W9 _) rfl (Nat.le_refl _) (by decide))
  have hs10 := hb10.size
  have HNA := Lib.hid (RowU.news ((HA5.out.below H59.out).below hb10))
  have HNB := Lib.hid (fun w' (hb : Below W9.heap.size W9 w') => RowU.news (l := caB :: fb) (ao := ra) (c := rc) (by have := (HR5.out.below H59.out).below hb; rw [hn5]; exact this))
  have HB10 := Lib.hid hb10
  have hfn : fa.length ≤ 10 := hfa
  clear hb10
  go_upto_region 7 with (first
    | (refine wpList_build_none9 _ rfl rfl ?_; rw [hW10])
    | (at_builtin; refine wpList_append_any _ rfl _ _ 26 rfl W9.heap.size 9 i0 (.string ByteArray.empty) 1 16 Try.underlying26 hii iz0 iz1 iz2 rfl (by decide) _ 0 _ rfl HO10.out qa fa.length qc (strs fa) rfl (by simp [strs]) HNA.out.1 HNA.out.2 strsU_one (by unfold maxLen; omega) (by omega) hs10 ?_; intro u11 w11 hown11 hgrow11; have HO11 := Lib.hid hown11; have HB11 := Lib.hid (HB10.out.grown hgrow11 hs10 (fun g hg => (HO10.out.lt g hg).1)); have HN11 := Lib.hid (HNB.out w11 HB11.out); clear hown11 hgrow11)
    | (at_builtin; refine wpList_append_any _ rfl _ _ 26 rfl W9.heap.size 9 i0 (.string ByteArray.empty) 1 16 Try.underlying26 hii iz0 iz1 iz2 rfl (by decide) _ (0 + fa.length) _ rfl HO11.out ra rn rc (strs (caB :: fb)) rfl (by rw [← hn5]; simp [strs]) (by rw [← hn5]; exact HN11.out.1) HN11.out.2 strsU_one (by unfold maxLen; omega) (by omega) HB11.out.size ?_; intro u12 w12 hown12 hgrow12; have HO12 := Lib.hid hown12; have HB12 := Lib.hid (HB11.out.grown hgrow12 HB11.out.size (fun g hg => (HO11.out.lt g hg).1)); clear hown12 hgrow12)
    | (go_at_call 22; have ho12' : w12.ownsRow W9.heap.size 9 1 u12 (fa ++ caB :: fb).length (strs (fa ++ caB :: fb)) := (by have h := HO12.out; rw [show strs [] ++ strs fa = strs fa from rfl, ← strs_append, Nat.zero_add, ← hn5, ← List.length_append] at h; exact h); have R3 := Lib.hid (read_kw u12 (fa ++ caB :: fb) w12 (RowU.of_own ho12') (by rw [List.length_append, hn5]; omega) (fun x hx => by rcases List.mem_append.1 hx with hx | hx; exact HSA.out 1000 (by decide) x hx; exact HSC.out 1000 (by decide) x hx)); clear ho12'; (with_reducible refine R3.out.mono ?_); rintro e w13 ⟨u13, rfl, hk13, hb13⟩; obtain ⟨a13, m13, c13, b13, e13, d13, rfl⟩ := key_agg hk13))
  clear hW10
  obtain ⟨W14, hW14⟩ : ∃ W14, w13.alloc (.cells #[.slice a13 m13 c13, .slice b13 e13 d13] 41) = W14 := ⟨_, rfl⟩
  have hb14 : Below w13.heap.size w13 W14 := by rw [← hW14]; exact (Below.refl _ w13).alloc (Nat.le_refl _) _
  have hZ14 : W14.heap[w13.heap.size]? = some (.cells #[.slice a13 m13 c13, .slice b13 e13 d13] 41 (0, 0)) := by rw [← hW14]; exact World.alloc_heap_new w13 _
  have hb9 : Below W9.heap.size W9 W14 := HB12.out.trans ((hb13.trans (hb14.mono hb13.size)).mono HB12.out.size)
  have HX14 := Lib.hid ((hb9.block _ (lt_of_heap HX9.out)).trans HX9.out)
  have HY14 := Lib.hid ((hb9.block _ (lt_of_heap HY9.out)).trans HY9.out)
  have HZ14 := Lib.hid hZ14
  have Hk14 := Lib.hid (Hk9.out.below hb9)
  have Hy14 := Lib.hid (Hy9.out.below hb9)
  have Hz14 := Lib.hid (hk13.below hb14)
  have HB14 := Lib.hid (HB5.out.trans ((H59.out.trans (hb9.mono H59.out.size)).mono HB5.out.size))
  rw [hW14]
  clear hW14 hb14 hZ14 hb9 hk13 hb13 R3 HO10 HO11 HO12 HB10 HB11 HB12 HNA HNB HN11 HX9 HY9 Hk9 Hy9 H59 HB5 HR5 HA5 hs10
  obtain ⟨hm8, he8⟩ : m8 = 0 ∧ 1 ≤ e8 := by
    obtain ⟨p, q, he, ⟨_, _, h1, _⟩, _, _, h2, _⟩ := Hy14.out
    injection he with he
    injection he with he
    injection he with ha he
    injection he with hb _
    rw [← ha] at h1
    rw [← hb] at h2
    injection h1 with _ h1 _
    injection h2 with _ h2 _
    rw [HJ2.out] at h1
    exact ⟨h1, by rw [h2]; exact HJ3.out⟩
  subst hm8
  obtain ⟨zx, hzx1, hzx2, hzx3, hzx4⟩ : ∃ Z : List ZE, Z.map (·.1) = (readK fa).2 ∧ (∀ z ∈ Z, RowU W14 (slc z.2) z.1.2) ∧ (b6 = none → e6 = 0) ∧ (e6 = Z.length ∧ ∀ ad, b6 = some ad → ∀ j u, (zcells Z)[j]? = some u → W14.cell? (ad.add j) = some u) := by
    obtain ⟨p, q, he, _, hq⟩ := Hk14.out
    injection he with he
    injection he with he
    injection he with _ he
    injection he with hb _
    rw [← hb] at hq
    obtain ⟨hn, Z, h1, h2, h3, h4⟩ := hq.z
    exact ⟨Z, h1, h2, h3, by rw [hn, ← h1, List.length_map], h4⟩
  obtain ⟨zy, hzy1, hzy2, hzy3, hzy4⟩ : ∃ Z : List ZE, Z.map (·.1) = (readK (caB :: fb)).2 ∧ (∀ z ∈ Z, RowU W14 (slc z.2) z.1.2) ∧ (b8 = none → e8 = 0) ∧ (e8 = Z.length ∧ ∀ ad, b8 = some ad → ∀ j u, (zcells Z)[j]? = some u → W14.cell? (ad.add j) = some u) := by
    obtain ⟨p, q, he, _, hq⟩ := Hy14.out
    injection he with he
    injection he with he
    injection he with _ he
    injection he with hb _
    rw [← hb] at hq
    obtain ⟨hn, Z, h1, h2, h3, h4⟩ := hq.z
    exact ⟨Z, h1, h2, h3, by rw [hn, ← h1, List.length_map], h4⟩
  obtain ⟨hex, hzx4⟩ := hzx4
  obtain ⟨hey, hzy4⟩ := hzy4
  have hzxl : zx.length ≤ 10 := by have := congrArg List.length hzx1; simp at this; have := HTA.out.lk; omega
  have hzyl : zy.length ≤ 11 := by have := congrArg List.length hzy1; simp at this; have := HTB.out.lk; omega
  have hra : RowU W14 (.slice a6 m6 c6) (readK fa).1 := by
    obtain ⟨p, q, he, hp, _⟩ := Hk14.out
    injection he with he
    injection he with he
    injection he with ha _
    rw [ha]; exact hp
  subst hex hey
  have ZX := Lib.hid (And.intro hzx1 hzx2)
  have ZY := Lib.hid (And.intro hzy1 hzy2)
  have NX := Lib.hid (fun (w' : World) (hb : Below W14.heap.size W14 w') => show (b6 = none → zx.length = 0) ∧ ∀ ad, b6 = some ad → ∀ j u, (zcells zx)[j]? = some u → w'.cell? (ad.add j) = some u from ⟨hzx3, fun ad ha j u hu => (hb.cell (lt_of_cellF' (hzx4 ad ha j u hu))).trans (hzx4 ad ha j u hu)⟩)
  have NY := Lib.hid (fun (w' : World) (hb : Below W14.heap.size W14 w') => show (b8 = none → zy.length = 0) ∧ ∀ ad, b8 = some ad → ∀ j u, (zcells zy)[j]? = some u → w'.cell? (ad.add j) = some u from ⟨hzy3, fun ad ha j u hu => (hb.cell (lt_of_cellF' (hzy4 ad ha j u hu))).trans (hzy4 ad ha j u hu)⟩)
  have HRA := Lib.hid hra
  clear hzx1 hzx2 hzx3 hzx4 hzy1 hzy2 hzy3 hzy4 hra
  have HCX := Lib.hid (fun (w' : World) (hb : Below W14.heap.size W14 w') => show (w'.cell? ⟨w6.heap.size, 0, none⟩ = some (.slice a6 m6 c6) ∧ w'.cell? ⟨w6.heap.size, 1, none⟩ = some (.slice b6 zx.length d6)) ∧ w'.cell? ⟨w8.heap.size, 0, none⟩ = some (.slice a8 0 c8) ∧ w'.cell? ⟨w8.heap.size, 1, none⟩ = some (.slice b8 zy.length d8) from
    ⟨key_cells ((hb.block _ (lt_of_heap HX14.out)).trans HX14.out), key_cells ((hb.block _ (lt_of_heap HY14.out)).trans HY14.out)⟩)
  have HSS := Lib.hid (fun (w' : World) (hb : Below W14.heap.size W14 w') => show Below W14.heap.size W14 w' ∧ w'.cell? ⟨w6.heap.size, 0, none⟩ = some (.slice a6 m6 c6) ∧ w'.cell? ⟨w6.heap.size, 1, none⟩ = some (.slice b6 zx.length d6) ∧ w'.cell? ⟨w8.heap.size, 1, none⟩ = some (.slice b8 zy.length d8) from
    ⟨hb, (HCX.out _ hb).1.1, (HCX.out _ hb).1.2, (HCX.out _ hb).2.2⟩)
  have hbd : Below W14.heap.size W14 W14.drew := Below.drew (Below.refl _ _)
  have hqs : W14.drew.heap.size = W14.heap.size := rfl
  have ba : Below W14.heap.size W14 ((W14.drew.alloc (.cells #[.slice none 0 0, .slice none 0 0] 41)).alloc (.cells #[] 51)) := (hbd.alloc (by omega) _).alloc (by simp) _
  have bb : Below W14.heap.size W14 ((W14.drew.alloc (.cells #[] 51)).alloc (.cells #[.slice none 0 0, .slice none 0 0] 41)) := (hbd.alloc (by omega) _).alloc (by simp) _
  have bc : Below W14.heap.size W14 (W14.drew.alloc (.cells #[] 51)) := hbd.alloc (by omega) _
  have b0 : Below W14.heap.size W14 (W14.drew.alloc (.cells #[.slice none 0 0, .slice none 0 0] 41)) := hbd.alloc (by omega) _
  have HOa := Lib.hid (show ((W14.drew.alloc (.cells #[.slice none 0 0, .slice none 0 0] 41)).alloc (.cells #[] 51)).ownsRow W14.heap.size 51 2 (.slice (some ⟨W14.drew.heap.size + 1, 0, none⟩) 0 0) 0 [] from own_noneX (by have := World.alloc_heap_new (W14.drew.alloc (.cells #[.slice none 0 0, .slice none 0 0] 41)) (.cells #[] 51); simpa using this) (by omega))
  have HOc := Lib.hid (show (W14.drew.alloc (.cells #[] 51)).ownsRow W14.heap.size 51 2 (.slice (some ⟨W14.drew.heap.size, 0, none⟩) 0 0) 0 [] from own_noneX (World.alloc_heap_new W14.drew _) (by omega))
  have HOb := Lib.hid (HOc.out.alloc (.cells #[.slice none 0 0, .slice none 0 0] 41))
  have HKa := Lib.hid (show ((W14.drew.alloc (.cells #[.slice none 0 0, .slice none 0 0] 41)).alloc (.cells #[] 51)).heap[W14.heap.size]? = some (.cells #[.slice none 0 0, .slice none 0 0] 41 (0, 0)) from (Below.heap_alloc _ _ _ (by simp)).trans (World.alloc_heap_new W14.drew (.cells #[.slice none 0 0, .slice none 0 0] 41)))
  have HKb := Lib.hid (show ((W14.drew.alloc (.cells #[] 51)).alloc (.cells #[.slice none 0 0, .slice none 0 0] 41)).heap[W14.heap.size + 1]? = some (.cells #[.slice none 0 0, .slice none 0 0] 41 (0, 0)) by have := World.alloc_heap_new (W14.drew.alloc (.cells #[] 51)) (.cells #[.slice none 0 0, .slice none 0 0] 41); simpa using this)
  have Ha := Lib.hid ba
  have Hb := Lib.hid bb
  have Hc := Lib.hid bc
  have H0 := Lib.hid b0
  obtain ⟨-, s1, s2, s3⟩ := HSS.out _ hbd
  clear ba bb bc b0
  have hq0 : W14.heap.size ≤ W14.drew.heap.size := Nat.le_refl _
  have hq1 : W14.heap.size ≤ W14.drew.heap.size + 1 := Nat.le_succ _
  have hl1 : 0 + zx.length ≤ 1000 := by omega
  have hl2 : (0 + zx.length) + zy.length ≤ 1000 := by omega
  go_region_held3 (fun w' => Below W14.heap.size W14 w' ∧ w'.cell? ⟨w6.heap.size, 0, none⟩ = some (.slice a6 m6 c6) ∧ w'.cell? ⟨w6.heap.size, 1, none⟩ = some (.slice b6 zx.length d6) ∧ w'.cell? ⟨w8.heap.size, 1, none⟩ = some (.slice b8 zy.length d8))
    (first | exact ⟨by assumption, by assumption, by assumption, by assumption⟩ | exact HSS.out _ Ha.out | exact HSS.out _ Hb.out | exact HSS.out _ Hc.out | exact HSS.out _ H0.out | exact HSS.out _ hb16 | exact HSS.out _ hbA | exact HSS.out _ hb17 | exact HSS.out _ hbC | exact HSS.out _ (hb17.alloc hs17 _) | exact HSS.out _ (hb17.setCell hq0 _) | exact HSS.out _ ((hb17.setCell hq0 _).setCell hq0 _) | exact HSS.out _ (hb17.setCell hq1 _) | exact HSS.out _ ((hb17.setCell hq1 _).setCell hq1 _) | exact HSS.out _ (hb17.setCell hs16 _) | exact HSS.out _ ((hb17.setCell hs16 _).setCell hs16 _) | exact HSS.out _ (hb17.setCell hs17 _) | exact HSS.out _ ((hb17.setCell hs17 _).setCell hs17 _) | exact HSS.out _ ((hb17.alloc hs17 _).setCell hs17 _) | exact HSS.out _ (((hb17.alloc hs17 _).setCell hs17 _).setCell hs17 _))
    (first
      | (refine step_appX _ _ x0 xii xz0 xz1 xz2 (by rfl) (by rfl) _ 0 [] (by rfl) HOa.out Ha.out Ha.out.size b6 d6 zx (by rfl) (NX.out _ Ha.out) hl1 ?_; intro v16 w16 ho16 hb16 hs16 hk16; have HO16 := Lib.hid ho16; have kB := Lib.hid (hk16 _ _ HKa.out); clear ho16 hk16)
      | (refine step_appX _ _ x0 xii xz0 xz1 xz2 (by rfl) (by rfl) _ 0 [] (by rfl) HOb.out Hb.out Hb.out.size b6 d6 zx (by rfl) (NX.out _ Hb.out) hl1 ?_; intro v16 w16 ho16 hb16 hs16 hk16; have HO16 := Lib.hid ho16; have kB := Lib.hid (hk16 _ _ HKb.out); clear ho16 hk16)
      | (refine step_appX _ _ x0 xii xz0 xz1 xz2 (by rfl) (by rfl) _ 0 [] (by rfl) HOc.out Hc.out Hc.out.size b6 d6 zx (by rfl) (NX.out _ Hc.out) hl1 ?_; intro v16 w16 ho16 hb16 hs16 hk16; have HO16 := Lib.hid ho16; have hbA := hb16.alloc hs16 (.cells #[.slice none 0 0, .slice none 0 0] 41); clear ho16 hk16)
      | (refine step_appX _ _ x0 xii xz0 xz1 xz2 (by rfl) (by rfl) _ (0 + zx.length) _ (by rfl) HO16.out hb16 hs16 b8 d8 zy (by rfl) (NY.out _ hb16) hl2 ?_; intro v17 w17 ho17 hb17 hs17 hk17; have kB := Lib.hid (hk17 _ _ kB.out); obtain ⟨k0, k1⟩ := key_cells kB.out; have f0 := cells_frozen 0 kB.out; have f1 := cells_frozen 1 kB.out; obtain ⟨a17, n17, c17, rfl⟩ := own_slice ho17; have HO17 := Lib.hid ho17; have HB17 := Lib.hid hb17; clear ho17 hk17)
      | (refine step_appX _ _ x0 xii xz0 xz1 xz2 (by rfl) (by rfl) _ (0 + zx.length) _ (by rfl) HO16.out hb16 hs16 b8 d8 zy (by rfl) (NY.out _ hb16) hl2 ?_; intro v17 w17 ho17 hb17 hs17 hk17; have hbC := hb17.alloc hs17 (.cells #[.slice none 0 0, .slice none 0 0] 41); have kB := Lib.hid (World.alloc_heap_new w17 (.cells #[.slice none 0 0, .slice none 0 0] 41)); obtain ⟨k0, k1⟩ := key_cells kB.out; have f0 := cells_frozen 0 kB.out; have f1 := cells_frozen 1 kB.out; obtain ⟨a17, n17, c17, rfl⟩ := own_slice ho17; have HO17 := Lib.hid ho17; have HB17 := Lib.hid hb17; clear ho17 hk17)
      | (refine step_appX _ _ x0 xii xz0 xz1 xz2 (by rfl) (by rfl) _ (0 + zx.length) _ (by rfl) (HO16.out.alloc _) hbA hbA.size b8 d8 zy (by rfl) (NY.out _ hbA) hl2 ?_; intro v17 w17 ho17 hb17 hs17 hk17; have kB := Lib.hid (hk17 _ _ (World.alloc_heap_new w16 _)); obtain ⟨k0, k1⟩ := key_cells kB.out; have f0 := cells_frozen 0 kB.out; have f1 := cells_frozen 1 kB.out; obtain ⟨a17, n17, c17, rfl⟩ := own_slice ho17; have HO17 := Lib.hid ho17; have HB17 := Lib.hid hb17; clear ho17 hk17))
  all_goals
    first
      | (have HE := fin_alloc (x := .slice a6 m6 c6) HO17.out HB17.out hs17; obtain ⟨wE, hwE⟩ : ∃ wE, w17.alloc (.cells #[.slice a6 m6 c6, .slice a17 n17 c17] 41) = wE := ⟨_, rfl⟩; rw [hwE] at HE ⊢; clear hwE)
      | (have HE := fin_set (x := .slice a6 m6 c6) (B := w16.heap.size) kB.out HO17.out HB17.out hs16; obtain ⟨wE, hwE⟩ : ∃ wE, (w17.setCell ⟨w16.heap.size, 0, none⟩ (.slice a6 m6 c6)).setCell ⟨w16.heap.size, 1, none⟩ (.slice a17 n17 c17) = wE := ⟨_, rfl⟩; rw [hwE] at HE ⊢; clear hwE)
      | (have HE := fin_set (x := .slice a6 m6 c6) (B := W14.heap.size + 1) kB.out HO17.out HB17.out hq1; obtain ⟨wE, hwE⟩ : ∃ wE, (w17.setCell ⟨W14.heap.size + 1, 0, none⟩ (.slice a6 m6 c6)).setCell ⟨W14.heap.size + 1, 1, none⟩ (.slice a17 n17 c17) = wE := ⟨_, rfl⟩; rw [hwE] at HE ⊢; clear hwE)
      | (have HE := fin_set (x := .slice a6 m6 c6) (B := W14.heap.size) kB.out HO17.out HB17.out hq0; obtain ⟨wE, hwE⟩ : ∃ wE, (w17.setCell ⟨W14.heap.size, 0, none⟩ (.slice a6 m6 c6)).setCell ⟨W14.heap.size, 1, none⟩ (.slice a17 n17 c17) = wE := ⟨_, rfl⟩; rw [hwE] at HE ⊢; clear hwE)
  all_goals
    obtain ⟨hE, hoE, hbE⟩ := HE
    have hkE : KeyU wE (.agg #[.slice a6 m6 c6, .slice a17 n17 c17]) (readK (fa ++ caB :: fb)) := by
      rw [HJ1.out]
      refine ⟨_, _, rfl, HRA.out.below hbE, ?_⟩
      have hz : OwnZ W14 wE W14.heap.size (.slice a17 n17 c17) (zx ++ zy) := by
        refine ⟨?_, fun z hz => ?_⟩
        · rw [zcells_app2, List.length_append]
          have h := hoE
          rw [List.nil_append, Nat.zero_add] at h
          exact h
        · rcases List.mem_append.1 hz with hz | hz
          · exact ZX.out.2 z hz
          · exact ZY.out.2 z hz
      have := hz.ext hbE
      rw [List.map_append, ZX.out.1, ZY.out.1] at this
      exact this
    have HSM := Lib.hid (sameK_refl (.agg #[.slice a13 m13 c13, .slice b13 e13 d13]) (.agg #[.slice a6 m6 c6, .slice a17 n17 c17]) (readK (fa ++ caB :: fb)) wE (Hz14.out.below hbE) hkE (by rw [HJ1.out]; exact Nat.le_trans HTA.out.la (by decide)) (by rw [HJ1.out]; have h1 := HTA.out.lk; have h2 := HTB.out.lk; simp only [List.length_append]; omega) (fun x hx => by
      rw [HJ1.out] at hx
      rcases List.mem_append.1 hx with hx | hx
      · exact Nat.le_trans (HTA.out.sx x hx).2 (by decide)
      · exact Nat.le_trans (HTB.out.sx x hx).2 (by decide)))
    obtain ⟨g0, g1⟩ := key_cells hE
    obtain ⟨j0, j1⟩ := key_cells ((hbE.block _ (lt_of_heap HZ14.out)).trans HZ14.out)
    have hge : (1 : Int) ≤ (zy.length : Int) := by omega
    have HBE := Lib.hid hbE
    clear hE hoE hkE hbE s1 s2 s3
    go_upto_region 9 with (go_at_call 21; (with_reducible refine HSM.out.mono ?_); rintro e w20 ⟨rfl, hb20⟩)
    have hB20 := HBE.out.trans (hb20.mono HBE.out.size)
    obtain ⟨-, t0, t1⟩ := HCX.out _ hB20
    clear g0 g1 j0 j1
    go_wp2_with fail
    go_ret
    exact ⟨rfl, HB14.out.trans (hB20.mono HB14.out.size)⟩
end Go.Proofs.Ytofemadknmokbaa
