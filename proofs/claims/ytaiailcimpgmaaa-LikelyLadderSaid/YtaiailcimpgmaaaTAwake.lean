/-
  Package likely at the image that is handed out: the chapter's examples.
-/
import Derived.Test.YtaiailcimpgmaaaTMax
import Derived.Test.YtaiailcimpgmaaaAImg
namespace Go.Proofs.Ytaiailcimpgmaaa
open Go Go.RowKit

theorem flatT {α : Type} {f : α → List Value} {sz : Nat} (hs : ∀ x, (f x).length = sz) : ∀ {L : List α} {k j : Nat} {x : α} {v : Value}, L[k]? = some x → (f x)[j]? = some v → (L.flatMap f)[k * sz + j]? = some v
  | [], k, j, x, v, h, _ => by simp at h
  | y :: r, 0, j, x, v, h, hv => by
    simp at h; subst h
    rw [Nat.zero_mul, Nat.zero_add, List.flatMap_cons, List.getElem?_append_left (List.getElem?_eq_some_iff.1 hv).1]
    exact hv
  | y :: r, k + 1, j, x, v, h, hv => by
    have ih := flatT hs (L := r) (k := k) (j := j) (by simpa using h) hv
    rw [List.flatMap_cons, List.getElem?_append_right (by rw [hs, Nat.succ_mul]; omega), hs, show (k + 1) * sz + j - sz = k * sz + j by rw [Nat.succ_mul]; omega]
    exact ih
def L15 : List Lr := lks15.map fun x => ⟨x.l, x.s, x.r, x.tl, x.ts, x.tr⟩
theorem L15_len : L15.length = 32 := by decide +kernel
theorem L15_small : RowS L15 := by
  have h : (L15.all fun x => decide (x.l.size ≤ 1048576) && (decide (x.s.size ≤ 1048576) && decide (x.r.size ≤ 1048576))) = true := by decide +kernel
  intro x hx
  have := List.all_eq_true.1 h x hx
  rw [Bool.and_eq_true, Bool.and_eq_true, decide_eq_true_iff, decide_eq_true_iff, decide_eq_true_iff] at this
  exact this
theorem rowL_15 {W : World} {b g1 g2 g3 g4 : Nat} (h : Im15 W b g1 g2 g3 g4) : RowL W (.slice (some ⟨g2, 0, none⟩) 32 32) L15 := by
  refine ⟨some ⟨g2, 0, none⟩, 32, by rw [L15_len], fun i x hx => ⟨g2, 0, rfl, ?_⟩⟩
  unfold L15 at hx
  rw [List.getElem?_map] at hx
  obtain ⟨y, hy, rfl⟩ := Option.map_eq_some_iff.1 hx
  have hc : ∀ j v, (lxC y)[j]? = some v → W.cell? ⟨g2, 0 + i * 6 + j, none⟩ = some v := fun j v hv => by
    have h1 := flatT (f := lxC) (sz := 6) (fun _ => rfl) hy hv
    rw [Nat.zero_add]
    refine cell_rowT _ h.l ?_
    simpa using h1
  exact ⟨hc 0 _ rfl, hc 1 _ rfl, hc 2 _ rfl, hc 3 _ rfl, hc 4 _ rfl, hc 5 _ rfl⟩
def plainM (l s r : ByteArray) : TagM := ⟨l, [], s, r, [], [], [], ⟨#[]⟩⟩
theorem nil_rowT (W : World) : Row W (.slice none 0 0) [] := ⟨none, 0, rfl, fun i x h => by simp at h⟩
theorem nil_extT (W : World) : ExtRow W (.slice none 0 0) [] := ⟨none, 0, rfl, fun i x h => by simp at h⟩
theorem plain_is (W : World) (l s r : ByteArray) : TagIs W (.agg #[.string l, .slice none 0 0, .string s, .string r, .slice none 0 0, .slice none 0 0, .slice none 0 0, .string ⟨#[]⟩]) (plainM l s r) :=
  ⟨_, _, _, _, rfl, nil_rowT W, nil_rowT W, nil_extT W, nil_rowT W⟩
theorem plain_fits (l s r : ByteArray) : TagFits (plainM l s r) := ⟨Nat.zero_le _, Nat.zero_le _, Nat.zero_le _, (fun _ h => by cases h), Nat.zero_le _, Nat.zero_le _⟩
/-- Maximize at a tag of a language, a script, a region alone. -/
theorem max_plain (a1 a3 a4 : Option Addr) (n1 c1 n3 c3 n4 c4 : Nat) (th de : Int) (lk : Value) (L : List Lr) (l s r l' s' r' : ByteArray) (w : World) (hL : RowL w lk L) (hl : L.length ≤ 4000) (hS : RowS L) (hK : KST (l, s, r))
    (hm : (maxT L (plainM l s r)).2 = true ∧ (maxT L (plainM l s r)).1.lang = l' ∧ (maxT L (plainM l s r)).1.script = s' ∧ (maxT L (plainM l s r)).1.region = r') :
    Calls Try.prog 9 #[.agg #[.slice a1 n1 c1, lk, .slice a3 n3 c3, .slice a4 n4 c4, .int .i64 th, .int .i64 de], .agg #[.string l, .slice none 0 0, .string s, .string r, .slice none 0 0, .slice none 0 0, .slice none 0 0, .string ⟨#[]⟩]] w fun e w' =>
      ∃ b1 m1 d1 b2 m2 d2 b3 m3 d3 b4 m4 d4 g, e = .returned (.tuple #[.agg #[.string l', .slice b1 m1 d1, .string s', .string r', .slice b2 m2 d2, .slice b3 m3 d3, .slice b4 m4 d4, .string g], .bool true]) ∧ Below w.heap.size w w' := by
  refine (maxi_any a1 a3 a4 n1 c1 n3 c3 n4 c4 th de lk L _ (plainM l s r) w hL hl hS (plain_is w l s r) (plain_fits l s r) hK).mono ?_
  rintro e w' ⟨u, rfl, hT, hb⟩
  obtain ⟨ve, vv, vx, vp, rfl, ⟨b1, d1, rfl, _⟩, ⟨b2, d2, rfl, _⟩, ⟨b3, d3, rfl, _⟩, ⟨b4, d4, rfl, _⟩⟩ := hT
  obtain ⟨h1, h2, h3, h4⟩ := hm
  rw [h1, h2, h3, h4]
  exact ⟨_, _, _, _, _, _, _, _, _, _, _, _, _, rfl, hb⟩

set_option maxRecDepth 100000 in
set_option maxHeartbeats 2000000 in
theorem awake18_any (w : World) : Calls Try.prog 4 #[] w fun e w' => e = .returned (.bool true) ∧ Below w.heap.size w w' := by
  have HIM := Lib.hid (image_15 w)
  have M1 : (maxT L15 (plainM ⟨#[122, 104]⟩ ⟨#[]⟩ ⟨#[116, 119]⟩)).2 = true ∧ (maxT L15 (plainM ⟨#[122, 104]⟩ ⟨#[]⟩ ⟨#[116, 119]⟩)).1.lang = ⟨#[122, 104]⟩ ∧ (maxT L15 (plainM ⟨#[122, 104]⟩ ⟨#[]⟩ ⟨#[116, 119]⟩)).1.script = ⟨#[104, 97, 110, 116]⟩ ∧ (maxT L15 (plainM ⟨#[122, 104]⟩ ⟨#[]⟩ ⟨#[116, 119]⟩)).1.region = ⟨#[116, 119]⟩ := by decide +kernel
  have M2 : (maxT L15 (plainM ⟨#[117, 110, 100]⟩ ⟨#[99, 121, 114, 108]⟩ ⟨#[]⟩)).2 = true ∧ (maxT L15 (plainM ⟨#[117, 110, 100]⟩ ⟨#[99, 121, 114, 108]⟩ ⟨#[]⟩)).1.lang = ⟨#[114, 117]⟩ ∧ (maxT L15 (plainM ⟨#[117, 110, 100]⟩ ⟨#[99, 121, 114, 108]⟩ ⟨#[]⟩)).1.script = ⟨#[99, 121, 114, 108]⟩ ∧ (maxT L15 (plainM ⟨#[117, 110, 100]⟩ ⟨#[99, 121, 114, 108]⟩ ⟨#[]⟩)).1.region = ⟨#[114, 117]⟩ := by decide +kernel
  have M3 : (maxT L15 (plainM ⟨#[101, 110]⟩ ⟨#[115, 104, 97, 119]⟩ ⟨#[]⟩)).2 = true ∧ (maxT L15 (plainM ⟨#[101, 110]⟩ ⟨#[115, 104, 97, 119]⟩ ⟨#[]⟩)).1.lang = ⟨#[101, 110]⟩ ∧ (maxT L15 (plainM ⟨#[101, 110]⟩ ⟨#[115, 104, 97, 119]⟩ ⟨#[]⟩)).1.script = ⟨#[115, 104, 97, 119]⟩ ∧ (maxT L15 (plainM ⟨#[101, 110]⟩ ⟨#[115, 104, 97, 119]⟩ ⟨#[]⟩)).1.region = ⟨#[103, 98]⟩ := by decide +kernel
  go_enter Try.func4, Try.ntmps4
  go_upto_region 2 with (go_at_call 8; (with_reducible refine HIM.out.mono ?_); rintro e w1 ⟨g1, g2, g3, g4, rfl, hI, hb⟩; have HI := Lib.hid hI; have HB := Lib.hid hb; clear hI hb)
  obtain ⟨W1, hW1⟩ : ∃ W1, w1.alloc (.cells #[.slice (some ⟨g1, 0, none⟩) 54 54, .slice (some ⟨g2, 0, none⟩) 32 32, .slice (some ⟨g3, 0, none⟩) 15 15, .slice (some ⟨g4, 0, none⟩) 7 7, .int .i64 40, .int .i64 5] 41) = W1 := ⟨_, rfl⟩
  rw [hW1]
  have HBW := Lib.hid (show Below w1.heap.size w1 W1 by rw [← hW1]; exact (Below.refl _ _).alloc (Nat.le_refl _) _)
  have hX := show W1.heap[w1.heap.size]? = some (.cells #[.slice (some ⟨g1, 0, none⟩) 54 54, .slice (some ⟨g2, 0, none⟩) 32 32, .slice (some ⟨g3, 0, none⟩) 15 15, .slice (some ⟨g4, 0, none⟩) 7 7, .int .i64 40, .int .i64 5] 41 (0, 0)) by rw [← hW1]; exact World.alloc_heap_new w1 _
  have HC := Lib.hid (fun (w' : World) (hb : Below W1.heap.size W1 w') => show w'.cell? ⟨w1.heap.size, 0, none⟩ = some (.slice (some ⟨g1, 0, none⟩) 54 54) ∧ w'.cell? ⟨w1.heap.size, 1, none⟩ = some (.slice (some ⟨g2, 0, none⟩) 32 32) ∧ w'.cell? ⟨w1.heap.size, 2, none⟩ = some (.slice (some ⟨g3, 0, none⟩) 15 15) ∧ w'.cell? ⟨w1.heap.size, 3, none⟩ = some (.slice (some ⟨g4, 0, none⟩) 7 7) ∧ w'.cell? ⟨w1.heap.size, 4, none⟩ = some (.int .i64 40) ∧ w'.cell? ⟨w1.heap.size, 5, none⟩ = some (.int .i64 5) from by
    have h := (hb.block _ (lt_blockT hX)).trans hX
    exact ⟨cell_rowT 0 h rfl, cell_rowT 1 h rfl, cell_rowT 2 h rfl, cell_rowT 3 h rfl, cell_rowT 4 h rfl, cell_rowT 5 h rfl⟩)
  have HRL := Lib.hid (fun (w' : World) (hb : Below W1.heap.size W1 w') => ((rowL_15 HI.out).below HBW.out).below hb)
  have HB01 := Lib.hid (show Below w.heap.size w W1 from HB.out.trans (HBW.out.mono HB.out.size))
  have C1 := Lib.hid (fun (w5 : World) (hb : Below W1.heap.size W1 w5) => max_plain (some ⟨g1, 0, none⟩) (some ⟨g3, 0, none⟩) (some ⟨g4, 0, none⟩) 54 54 15 15 7 7 40 5 _ L15 _ _ _ _ _ _ w5 (HRL.out w5 hb) (by rw [L15_len]; decide) L15_small ⟨by decide, by decide, by decide⟩ M1)
  have C2 := Lib.hid (fun (w5 : World) (hb : Below W1.heap.size W1 w5) => max_plain (some ⟨g1, 0, none⟩) (some ⟨g3, 0, none⟩) (some ⟨g4, 0, none⟩) 54 54 15 15 7 7 40 5 _ L15 _ _ _ _ _ _ w5 (HRL.out w5 hb) (by rw [L15_len]; decide) L15_small ⟨by decide, by decide, by decide⟩ M2)
  have C3 := Lib.hid (fun (w5 : World) (hb : Below W1.heap.size W1 w5) => max_plain (some ⟨g1, 0, none⟩) (some ⟨g3, 0, none⟩) (some ⟨g4, 0, none⟩) 54 54 15 15 7 7 40 5 _ L15 _ _ _ _ _ _ w5 (HRL.out w5 hb) (by rw [L15_len]; decide) L15_small ⟨by decide, by decide, by decide⟩ M3)
  clear hX hW1 M1 M2 M3 HIM
  obtain ⟨c0, c1, c2, c3, c4, c5⟩ := HC.out W1 (Below.refl _ _)
  go_upto_region 3 with (go_at_call 9; (with_reducible refine (C1.out _ (Below.refl _ _)).mono ?_); rintro e w2 ⟨b1, m1, d1, b2, m2, d2, b3, m3, d3, b4, m4, d4, g, rfl, hb2⟩; have HB2 := Lib.hid hb2; clear hb2)
  obtain ⟨W2, hW2⟩ : ∃ W2, w2.alloc (.cells #[.string ⟨#[122, 104]⟩, .slice b1 m1 d1, .string ⟨#[104, 97, 110, 116]⟩, .string ⟨#[116, 119]⟩, .slice b2 m2 d2, .slice b3 m3 d3, .slice b4 m4 d4, .string g] 27) = W2 := ⟨_, rfl⟩
  rw [hW2]
  have HBW2 := Lib.hid (show Below w2.heap.size w2 W2 by rw [← hW2]; exact (Below.refl _ _).alloc (Nat.le_refl _) _)
  have HX2 := Lib.hid (show W2.heap[w2.heap.size]? = some (.cells #[.string ⟨#[122, 104]⟩, .slice b1 m1 d1, .string ⟨#[104, 97, 110, 116]⟩, .string ⟨#[116, 119]⟩, .slice b2 m2 d2, .slice b3 m3 d3, .slice b4 m4 d4, .string g] 27 (0, 0)) by rw [← hW2]; exact World.alloc_heap_new w2 _)
  have HB12 := Lib.hid (show Below W1.heap.size W1 W2 from HB2.out.trans (HBW2.out.mono HB2.out.size))
  clear hW2 c0 c1 c2 c3 c4 c5
  obtain ⟨c0, c1, c2, c3, c4, c5⟩ := HC.out W2 HB12.out
  go_upto_region 4 with (go_at_call 9; (with_reducible refine (C2.out _ HB12.out).mono ?_); rintro e w3 ⟨e1, p1, f1, e2, p2, f2, e3, p3, f3, e4, p4, f4, g', rfl, hb3⟩; have HB3 := Lib.hid hb3; clear hb3)
  obtain ⟨W3, hW3⟩ : ∃ W3, w3.alloc (.cells #[.string ⟨#[114, 117]⟩, .slice e1 p1 f1, .string ⟨#[99, 121, 114, 108]⟩, .string ⟨#[114, 117]⟩, .slice e2 p2 f2, .slice e3 p3 f3, .slice e4 p4 f4, .string g'] 27) = W3 := ⟨_, rfl⟩
  rw [hW3]
  have HBW3 := Lib.hid (show Below w3.heap.size w3 W3 by rw [← hW3]; exact (Below.refl _ _).alloc (Nat.le_refl _) _)
  have HX3 := Lib.hid (show W3.heap[w3.heap.size]? = some (.cells #[.string ⟨#[114, 117]⟩, .slice e1 p1 f1, .string ⟨#[99, 121, 114, 108]⟩, .string ⟨#[114, 117]⟩, .slice e2 p2 f2, .slice e3 p3 f3, .slice e4 p4 f4, .string g'] 27 (0, 0)) by rw [← hW3]; exact World.alloc_heap_new w3 _)
  have HB23 := Lib.hid (show Below W2.heap.size W2 W3 from HB3.out.trans (HBW3.out.mono HB3.out.size))
  have HB13 := Lib.hid (show Below W1.heap.size W1 W3 from HB12.out.trans (HB23.out.mono HB12.out.size))
  clear hW3 c0 c1 c2 c3 c4 c5
  obtain ⟨c0, c1, c2, c3, c4, c5⟩ := HC.out W3 HB13.out
  go_upto_region 5 with (go_at_call 9; (with_reducible refine (C3.out _ HB13.out).mono ?_); rintro e w4 ⟨h1, q1, k1, h2, q2, k2, h3, q3, k3, h4, q4, k4, g'', rfl, hb4⟩; have HB4 := Lib.hid hb4; clear hb4)
  obtain ⟨W4, hW4⟩ : ∃ W4, w4.alloc (.cells #[.string ⟨#[101, 110]⟩, .slice h1 q1 k1, .string ⟨#[115, 104, 97, 119]⟩, .string ⟨#[103, 98]⟩, .slice h2 q2 k2, .slice h3 q3 k3, .slice h4 q4 k4, .string g''] 27) = W4 := ⟨_, rfl⟩
  rw [hW4]
  have HBW4 := Lib.hid (show Below w4.heap.size w4 W4 by rw [← hW4]; exact (Below.refl _ _).alloc (Nat.le_refl _) _)
  have hX4 := show W4.heap[w4.heap.size]? = some (.cells #[.string ⟨#[101, 110]⟩, .slice h1 q1 k1, .string ⟨#[115, 104, 97, 119]⟩, .string ⟨#[103, 98]⟩, .slice h2 q2 k2, .slice h3 q3 k3, .slice h4 q4 k4, .string g''] 27 (0, 0)) by rw [← hW4]; exact World.alloc_heap_new w4 _
  have HB34 := Lib.hid (show Below W3.heap.size W3 W4 from HB4.out.trans (HBW4.out.mono HB4.out.size))
  have y3 := cell_rowT 3 hX4 rfl
  have hX3 := (HB34.out.block _ (lt_blockT HX3.out)).trans HX3.out
  have y0 := cell_rowT 0 hX3 rfl
  have y1 := cell_rowT 3 hX3 rfl
  have hX2 := ((HB34.out.block _ (Nat.lt_of_lt_of_le (lt_blockT HX2.out) HB23.out.size)).trans ((HB23.out.block _ (lt_blockT HX2.out)).trans HX2.out))
  have y2 := cell_rowT 2 hX2 rfl
  have HE := Lib.hid (show Below w.heap.size w W4 from (HB01.out.trans (HB13.out.mono HB01.out.size)).trans (HB34.out.mono (Nat.le_trans HB01.out.size HB13.out.size)))
  clear hX2 hX3 hX4 hW4 c0 c1 c2 c3 c4 c5
  go_wp2_with fail
  go_ret
  exact ⟨rfl, HE.out⟩
end Go.Proofs.Ytaiailcimpgmaaa
