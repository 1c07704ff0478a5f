/-
  The statements of layer 9: the chapter's example; orders, as the laws use them.
-/
import Derived.Test.YtgdcdijdpflmdaaUFew
import Derived.Test.YtgdcdijdpflmdaaUWrite
namespace Go.Proofs.Ytgdcdijdpflmdaa
open Go Go.RowKit

def exL : List ByteArray := [⟨#[102, 111, 111]⟩, ⟨#[99, 111]⟩, ⟨#[116, 114, 117, 101]⟩, ⟨#[98, 97, 114]⟩, ⟨#[99, 97]⟩, ⟨#[98, 117, 100, 100, 104, 105, 115, 116]⟩, ⟨#[99, 111]⟩, ⟨#[112, 104, 111, 110, 101, 98, 107]⟩]
def exW : List ByteArray := [⟨#[102, 111, 111]⟩, ⟨#[99, 97]⟩, ⟨#[98, 117, 100, 100, 104, 105, 115, 116]⟩, ⟨#[99, 111]⟩, ⟨#[116, 114, 117, 101]⟩, ⟨#[98, 97, 114]⟩]
theorem ex_order : writeK (orderK (readK exL)) = exW := by decide +kernel
theorem readR_len (l : List ByteArray) : (readR l).1.length ≤ l.length ∧ (readR l).2.length ≤ l.length ∧ ∀ x ∈ (readR l).2, x.2.length ≤ l.length := by
  induction l with
  | nil => exact ⟨Nat.le_refl _, Nat.le_refl _, fun x hx => (nomatch hx)⟩
  | cons s l ih =>
    obtain ⟨h1, h2, h3⟩ := ih
    rw [readR]
    split
    · refine ⟨by simp, by simp; omega, fun x hx => ?_⟩
      rcases List.mem_cons.1 hx with rfl | hx
      · simp; omega
      · have := h3 x hx; simp; omega
    · refine ⟨by simp; omega, by simp; omega, fun x hx => ?_⟩
      have := h3 x hx
      simp; omega
theorem readR_size (l : List ByteArray) (n : Nat) (h : ∀ x ∈ l, x.size ≤ n) : (∀ x ∈ (readR l).1, x.size ≤ n) ∧ ∀ x ∈ (readR l).2, x.1.size ≤ n ∧ ∀ y ∈ x.2, y.size ≤ n := by
  induction l with
  | nil => exact ⟨fun x hx => (nomatch hx), fun x hx => (nomatch hx)⟩
  | cons s l ih =>
    obtain ⟨h1, h2⟩ := ih (fun x hx => h x (List.mem_cons_of_mem _ hx))
    have hs := h s List.mem_cons_self
    rw [readR]
    split
    · refine ⟨fun x hx => (nomatch hx), fun x hx => ?_⟩
      rcases List.mem_cons.1 hx with rfl | hx
      · exact ⟨hs, h1⟩
      · exact h2 x hx
    · refine ⟨fun x hx => ?_, h2⟩
      rcases List.mem_cons.1 hx with rfl | hx
      · exact hs
      · exact h1 x hx
/-- Keywords whose rows and texts are short. -/
structure Tiny (k : List ByteArray × KX) (n : Nat) : Prop where
  la : k.1.length ≤ n
  lk : k.2.length ≤ n
  sa : ∀ x ∈ k.1, x.size ≤ 100
  sx : ∀ x ∈ k.2, x.1.size ≤ 100 ∧ x.2.length ≤ n
theorem low_sizes {l : List ByteArray} {n : Nat} (h : ∀ x ∈ l, x.size ≤ n) : ∀ x ∈ l.map lowS, x.size ≤ n := by
  intro x hx
  obtain ⟨y, hy, rfl⟩ := List.mem_map.1 hx
  rw [size_lowS]
  exact h y hy
theorem tiny_read {l : List ByteArray} {n : Nat} (hl : l.length ≤ n) (hs : ∀ x ∈ l, x.size ≤ 100) : Tiny (readK l) n := by
  have hlen : (l.map lowS).length = l.length := by simp
  obtain ⟨h1, h2, h3⟩ := readR_len (l.map lowS)
  obtain ⟨h4, h5⟩ := readR_size (l.map lowS) 100 (low_sizes hs)
  rw [hlen] at h1 h2
  exact ⟨Nat.le_trans h1 hl, Nat.le_trans h2 hl, h4, fun x hx => ⟨(h5 x hx).1, Nat.le_trans (by have := h3 x hx; rwa [hlen] at this) hl⟩⟩
theorem tiny_few (k : List ByteArray × KX) : Tiny (fewK k) 5 :=
  ⟨fewT_len _ _, fewX_len _, fun x hx => Nat.le_trans (fewT_size _ _ x hx) (by decide), fun x hx => ⟨Nat.le_trans (fewX_at _ x hx).1 (by decide), Nat.le_trans (fewX_at _ x hx).2.1 (by decide)⟩⟩
theorem told_len (l : List ByteArray) : (toldL l).length ≤ l.length := by unfold toldL; split <;> simp
theorem tiny_order {k : List ByteArray × KX} {n : Nat} (h : Tiny k n) : Tiny (orderK k) n := by
  refine ⟨Nat.le_trans (rise_len id k.1) h.la, ?_, fun x hx => h.sa x (rise_sub id hx), fun x hx => ?_⟩
  · have := rise_len (·.1) k.2
    simp only [orderK, List.length_map]
    exact Nat.le_trans this h.lk
  · obtain ⟨y, hy, rfl⟩ := List.mem_map.1 hx
    have := h.sx y (rise_sub _ hy)
    exact ⟨this.1, Nat.le_trans (told_len _) this.2⟩
theorem order_any (v : Value) (k : List ByteArray × KX) (w : World) (hv : KeyU w v k) (h : Tiny k 10) :
    Calls Try.prog 23 #[v] w fun e w' => ∃ va vk, e = .returned (.agg #[va, vk]) ∧ (w'.ownsRow w.heap.size 9 1 va (orderK k).1.length (strs (orderK k).1) ∧ ExtO w' w.heap.size vk (orderK k).2) ∧ KeyU w' (.agg #[va, vk]) (orderK k) ∧ Below w.heap.size w w' :=
  (order_kw v k w hv (Nat.le_trans h.la (by decide)) (Nat.le_trans h.lk (by decide)) (fun x hx => Nat.le_trans (h.sa x hx) (by decide)) (fun x hx => ⟨Nat.le_trans (h.sx x hx).1 (by decide), Nat.le_trans (h.sx x hx).2 (by decide)⟩)).mono
    fun _ _ ⟨va, vk, he, h1, h2, hb⟩ => ⟨va, vk, he, ⟨h1, h2⟩, ⟨va, vk, rfl, RowU.of_own h1, ExtU.of_row (ExtO.row h2)⟩, hb⟩
theorem write_any (v : Value) (k : List ByteArray × KX) (w : World) (hv : KeyU w v k) (h : Tiny k 10) :
    Calls Try.prog 21 #[v] w fun e w' => ∃ u, e = .returned u ∧ w'.ownsRow w.heap.size 9 1 u (writeK k).length (strs (writeK k)) ∧ Below w.heap.size w w' := by
  obtain ⟨A, K⟩ := k
  exact write_kw v A K w hv (Nat.le_trans h.la (by decide)) (Nat.le_trans h.lk (by decide)) (fun x hx => Nat.le_trans (h.sx x hx).2 (by decide))
theorem key_agg {w : World} {v : Value} {k : List ByteArray × KX} (h : KeyU w v k) : ∃ a n c b m d, v = .agg #[.slice a n c, .slice b m d] := by
  obtain ⟨_, _, rfl, ⟨_, _, rfl, _⟩, _, _, rfl, _⟩ := h
  exact ⟨_, _, _, _, _, _, rfl⟩
theorem exL_tiny : exL.length ≤ 10 ∧ ∀ x ∈ exL, x.size ≤ 100 := by decide +kernel
set_option maxRecDepth 100000 in
set_option maxHeartbeats 2000000 in
theorem awake9_own (w : World) :
    Calls Try.prog 14 #[] w fun e w' => e = .returned (.bool true) ∧ Below w.heap.size w w' := by
  obtain ⟨W0, hW0⟩ : ∃ W0, w.alloc (.cells #[.string ⟨#[102, 111, 111]⟩, .string ⟨#[99, 111]⟩, .string ⟨#[116, 114, 117, 101]⟩, .string ⟨#[98, 97, 114]⟩, .string ⟨#[99, 97]⟩, .string ⟨#[98, 117, 100, 100, 104, 105, 115, 116]⟩, .string ⟨#[99, 111]⟩, .string ⟨#[112, 104, 111, 110, 101, 98, 107]⟩] 9) = W0 := ⟨_, rfl⟩
  have hb0 : Below w.heap.size w W0 := by rw [← hW0]; exact (Below.refl _ w).alloc (Nat.le_refl _) _
  have hr : RowU W0 (.slice (some ⟨w.heap.size, 0, none⟩) 8 8) exL := by rw [← hW0]; exact RowU.of_row (Row.of_block exL _ _ rfl (World.alloc_heap_new w _))
  have RD := Lib.hid (read_kw _ exL W0 hr (by decide) (fun x hx => Nat.le_trans (exL_tiny.2 x hx) (by decide)))
  have HT := Lib.hid (tiny_read exL_tiny.1 exL_tiny.2)
  have HX := Lib.hid ex_order
  have HB0 := Lib.hid hb0
  generalize readK exL = k at *
  clear hb0 hr
  go_enter Try.func14, Try.ntmps14
  go_upto_region 2 with (first
    | (go_at_call 18; (with_reducible refine RD.out.mono ?_); rintro e w1 ⟨u, rfl, hk1, hb1⟩; have OC := Lib.hid (order_any u k w1 hk1 HT.out); obtain ⟨_, _, _, _, _, _, rfl⟩ := key_agg hk1)
    | (go_at_call 23; (with_reducible refine OC.out.mono ?_); rintro e w2 ⟨va, vk, rfl, -, hk2, hb2⟩; obtain ⟨a2, n2, c2, b2, m2, d2, he2⟩ := key_agg hk2; injection he2 with he2; injection he2 with he2; injection he2 with he3 he2; injection he2 with he4; subst he3 he4))
  clear hW0
  obtain ⟨W3, hW3⟩ : ∃ W3, w2.alloc (.cells #[.slice a2 n2 c2, .slice b2 m2 d2] 41) = W3 := ⟨_, rfl⟩
  have hb3 : Below w2.heap.size w2 W3 := by rw [← hW3]; exact (Below.refl _ w2).alloc (Nat.le_refl _) _
  have hK3 : W3.heap[w2.heap.size]? = some (.cells #[.slice a2 n2 c2, .slice b2 m2 d2] 41 (0, 0)) := by rw [← hW3]; exact World.alloc_heap_new w2 _
  obtain ⟨q0, q1⟩ := key_cells hK3
  have WR := Lib.hid (write_any _ (orderK k) W3 (hk2.below hb3) (tiny_order HT.out))
  rw [HX.out] at WR
  have HB3 := Lib.hid ((((HB0.out.trans (hb1.mono HB0.out.size)).trans (hb2.mono (Nat.le_trans HB0.out.size hb1.size))).trans (hb3.mono (Nat.le_trans HB0.out.size (Nat.le_trans hb1.size hb2.size)))))
  rw [hW3]
  clear hW3 hK3 hb3 hk2 hb2 hb1 hk1 HX OC RD
  go_upto_region 3 with (first
    | (go_at_call 21; (with_reducible refine WR.out.mono ?_); rintro e w4 ⟨u4, rfl, ho4, hb4⟩; have hr5 := RowU.below (RowU.of_own ho4) ((Below.refl _ w4).alloc (Nat.le_refl _) (.cells #[.string ⟨#[102, 111, 111]⟩, .string ⟨#[99, 97]⟩, .string ⟨#[98, 117, 100, 100, 104, 105, 115, 116]⟩, .string ⟨#[99, 111]⟩, .string ⟨#[116, 114, 117, 101]⟩, .string ⟨#[98, 97, 114]⟩] 9)); have SM := Lib.hid (sameU_rows u4 (.slice (some ⟨w4.heap.size, 0, none⟩) 6 6) exW exW _ hr5 (RowU.of_row (Row.of_block exW _ _ rfl (World.alloc_heap_new w4 _))) (by decide)); rw [decide_eq_true rfl] at SM; have HB4 := Lib.hid (HB3.out.trans (hb4.mono HB3.out.size)); obtain ⟨_, _, _, rfl⟩ := own_slice ho4)
    | (go_at_call 20; (with_reducible refine SM.out.mono ?_); rintro e w5 ⟨rfl, hb5⟩))
  go_wp2_with fail
  go_ret
  exact ⟨rfl, HB4.out.trans (((((Below.refl _ w4).alloc (Nat.le_refl _) _).trans (hb5.mono (by simp)))).mono HB4.out.size)⟩
end Go.Proofs.Ytgdcdijdpflmdaa
