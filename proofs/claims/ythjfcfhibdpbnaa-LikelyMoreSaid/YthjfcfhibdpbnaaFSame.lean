/-
  The document's own answers for package tag: Same.
-/
import Derived.Test.YthjfcfhibdpbnaaFTag
namespace Go.Proofs.Ythjfcfhibdpbnaa
open Go Go.RowKit

theorem take_eq_next {α : Type} {l1 l2 : List α} {k : Nat} {x : α} (h : l1.take k = l2.take k) (h1 : l1[k]? = some x) (h2 : l2[k]? = some x) : l1.take (k + 1) = l2.take (k + 1) := by
  rw [take_next h1, take_next h2, h]

set_option maxRecDepth 100000 in
set_option maxHeartbeats 2000000 in
theorem same_rows (v1 v2 : Value) (l1 l2 : List ByteArray) (w : World) (h1 : Row w v1 l1) (h2 : Row w v2 l2) (hb : l1.length ≤ 1048576) :
    Calls Try.prog 55 #[v1, v2] w fun e w' => e = .returned (.bool (decide (l1 = l2))) ∧ Below w.heap.size w w' := by
  obtain ⟨a1, c1, rfl, H1⟩ := h1
  obtain ⟨a2, c2, rfl, H2⟩ := h2
  have H1 := Lib.hid H1
  have H2 := Lib.hid H2
  by_cases hn : l1.length = l2.length
  · have HN := Lib.hid hn
    have hni : ((l1.length : Int) != (l2.length : Int)) = false := by rw [hn]; simp
    go_enter Try.func55, Try.ntmps55
    go_wp2
    go_loopw [5] (fun i wr => ∃ k : Nat, k ≤ l1.length ∧ i = .int .i64 k ∧ Hid (l1.take k = l2.take k) ∧ Below w.heap.size w wr) (fun i _ => l1.length - (intOf i).toNat)
    case atStart => exact ⟨0, Nat.zero_le _, rfl, Lib.hid (by simp), Below.refl _ _⟩
    case round =>
      obtain ⟨k, hk, rfl, HT, hB⟩ := hrel
      by_cases hlt : k < l1.length
      · obtain ⟨p, hp⟩ : ∃ p, l1[k]? = some p := ⟨_, List.getElem?_eq_getElem hlt⟩
        obtain ⟨q, hq⟩ : ∃ q, l2[k]? = some q := ⟨_, List.getElem?_eq_getElem (by omega)⟩
        obtain ⟨g1, rfl, e1'⟩ := H1.out k p hp
        obtain ⟨g2, rfl, e2'⟩ := H2.out k q hq
        have e1 := (hB.cell (p := ⟨g1, k, none⟩) (lt_of_cellF e1')).trans e1'
        have e2 := (hB.cell (p := ⟨g2, k, none⟩) (lt_of_cellF e2')).trans e2'
        have hki : (k : Int) < (l1.length : Int) := by omega
        have hki2 : (k : Int) < (l2.length : Int) := by omega
        have hk0 : (0 : Int) ≤ (k : Int) := by omega
        by_cases hpq : p = q
        · subst hpq
          have HS := Lib.hid (take_eq_next HT.out hp hq)
          clear hp hq e1' e2'
          go_wp2
          go_quiet (fail)
          go_wp2
          go_roundw
          case rel => exact ⟨k + 1, by omega, by go_num, HS, below_drewN hB _⟩
          case measure => simp [intOf]; omega
        · have HD := Lib.hid (show decide (l1 = l2) = false from decide_eq_false (fun e => hpq (by rw [e, hq] at hp; exact (Option.some.inj hp).symm)))
          have hpt := toList_ne hpq
          clear hp hq e1' e2'
          go_wp2
          go_quiet (fail)
          go_wp2
          go_ret
          exact ⟨ret_bool HD.out.symm, below_drewN hB _⟩
      · obtain rfl : k = l1.length := by omega
        have HD := Lib.hid (show decide (l1 = l2) = true from decide_eq_true (by
          have h := HT.out
          rwa [List.take_of_length_le (Nat.le_refl _), List.take_of_length_le (by omega)] at h))
        go_wp2
        go_ret
        exact ⟨ret_bool HD.out.symm, hB⟩
  · have hni : ((l1.length : Int) != (l2.length : Int)) = true := by rw [bne_iff_ne]; omega
    have HD := Lib.hid (show decide (l1 = l2) = false from decide_eq_false (fun e => hn (by rw [e])))
    clear hn
    go_enter Try.func55, Try.ntmps55
    go_wp2
    go_ret
    exact ⟨ret_bool HD.out.symm, Below.refl _ _⟩
def sameT (A B : TagM) : Bool := (decide (A.extl = B.extl) && (decide (A.vars = B.vars) && decide (A.priv = B.priv))) && ((decide (A.lang = B.lang) && (decide (A.script = B.script) && (decide (A.region = B.region) && decide (A.grand = B.grand)))) && decide (A.exts = B.exts))

set_option maxRecDepth 100000 in
set_option maxHeartbeats 16000000 in
theorem same_ref (v1 v2 : Value) (A B : TagM) (w : World) (hA : TagIs w v1 A) (hB : TagIs w v2 B) (FA : TagFits A) :
    Calls Try.prog 33 #[v1, v2] w fun e w' => e = .returned (.bool (sameT A B)) ∧ Below w.heap.size w w' := by
  obtain ⟨u1, u2, u3, u4, rfl, R1, R2, R3, R4⟩ := hA
  obtain ⟨t1, t2, t3, t4, rfl, T1, T2, T3, T4⟩ := hB
  obtain ⟨F1, F2, F3, F4, F5, F6⟩ := FA
  obtain ⟨la, ea, sa, ra, va, xa, pa, ga⟩ := A
  obtain ⟨lb, eb, sb, rb, vb, xb, pb, gb⟩ := B
  dsimp only at *
  obtain ⟨W0, hW0⟩ : ∃ W0, (w.alloc (.cells #[.string la, u1, .string sa, .string ra, u2, u3, u4, .string ga] 40)).alloc (.cells #[.string lb, t1, .string sb, .string rb, t2, t3, t4, .string gb] 40) = W0 := ⟨_, rfl⟩
  have hb0 : Below w.heap.size w W0 := by rw [← hW0]; exact ((Below.refl _ w).alloc (Nat.le_refl _) _).alloc (by simp) _
  have hz0 : w.heap.size + 1 < W0.heap.size := by rw [← hW0]; simp
  have hp0 : W0.heap[w.heap.size]? = some (.cells #[.string la, u1, .string sa, .string ra, u2, u3, u4, .string ga] 40 (0, 0)) := by
    rw [← hW0, Below.heap_alloc _ _ _ (by simp)]; exact World.alloc_heap_new w _
  have hq0 : W0.heap[w.heap.size + 1]? = some (.cells #[.string lb, t1, .string sb, .string rb, t2, t3, t4, .string gb] 40 (0, 0)) := by
    rw [← hW0]
    have := World.alloc_heap_new (w.alloc (.cells #[.string la, u1, .string sa, .string ra, u2, u3, u4, .string ga] 40)) (.cells #[.string lb, t1, .string sb, .string rb, t2, t3, t4, .string gb] 40)
    rwa [World.size_alloc] at this
  have HH := Lib.hid (fun wr (hb : Below W0.heap.size W0 wr) => And.intro (tag_cells ((hb.block _ (by omega)).trans hp0)) (tag_cells ((hb.block _ hz0).trans hq0)))
  have R1 := R1.below hb0
  have R2 := R2.below hb0
  have R3 := R3.below hb0
  have R4 := R4.below hb0
  have T1 := T1.below hb0
  have T2 := T2.below hb0
  have T3 := T3.below hb0
  have T4 := T4.below hb0
  have SR : ∀ (v1 v2 : Value) (l1 l2 : List ByteArray), Row W0 v1 l1 → Row W0 v2 l2 → l1.length ≤ 100 → Hid (∀ w5, Below W0.heap.size W0 w5 → Calls Try.prog 55 #[v1, v2] w5 fun e w6 => e = .returned (.bool (decide (l1 = l2))) ∧ Below W0.heap.size W0 w6) := fun v1 v2 l1 l2 h1 h2 hl w5 hb =>
    (same_rows v1 v2 l1 l2 w5 (h1.below hb) (h2.below hb) (by omega)).mono fun e w6 ⟨p, q⟩ => ⟨p, hb.trans (q.mono hb.size)⟩
  have S1 := SR u1 t1 ea eb R1 T1 F1
  have S2 := SR u2 t2 va vb R2 T2 F2
  have S3 := SR u4 t4 pa pb R4 T4 F5
  have HSR := Lib.hid SR
  obtain ⟨a1, p1, rfl, -⟩ := R1
  obtain ⟨a2, p2, rfl, -⟩ := R2
  obtain ⟨a4, p4, rfl, -⟩ := R4
  obtain ⟨b1, q1, rfl, -⟩ := T1
  obtain ⟨b2, q2, rfl, -⟩ := T2
  obtain ⟨b4, q4, rfl, -⟩ := T4
  obtain ⟨a3, p3, rfl, K3⟩ := R3
  obtain ⟨b3, q3, rfl, Q3⟩ := T3
  have K3 := Lib.hid K3
  have Q3 := Lib.hid Q3
  have HB0 := Lib.hid hb0
  obtain ⟨⟨d0, d1, d2, d3, d4, d5, d6, d7⟩, ⟨e0, e1, e2, e3, e4, e5, e6, e7⟩⟩ := HH.out W0 (Below.refl _ _)
  clear SR hp0 hq0 hb0
  by_cases h0 : ea = eb
  rotate_left 1
  · have HE := Lib.hid (show sameT ⟨la, ea, sa, ra, va, xa, pa, ga⟩ ⟨lb, eb, sb, rb, vb, xb, pb, gb⟩ = false by unfold sameT; dsimp only; rw [decide_eq_false h0]; simp)
    rw [decide_eq_false h0] at S1
    clear h0
    go_enter Try.func33, Try.ntmps33
    go_wp2_with (first
      | (go_at_call 55; (with_reducible refine (S1.out _ (by first | assumption | exact Below.refl _ _)).mono ?_); rintro e w5 ⟨rfl, hb5⟩; obtain ⟨⟨d0, d1, d2, d3, d4, d5, d6, d7⟩, ⟨e0, e1, e2, e3, e4, e5, e6, e7⟩⟩ := HH.out _ hb5)
      | (go_at_call 55; (with_reducible refine (S2.out _ (by assumption)).mono ?_); rintro e w6 ⟨rfl, hb6⟩; obtain ⟨⟨d0, d1, d2, d3, d4, d5, d6, d7⟩, ⟨e0, e1, e2, e3, e4, e5, e6, e7⟩⟩ := HH.out _ hb6)
      | (go_at_call 55; (with_reducible refine (S3.out _ (by assumption)).mono ?_); rintro e w7 ⟨rfl, hb7⟩; obtain ⟨⟨d0, d1, d2, d3, d4, d5, d6, d7⟩, ⟨e0, e1, e2, e3, e4, e5, e6, e7⟩⟩ := HH.out _ hb7))
    go_ret
    exact ⟨ret_bool HE.out.symm, HB0.out.trans (Below.mono (by assumption) (by omega))⟩
  by_cases h1 : va = vb
  rotate_left 1
  · have HE := Lib.hid (show sameT ⟨la, ea, sa, ra, va, xa, pa, ga⟩ ⟨lb, eb, sb, rb, vb, xb, pb, gb⟩ = false by unfold sameT; dsimp only; rw [decide_eq_false h1]; simp)
    rw [decide_eq_false h1] at S2
    rw [decide_eq_true h0] at S1
    clear h0 h1
    go_enter Try.func33, Try.ntmps33
    go_wp2_with (first
      | (go_at_call 55; (with_reducible refine (S1.out _ (by first | assumption | exact Below.refl _ _)).mono ?_); rintro e w5 ⟨rfl, hb5⟩; obtain ⟨⟨d0, d1, d2, d3, d4, d5, d6, d7⟩, ⟨e0, e1, e2, e3, e4, e5, e6, e7⟩⟩ := HH.out _ hb5)
      | (go_at_call 55; (with_reducible refine (S2.out _ (by assumption)).mono ?_); rintro e w6 ⟨rfl, hb6⟩; obtain ⟨⟨d0, d1, d2, d3, d4, d5, d6, d7⟩, ⟨e0, e1, e2, e3, e4, e5, e6, e7⟩⟩ := HH.out _ hb6)
      | (go_at_call 55; (with_reducible refine (S3.out _ (by assumption)).mono ?_); rintro e w7 ⟨rfl, hb7⟩; obtain ⟨⟨d0, d1, d2, d3, d4, d5, d6, d7⟩, ⟨e0, e1, e2, e3, e4, e5, e6, e7⟩⟩ := HH.out _ hb7))
    go_ret
    exact ⟨ret_bool HE.out.symm, HB0.out.trans (Below.mono (by assumption) (by omega))⟩
  by_cases h2 : pa = pb
  rotate_left 1
  · have HE := Lib.hid (show sameT ⟨la, ea, sa, ra, va, xa, pa, ga⟩ ⟨lb, eb, sb, rb, vb, xb, pb, gb⟩ = false by unfold sameT; dsimp only; rw [decide_eq_false h2]; simp)
    rw [decide_eq_false h2] at S3
    rw [decide_eq_true h0] at S1
    rw [decide_eq_true h1] at S2
    clear h0 h1 h2
    go_enter Try.func33, Try.ntmps33
    go_wp2_with (first
      | (go_at_call 55; (with_reducible refine (S1.out _ (by first | assumption | exact Below.refl _ _)).mono ?_); rintro e w5 ⟨rfl, hb5⟩; obtain ⟨⟨d0, d1, d2, d3, d4, d5, d6, d7⟩, ⟨e0, e1, e2, e3, e4, e5, e6, e7⟩⟩ := HH.out _ hb5)
      | (go_at_call 55; (with_reducible refine (S2.out _ (by assumption)).mono ?_); rintro e w6 ⟨rfl, hb6⟩; obtain ⟨⟨d0, d1, d2, d3, d4, d5, d6, d7⟩, ⟨e0, e1, e2, e3, e4, e5, e6, e7⟩⟩ := HH.out _ hb6)
      | (go_at_call 55; (with_reducible refine (S3.out _ (by assumption)).mono ?_); rintro e w7 ⟨rfl, hb7⟩; obtain ⟨⟨d0, d1, d2, d3, d4, d5, d6, d7⟩, ⟨e0, e1, e2, e3, e4, e5, e6, e7⟩⟩ := HH.out _ hb7))
    go_ret
    exact ⟨ret_bool HE.out.symm, HB0.out.trans (Below.mono (by assumption) (by omega))⟩
  by_cases h3 : la = lb
  rotate_left 1
  · have HE := Lib.hid (show sameT ⟨la, ea, sa, ra, va, xa, pa, ga⟩ ⟨lb, eb, sb, rb, vb, xb, pb, gb⟩ = false by unfold sameT; dsimp only; rw [decide_eq_false h3]; simp)
    rw [decide_eq_true h0] at S1
    rw [decide_eq_true h1] at S2
    rw [decide_eq_true h2] at S3
    have hne := toList_ne h3
    clear h0 h1 h2 h3
    go_enter Try.func33, Try.ntmps33
    go_wp2_with (first
      | (go_at_call 55; (with_reducible refine (S1.out _ (by first | assumption | exact Below.refl _ _)).mono ?_); rintro e w5 ⟨rfl, hb5⟩; obtain ⟨⟨d0, d1, d2, d3, d4, d5, d6, d7⟩, ⟨e0, e1, e2, e3, e4, e5, e6, e7⟩⟩ := HH.out _ hb5)
      | (go_at_call 55; (with_reducible refine (S2.out _ (by assumption)).mono ?_); rintro e w6 ⟨rfl, hb6⟩; obtain ⟨⟨d0, d1, d2, d3, d4, d5, d6, d7⟩, ⟨e0, e1, e2, e3, e4, e5, e6, e7⟩⟩ := HH.out _ hb6)
      | (go_at_call 55; (with_reducible refine (S3.out _ (by assumption)).mono ?_); rintro e w7 ⟨rfl, hb7⟩; obtain ⟨⟨d0, d1, d2, d3, d4, d5, d6, d7⟩, ⟨e0, e1, e2, e3, e4, e5, e6, e7⟩⟩ := HH.out _ hb7))
    go_ret
    exact ⟨ret_bool HE.out.symm, HB0.out.trans (Below.mono (by assumption) (by omega))⟩
  by_cases h4 : sa = sb
  rotate_left 1
  · have HE := Lib.hid (show sameT ⟨la, ea, sa, ra, va, xa, pa, ga⟩ ⟨lb, eb, sb, rb, vb, xb, pb, gb⟩ = false by unfold sameT; dsimp only; rw [decide_eq_false h4]; simp)
    rw [decide_eq_true h0] at S1
    rw [decide_eq_true h1] at S2
    rw [decide_eq_true h2] at S3
    have hne := toList_ne h4
    subst h3
    clear h0 h1 h2 h4
    go_enter Try.func33, Try.ntmps33
    go_wp2_with (first
      | (go_at_call 55; (with_reducible refine (S1.out _ (by first | assumption | exact Below.refl _ _)).mono ?_); rintro e w5 ⟨rfl, hb5⟩; obtain ⟨⟨d0, d1, d2, d3, d4, d5, d6, d7⟩, ⟨e0, e1, e2, e3, e4, e5, e6, e7⟩⟩ := HH.out _ hb5)
      | (go_at_call 55; (with_reducible refine (S2.out _ (by assumption)).mono ?_); rintro e w6 ⟨rfl, hb6⟩; obtain ⟨⟨d0, d1, d2, d3, d4, d5, d6, d7⟩, ⟨e0, e1, e2, e3, e4, e5, e6, e7⟩⟩ := HH.out _ hb6)
      | (go_at_call 55; (with_reducible refine (S3.out _ (by assumption)).mono ?_); rintro e w7 ⟨rfl, hb7⟩; obtain ⟨⟨d0, d1, d2, d3, d4, d5, d6, d7⟩, ⟨e0, e1, e2, e3, e4, e5, e6, e7⟩⟩ := HH.out _ hb7))
    go_ret
    exact ⟨ret_bool HE.out.symm, HB0.out.trans (Below.mono (by assumption) (by omega))⟩
  by_cases h5 : ra = rb
  rotate_left 1
  · have HE := Lib.hid (show sameT ⟨la, ea, sa, ra, va, xa, pa, ga⟩ ⟨lb, eb, sb, rb, vb, xb, pb, gb⟩ = false by unfold sameT; dsimp only; rw [decide_eq_false h5]; simp)
    rw [decide_eq_true h0] at S1
    rw [decide_eq_true h1] at S2
    rw [decide_eq_true h2] at S3
    have hne := toList_ne h5
    subst h3
    subst h4
    clear h0 h1 h2 h5
    go_enter Try.func33, Try.ntmps33
    go_wp2_with (first
      | (go_at_call 55; (with_reducible refine (S1.out _ (by first | assumption | exact Below.refl _ _)).mono ?_); rintro e w5 ⟨rfl, hb5⟩; obtain ⟨⟨d0, d1, d2, d3, d4, d5, d6, d7⟩, ⟨e0, e1, e2, e3, e4, e5, e6, e7⟩⟩ := HH.out _ hb5)
      | (go_at_call 55; (with_reducible refine (S2.out _ (by assumption)).mono ?_); rintro e w6 ⟨rfl, hb6⟩; obtain ⟨⟨d0, d1, d2, d3, d4, d5, d6, d7⟩, ⟨e0, e1, e2, e3, e4, e5, e6, e7⟩⟩ := HH.out _ hb6)
      | (go_at_call 55; (with_reducible refine (S3.out _ (by assumption)).mono ?_); rintro e w7 ⟨rfl, hb7⟩; obtain ⟨⟨d0, d1, d2, d3, d4, d5, d6, d7⟩, ⟨e0, e1, e2, e3, e4, e5, e6, e7⟩⟩ := HH.out _ hb7))
    go_ret
    exact ⟨ret_bool HE.out.symm, HB0.out.trans (Below.mono (by assumption) (by omega))⟩
  by_cases h6 : ga = gb
  rotate_left 1
  · have HE := Lib.hid (show sameT ⟨la, ea, sa, ra, va, xa, pa, ga⟩ ⟨lb, eb, sb, rb, vb, xb, pb, gb⟩ = false by unfold sameT; dsimp only; rw [decide_eq_false h6]; simp)
    rw [decide_eq_true h0] at S1
    rw [decide_eq_true h1] at S2
    rw [decide_eq_true h2] at S3
    have hne := toList_ne h6
    subst h3
    subst h4
    subst h5
    clear h0 h1 h2 h6
    go_enter Try.func33, Try.ntmps33
    go_wp2_with (first
      | (go_at_call 55; (with_reducible refine (S1.out _ (by first | assumption | exact Below.refl _ _)).mono ?_); rintro e w5 ⟨rfl, hb5⟩; obtain ⟨⟨d0, d1, d2, d3, d4, d5, d6, d7⟩, ⟨e0, e1, e2, e3, e4, e5, e6, e7⟩⟩ := HH.out _ hb5)
      | (go_at_call 55; (with_reducible refine (S2.out _ (by assumption)).mono ?_); rintro e w6 ⟨rfl, hb6⟩; obtain ⟨⟨d0, d1, d2, d3, d4, d5, d6, d7⟩, ⟨e0, e1, e2, e3, e4, e5, e6, e7⟩⟩ := HH.out _ hb6)
      | (go_at_call 55; (with_reducible refine (S3.out _ (by assumption)).mono ?_); rintro e w7 ⟨rfl, hb7⟩; obtain ⟨⟨d0, d1, d2, d3, d4, d5, d6, d7⟩, ⟨e0, e1, e2, e3, e4, e5, e6, e7⟩⟩ := HH.out _ hb7))
    go_ret
    exact ⟨ret_bool HE.out.symm, HB0.out.trans (Below.mono (by assumption) (by omega))⟩
  by_cases h7 : xa.length = xb.length
  rotate_left 1
  · have HE := Lib.hid (show sameT ⟨la, ea, sa, ra, va, xa, pa, ga⟩ ⟨lb, eb, sb, rb, vb, xb, pb, gb⟩ = false by unfold sameT; dsimp only; rw [decide_eq_false (p := xa = xb) (fun e => h7 (by rw [e]))]; simp)
    rw [decide_eq_true h0] at S1
    rw [decide_eq_true h1] at S2
    rw [decide_eq_true h2] at S3
    have hne : ((xa.length : Int) != (xb.length : Int)) = true := by rw [bne_iff_ne]; omega
    subst h3
    subst h4
    subst h5
    subst h6
    clear h0 h1 h2 h7
    go_enter Try.func33, Try.ntmps33
    go_wp2_with (first
      | (go_at_call 55; (with_reducible refine (S1.out _ (by first | assumption | exact Below.refl _ _)).mono ?_); rintro e w5 ⟨rfl, hb5⟩; obtain ⟨⟨d0, d1, d2, d3, d4, d5, d6, d7⟩, ⟨e0, e1, e2, e3, e4, e5, e6, e7⟩⟩ := HH.out _ hb5)
      | (go_at_call 55; (with_reducible refine (S2.out _ (by assumption)).mono ?_); rintro e w6 ⟨rfl, hb6⟩; obtain ⟨⟨d0, d1, d2, d3, d4, d5, d6, d7⟩, ⟨e0, e1, e2, e3, e4, e5, e6, e7⟩⟩ := HH.out _ hb6)
      | (go_at_call 55; (with_reducible refine (S3.out _ (by assumption)).mono ?_); rintro e w7 ⟨rfl, hb7⟩; obtain ⟨⟨d0, d1, d2, d3, d4, d5, d6, d7⟩, ⟨e0, e1, e2, e3, e4, e5, e6, e7⟩⟩ := HH.out _ hb7))
    go_ret
    exact ⟨ret_bool HE.out.symm, HB0.out.trans (Below.mono (by assumption) (by omega))⟩
  rw [decide_eq_true h0] at S1
  rw [decide_eq_true h1] at S2
  rw [decide_eq_true h2] at S3
  have HX := Lib.hid (show xa = xb → sameT ⟨la, ea, sa, ra, va, xa, pa, ga⟩ ⟨lb, eb, sb, rb, vb, xb, pb, gb⟩ = true by
    intro hx
    unfold sameT
    dsimp only
    rw [decide_eq_true h0, decide_eq_true h1, decide_eq_true h2, decide_eq_true h3, decide_eq_true h4, decide_eq_true h5, decide_eq_true h6, decide_eq_true hx]
    rfl)
  have HN := Lib.hid (show ¬ xa = xb → sameT ⟨la, ea, sa, ra, va, xa, pa, ga⟩ ⟨lb, eb, sb, rb, vb, xb, pb, gb⟩ = false by
    intro hx
    unfold sameT
    dsimp only
    rw [decide_eq_false hx]
    simp)
  clear h0 h1 h2
  subst h3 h4 h5 h6
  have hni : ((xa.length : Int) != (xb.length : Int)) = false := by rw [h7]; simp
  have H7 := Lib.hid h7
  clear h7
  go_enter Try.func33, Try.ntmps33
  go_wp2_with (first
    | (go_at_call 55; (with_reducible refine (S1.out _ (by first | assumption | exact Below.refl _ _)).mono ?_); rintro e w5 ⟨rfl, hb5⟩; obtain ⟨⟨d0, d1, d2, d3, d4, d5, d6, d7⟩, ⟨e0, e1, e2, e3, e4, e5, e6, e7⟩⟩ := HH.out _ hb5)
    | (go_at_call 55; (with_reducible refine (S2.out _ (by assumption)).mono ?_); rintro e w6 ⟨rfl, hb6⟩; obtain ⟨⟨d0, d1, d2, d3, d4, d5, d6, d7⟩, ⟨e0, e1, e2, e3, e4, e5, e6, e7⟩⟩ := HH.out _ hb6)
    | (go_at_call 55; (with_reducible refine (S3.out _ (by assumption)).mono ?_); rintro e w7 ⟨rfl, hb7⟩; obtain ⟨⟨d0, d1, d2, d3, d4, d5, d6, d7⟩, ⟨e0, e1, e2, e3, e4, e5, e6, e7⟩⟩ := HH.out _ hb7))
  go_loopw [8] (fun i wr => ∃ k : Nat, k ≤ xa.length ∧ i = .int .i64 (k : Int) ∧ Hid (xa.take k = xb.take k) ∧ Below W0.heap.size W0 wr) (fun i _ => xa.length - (intOf i).toNat)
  case atStart => exact ⟨0, Nat.zero_le _, rfl, Lib.hid (by simp), hb7⟩
  case round =>
    obtain ⟨k, hk, rfl, HT, hB⟩ := hrel
    obtain ⟨⟨d0, d1, d2, d3, d4, d5, d6, d7⟩, ⟨e0, e1, e2, e3, e4, e5, e6, e7⟩⟩ := HH.out _ hB
    by_cases hlt : k < xa.length
    · obtain ⟨x, hx⟩ : ∃ x, xa[k]? = some x := ⟨_, List.getElem?_eq_getElem hlt⟩
      obtain ⟨y, hy⟩ : ∃ y, xb[k]? = some y := ⟨_, List.getElem?_eq_getElem (by have := H7.out; omega)⟩
      obtain ⟨g, vs, rfl, k1, k2, k3⟩ := K3.out k x hx
      obtain ⟨g2, ws, rfl, l1, l2, l3⟩ := Q3.out k y hy
      have HC := Lib.hid (fun wr (hb : Below W0.heap.size W0 wr) => And.intro ((HH.out wr hb).1.2.2.2.2.2.1) (And.intro ((HH.out wr hb).2.2.2.2.2.2.1) (And.intro ((hb.cell (p := ⟨g, k * 2, none⟩) (lt_of_cellF k1)).trans k1) (And.intro ((hb.cell (p := ⟨g, k * 2 + 1, none⟩) (lt_of_cellF k2)).trans k2) (And.intro ((hb.cell (p := ⟨g2, k * 2, none⟩) (lt_of_cellF l1)).trans l1) ((hb.cell (p := ⟨g2, k * 2 + 1, none⟩) (lt_of_cellF l2)).trans l2))))))
      have hx2 : x.2.length ≤ 100 := F4 x (List.mem_of_getElem? hx)
      have SX := HSR.out vs ws x.2 y.2 k3 l3 hx2
      have hki : (k : Int) < (xa.length : Int) := by omega
      have hki2 : (k : Int) < (xb.length : Int) := by have := H7.out; omega
      have hk0 : (0 : Int) ≤ (k : Int) := by omega
      have hBd := Below.drew hB
      obtain ⟨-, -, f1, f2, f3, f4⟩ := HC.out _ hB
      obtain ⟨d5', e5', f1', f2', f3', f4'⟩ := HC.out _ hBd
      clear k1 k2 k3 l1 l2 l3 S1 S2 S3
      by_cases h2 : x.2 = y.2
      · rw [decide_eq_true h2] at SX
        by_cases h1 : x.1 = y.1
        · have hxy : x = y := Prod.ext h1 h2
          have HS := Lib.hid (take_eq_next HT.out hx (hxy ▸ hy))
          subst hxy
          clear h1 h2 hx hy
          go_wp2_with fail
          go_region_held3 (fun w' => Below W0.heap.size W0 w' ∧ w'.cell? ⟨w.heap.size, 5, none⟩ = some (.slice (some ⟨g, 0, none⟩) xa.length p3) ∧ w'.cell? ⟨w.heap.size + 1, 5, none⟩ = some (.slice (some ⟨g2, 0, none⟩) xb.length q3) ∧ w'.cell? ⟨g, k * 2 + 1, none⟩ = some vs ∧ w'.cell? ⟨g2, k * 2 + 1, none⟩ = some ws)
            (first | exact ⟨by assumption, by assumption, by assumption, by assumption, by assumption⟩)
            (first | (go_at_call 55; (with_reducible refine (SX.out _ (by assumption)).mono ?_); rintro e w9 ⟨rfl, hb9⟩; obtain ⟨d5, e5, f1, f2, f3, f4⟩ := HC.out _ hb9))
          go_wp2
          go_quiet (fail)
          go_wp2
          go_roundw
          case rel => exact ⟨k + 1, by omega, by go_num, HS, below_drewN (by assumption) _⟩
          case measure => simp [intOf]; omega
        · have HD := Lib.hid (HN.out (fun e => h1 (by rw [e, hy] at hx; rw [Option.some.inj hx])))
          have hne := toList_ne h1
          clear h1 h2 hx hy
          go_wp2_with fail
          go_region_held3 (fun w' => Below W0.heap.size W0 w' ∧ w'.cell? ⟨w.heap.size, 5, none⟩ = some (.slice (some ⟨g, 0, none⟩) xa.length p3) ∧ w'.cell? ⟨w.heap.size + 1, 5, none⟩ = some (.slice (some ⟨g2, 0, none⟩) xb.length q3) ∧ w'.cell? ⟨g, k * 2 + 1, none⟩ = some vs ∧ w'.cell? ⟨g2, k * 2 + 1, none⟩ = some ws)
            (first | exact ⟨by assumption, by assumption, by assumption, by assumption, by assumption⟩)
            (first | (go_at_call 55; (with_reducible refine (SX.out _ (by assumption)).mono ?_); rintro e w9 ⟨rfl, hb9⟩; obtain ⟨d5, e5, f1, f2, f3, f4⟩ := HC.out _ hb9))
          go_wp2
          go_quiet (fail)
          go_wp2
          go_ret
          exact ⟨ret_bool HD.out.symm, HB0.out.trans (Below.mono (below_drewN (by assumption) _) (by omega))⟩
      · rw [decide_eq_false h2] at SX
        have HD := Lib.hid (HN.out (fun e => h2 (by rw [e, hy] at hx; rw [Option.some.inj hx])))
        clear h2 hx hy
        go_wp2_with fail
        go_region_held3 (fun w' => Below W0.heap.size W0 w' ∧ w'.cell? ⟨w.heap.size, 5, none⟩ = some (.slice (some ⟨g, 0, none⟩) xa.length p3) ∧ w'.cell? ⟨w.heap.size + 1, 5, none⟩ = some (.slice (some ⟨g2, 0, none⟩) xb.length q3) ∧ w'.cell? ⟨g, k * 2 + 1, none⟩ = some vs ∧ w'.cell? ⟨g2, k * 2 + 1, none⟩ = some ws)
          (first | exact ⟨by assumption, by assumption, by assumption, by assumption, by assumption⟩)
          (first | (go_at_call 55; (with_reducible refine (SX.out _ (by assumption)).mono ?_); rintro e w9 ⟨rfl, hb9⟩; obtain ⟨d5, e5, f1, f2, f3, f4⟩ := HC.out _ hb9))
        go_wp2
        go_quiet (fail)
        go_wp2
        go_ret
        exact ⟨ret_bool HD.out.symm, HB0.out.trans (Below.mono (below_drewN (by assumption) _) (by omega))⟩
    · obtain rfl : k = xa.length := by omega
      have HD := Lib.hid (HX.out (by
        have h := HT.out
        rwa [List.take_of_length_le (Nat.le_refl _), List.take_of_length_le (by have := H7.out; omega)] at h))
      go_wp2
      go_ret
      exact ⟨ret_bool HD.out.symm, HB0.out.trans (hB.mono (by omega))⟩
end Go.Proofs.Ythjfcfhibdpbnaa
