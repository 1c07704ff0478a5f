/-
  builds, news: rows put in order, bytes taken as rows, against the document.
-/
import Derived.Test.YtbkbnkpgldemkaaGreatDoorWLooks
namespace Go.Proofs.YtbkbnkpgldemkaaGreatDoor
open Go Go.RowKit

theorem newE_ne {w k : Int} {s : ByteArray} {e p : Int} (h : newE w k s = some (e, p)) : (e == 0) = false := by
  by_cases hb : k < 1 ∨ w < k ∨ 255 < w
  · rw [newE_bad hb] at h; cases h; rfl
  · obtain ⟨W, rfl⟩ : ∃ W : Nat, w = (W : Int) := ⟨w.toNat, by omega⟩
    obtain ⟨K, rfl⟩ : ∃ K : Nat, k = (K : Int) := ⟨k.toNat, by omega⟩
    by_cases hm : s.size % W = 0
    · rw [newE_order (by omega) (by omega) (by omega) hm] at h
      cases hbd : badW K (rowsW W s) with
      | none => rw [hbd] at h; cases h
      | some i => rw [hbd] at h; cases h; rfl
    · rw [newE_form (by omega) (by omega) (by omega) hm] at h; cases h; rfl
theorem newE_none {w k : Int} {s : ByteArray} (h : newE w k s = none) : ∃ W K : Nat, w = (W : Int) ∧ k = (K : Int) ∧ 0 < K ∧ K ≤ W ∧ W ≤ 255 ∧ s.size % W = 0 ∧ RisingW K (rowsW W s) := by
  by_cases hb : k < 1 ∨ w < k ∨ 255 < w
  · rw [newE_bad hb] at h; cases h
  · obtain ⟨W, rfl⟩ : ∃ W : Nat, w = (W : Int) := ⟨w.toNat, by omega⟩
    obtain ⟨K, rfl⟩ : ∃ K : Nat, k = (K : Int) := ⟨k.toNat, by omega⟩
    by_cases hm : s.size % W = 0
    · rw [newE_order (by omega) (by omega) (by omega) hm] at h
      cases hbd : badW K (rowsW W s) with
      | none => exact ⟨W, K, rfl, rfl, by omega, by omega, by omega, hm, (badW_none (by omega) (fun x hx => by rw [rowsW_size x hx]; omega)).1 hbd⟩
      | some i => rw [hbd] at h; cases h
    · rw [newE_form (by omega) (by omega) (by omega) hm] at h; cases h
theorem buildE_ne {w k : Int} {l : List ByteArray} {c : ByteArray} {e p : Int} (h : buildE w k l c = some (e, p)) : (e == 0) = false := by
  by_cases hb : k < 1 ∨ w < k ∨ 255 < w
  · rw [buildE_bad hb] at h; cases h; rfl
  · rw [buildE_ok hb] at h
    cases ho : oddW w l with
    | none => rw [ho] at h; exact newE_ne h
    | some i => rw [ho] at h; cases h; rfl
/-- The two ways of putting rows in order tell the same. -/
theorem buildE_two (w k : Int) (l : List ByteArray) : buildE w k l (catW (sortW l)) = buildE w k l (catW (buildRW k.toNat l)) := by
  by_cases hb : k < 1 ∨ w < k ∨ 255 < w
  · rw [buildE_bad hb, buildE_bad hb]
  · obtain ⟨W, rfl⟩ : ∃ W : Nat, w = (W : Int) := ⟨w.toNat, by omega⟩
    obtain ⟨K, rfl⟩ : ∃ K : Nat, k = (K : Int) := ⟨k.toNat, by omega⟩
    rw [buildE_ok hb, buildE_ok hb, Int.toNat_natCast]
    cases ho : oddW (W : Int) l with
    | some i => rfl
    | none =>
      have hl := oddW_none ho
      have hS := sortW_size hl
      have hB : ∀ x ∈ buildRW K l, x.size = W := fun x hx => hl x ((buildRW_both K l).1.mem_iff.1 hx)
      show newE (W : Int) (K : Int) (catW (sortW l)) = newE (W : Int) (K : Int) (catW (buildRW K l))
      rw [newE_order (by omega) (by omega) (by omega) (by rw [cat_size hS]; exact Nat.mul_mod_left _ _), newE_order (by omega) (by omega) (by omega) (by rw [cat_size hB]; exact Nat.mul_mod_left _ _), rows_cat (by omega) hS, rows_cat (by omega) hB, bad_same]
theorem buildE_none {w k : Int} {l : List ByteArray} (h : buildE w k l (catW (sortW l)) = none) : ∃ W K : Nat, w = (W : Int) ∧ k = (K : Int) ∧ 0 < K ∧ K ≤ W ∧ W ≤ 255 ∧ (∀ x ∈ l, x.size = W) ∧ RisingW K (sortW l) ∧ sortW l = buildRW K l := by
  by_cases hb : k < 1 ∨ w < k ∨ 255 < w
  · rw [buildE_bad hb] at h; cases h
  · rw [buildE_ok hb] at h
    cases ho : oddW w l with
    | some i => rw [ho] at h; cases h
    | none =>
      rw [ho] at h
      change newE w k (catW (sortW l)) = none at h
      obtain ⟨W, K, rfl, rfl, h1, h2, h3, _, hr⟩ := newE_none h
      have hl := oddW_none ho
      rw [rows_cat (by omega) (sortW_size hl)] at hr
      have hK : ∀ x ∈ l, K ≤ x.size := fun x hx => by rw [hl x hx]; exact h2
      exact ⟨W, K, rfl, rfl, h1, h2, h3, hl, hr, build_same h1 hK ((badW_none h1 (fun x hx => hK x ((sortW_perm l).mem_iff.1 hx))).2 hr)⟩

set_option maxRecDepth 100000 in
set_option maxHeartbeats 2000000 in
theorem builds_any (wi ki : Int) (v : Value) (l : List ByteArray) (w : World) (hv : RowW w v l) (hl : l.length ≤ 100) (hs : ∀ x ∈ l, x.size ≤ 1000) (hg : TypeLaid w) :
    Calls Tryz.prog 7 #[.int .i64 wi, .int .i64 ki, v] w fun e w' => e = .returned (.bool true) ∧ Below w.heap.size w w' := by
  have HB := Lib.hid (build_table wi ki v l w hv (by omega) (fun x hx => Nat.le_trans (hs x hx) (by decide)))
  have HRF := Lib.hid (fun w5 (hb : Below w.heap.size w w5) => refBuild_any wi ki v l w5 (hv.below hb) hl (fun x hx => Nat.le_trans (hs x hx) (by decide)))
  have HG := Lib.hid (fun w5 (hb : Below w.heap.size w w5) => hg.below hb hg.size)
  rw [← buildE_two] at HRF
  obtain ⟨ao, cap, rfl, -⟩ := hv
  cases ho : buildE wi ki l (catW (sortW l)) with
  | some q =>
    obtain ⟨ee, p⟩ := q
    have hne := buildE_ne ho
    rw [ho] at HB HRF
    clear hg hs ho
    go_enter Tryz.func7, Tryz.ntmps7
    go_wp2_with (go_at_call 10; (with_reducible refine HB.out.mono ?_); rintro e w1 ⟨t, u, rfl, ⟨rfl, hf⟩, hb⟩; obtain ⟨ty, uu, rfl⟩ := hf.iface; have HF := Lib.hid hf; have HB1 := Lib.hid hb; clear hf hb)
    go_wp2_with (go_at_call 14; (with_reducible refine (HRF.out _ HB1.out).mono ?_); rintro e w2 ⟨gv, ge, gp, rfl, ⟨rfl, rfl, rfl⟩, hb⟩; have HB2 := Lib.hid (HB1.out.trans (hb.mono HB1.out.size)); have HLK := Lib.hid (looks_err ki w2 (HF.out.below hb) hne (HG.out _ HB2.out)); clear hb)
    go_wp2_with (go_at_call 13; (with_reducible refine HLK.out.mono ?_); rintro e w3 ⟨rfl, hb3⟩)
    go_ret
    exact ⟨rfl, HB2.out.trans (hb3.mono HB2.out.size)⟩
  | none =>
    rw [ho] at HB HRF
    obtain ⟨W, K, rfl, rfl, h1, h2, h3, hsz, hr, hsame⟩ := buildE_none ho
    have hB := sortW_size hsz
    have hLl : (sortW l).length ≤ 100 := by rw [sortW_len]; exact hl
    rw [Int.toNat_natCast, Int.toNat_natCast, ← hsame, rows_cat (by omega) hB] at HRF
    have HTL := Lib.hid (fun (w' : World) (b : Nat) (ht : w'.heap[b]? = some (tabObj (W : Int).toNat (K : Int).toNat (catW (sortW l)))) => show TabL w' b W K (sortW l) from ⟨by rw [Int.toNat_natCast, Int.toNat_natCast] at ht; exact ht, widT h1 h2 h3 hLl hB, hB, hr⟩)
    clear hg hs ho hsame hr hB hsz
    generalize sortW l = L at *
    go_enter Tryz.func7, Tryz.ntmps7
    go_wp2_with (go_at_call 10; (with_reducible refine HB.out.mono ?_); rintro e w1 ⟨t, u, rfl, ⟨rfl, b, rfl, ht⟩, hb⟩; have HT := Lib.hid (HTL.out w1 b ht); have HB1 := Lib.hid hb; clear ht hb)
    go_wp2_with (go_at_call 14; (with_reducible refine (HRF.out _ HB1.out).mono ?_); rintro e w2 ⟨gv, ge, gp, rfl, ⟨rfl, rfl, hown⟩, hb⟩; obtain ⟨ga, gc, hsl⟩ := (RowW.of_own hown).slice; subst hsl; have HB2 := Lib.hid (HB1.out.trans (hb.mono HB1.out.size)); have HLK := Lib.hid (looks_ok ga gc w2 (HT.out.below hb) (RowW.of_own hown) hLl); clear hb hown)
    go_wp2_with (go_at_call 13; (with_reducible refine HLK.out.mono ?_); rintro e w3 ⟨rfl, hb3⟩)
    go_ret
    exact ⟨rfl, HB2.out.trans (hb3.mono HB2.out.size)⟩

set_option maxRecDepth 100000 in
set_option maxHeartbeats 2000000 in
theorem news_any (wi ki : Int) (s : ByteArray) (w : World) (hs : s.size ≤ 100) (hg : TypeLaid w) :
    Calls Tryz.prog 9 #[.int .i64 wi, .int .i64 ki, .string s] w fun e w' => e = .returned (.bool true) ∧ Below w.heap.size w w' := by
  have HB := Lib.hid (new_table wi ki s w (by omega))
  have HRF := Lib.hid (fun w5 => refNew_any wi ki s w5 (by omega))
  have HG := Lib.hid (fun w5 (hb : Below w.heap.size w w5) => hg.below hb hg.size)
  cases ho : newE wi ki s with
  | some q =>
    obtain ⟨ee, p⟩ := q
    have hne := newE_ne ho
    rw [ho] at HB HRF
    clear hg hs ho
    go_enter Tryz.func9, Tryz.ntmps9
    go_wp2_with (go_at_call 16; (with_reducible refine HB.out.mono ?_); rintro e w1 ⟨t, u, rfl, ⟨rfl, hf⟩, hb⟩; obtain ⟨ty, uu, rfl⟩ := hf.iface; have HF := Lib.hid hf; have HB1 := Lib.hid hb; clear hf hb)
    go_wp2_with (go_at_call 17; (with_reducible refine (HRF.out _).mono ?_); rintro e w2 ⟨gv, ge, gp, rfl, ⟨rfl, rfl, rfl⟩, hb⟩; have HB2 := Lib.hid (HB1.out.trans (hb.mono HB1.out.size)); have HLK := Lib.hid (looks_err ki w2 (HF.out.below hb) hne (HG.out _ HB2.out)); clear hb)
    go_wp2_with (go_at_call 13; (with_reducible refine HLK.out.mono ?_); rintro e w3 ⟨rfl, hb3⟩)
    go_ret
    exact ⟨rfl, HB2.out.trans (hb3.mono HB2.out.size)⟩
  | none =>
    rw [ho] at HB HRF
    obtain ⟨W, K, rfl, rfl, h1, h2, h3, hm, hr⟩ := newE_none ho
    have hB := rowsW_size (W := W) (s := s)
    have hc := cat_rows (W := W) hm
    have hLl : (rowsW W s).length ≤ 100 := by rw [rowsW_len]; exact Nat.le_trans (Nat.div_le_self _ _) hs
    rw [Int.toNat_natCast] at HRF
    have HTL := Lib.hid (fun (w' : World) (b : Nat) (ht : w'.heap[b]? = some (tabObj (W : Int).toNat (K : Int).toNat s)) => show TabL w' b W K (rowsW W s) from ⟨by rw [Int.toNat_natCast, Int.toNat_natCast] at ht; rw [hc]; exact ht, widT h1 h2 h3 hLl hB, hB, hr⟩)
    clear hg hs ho hr hB hc hm
    generalize rowsW W s = L at *
    go_enter Tryz.func9, Tryz.ntmps9
    go_wp2_with (go_at_call 16; (with_reducible refine HB.out.mono ?_); rintro e w1 ⟨t, u, rfl, ⟨rfl, b, rfl, ht⟩, hb⟩; have HT := Lib.hid (HTL.out w1 b ht); have HB1 := Lib.hid hb; clear ht hb)
    go_wp2_with (go_at_call 17; (with_reducible refine (HRF.out _).mono ?_); rintro e w2 ⟨gv, ge, gp, rfl, ⟨rfl, rfl, hown⟩, hb⟩; obtain ⟨ga, gc, hsl⟩ := (RowW.of_own hown).slice; subst hsl; have HB2 := Lib.hid (HB1.out.trans (hb.mono HB1.out.size)); have HLK := Lib.hid (looks_ok ga gc w2 (HT.out.below hb) (RowW.of_own hown) hLl); clear hb hown)
    go_wp2_with (go_at_call 13; (with_reducible refine HLK.out.mono ?_); rintro e w3 ⟨rfl, hb3⟩)
    go_ret
    exact ⟨rfl, HB2.out.trans (hb3.mono HB2.out.size)⟩
end Go.Proofs.YtbkbnkpgldemkaaGreatDoor
