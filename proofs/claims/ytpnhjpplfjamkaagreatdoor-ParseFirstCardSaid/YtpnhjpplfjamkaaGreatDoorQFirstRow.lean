import Derived.Test.YtpnhjpplfjamkaaGreatDoorRows
import Derived.Test.YtpnhjpplfjamkaaGreatDoorIMade
import Derived.ProofKit
import Derived.OpenShut
import Derived.Deep.Slices
import Derived.Deep.Fields
import Derived.ChangeSame
import Derived.ChangeMaps5
import Derived.RowKit
import Derived.Carry
import Derived.Test.YtpnhjpplfjamkaaGreatDoorPParsed
import Derived.Test.YtpnhjpplfjamkaaGreatDoorRowKits
import Derived.Test.YtpnhjpplfjamkaaGreatDoorQFirstO
import Derived.Test.YtpnhjpplfjamkaaGreatDoorPTellsL
import Derived.Test.YtpnhjpplfjamkaaGreatDoorCards
import Derived.Test.YtpnhjpplfjamkaaGreatDoorTie
import Derived.LaidMore
import Derived.Lay
import Derived.SevenTiedAt
import Derived.Stop.Joined
namespace Go.Proofs.YtpnhjpplfjamkaaGreatDoor
open Go.ChangeShapes Go.WideShapes Go.ChangeAt Go.RowKit Go.Deep

set_option maxRecDepth 100000 in
theorem laidOut6 : laidOutB Tryz.prog = true := by kernel_rfl
section
variable {H : Type} {enc : TypeId × Value → H} {w : World} {base : Nat} {spare : Nat → Bool} {held : Bool}
set_option maxRecDepth 100000 in
/-- A row that came in, of whatever elements. -/
theorem open_rowG {α : Type} {t e : TypeId} {n : Nat} (Q : List Value → α → Prop) (ht : Tryz.prog.underlying t = some (.slice e)) (hn : Tryz.prog.cellsOf e = n) (hn0 : 0 < n)
    (hQ : ∀ (fuel : Nat) (cs : List Value) (x : DataW H × List MemPlace), cs.length = n → DataW.trod enc Tryz.prog w base spare held fuel e cs = some x → ∃ a, Q cs a) {fuel : Nat} {cs : List Value} {x : DataW H × List MemPlace} (h : DataW.trod enc Tryz.prog w base spare held fuel t cs = some x) :
    ∃ (ao : Option Addr) (cap : Nat) (l : List α), cs = [.slice ao l.length cap] ∧ l.length ≤ maxLen ∧ ∀ i a, l[i]? = some a → ∃ b o ys, ao = some ⟨b, o, none⟩ ∧ (∀ j v, ys[j]? = some v → w.cell? ⟨b, o + (i * n + j), none⟩ = some v) ∧ Q ys a := by
  rcases open_slice ht h with ⟨rfl, _⟩ | ⟨a, len, cap, m, fl, D, Pl, rfl, _, hl, hm, hmm, _, hi⟩
  · exact ⟨none, 0, [], rfl, by simp, fun i a h => by simp at h⟩
  · have hml : len ≤ m := by rw [hmm]; split <;> omega
    have hit : ∀ i, i < len → ∃ (y : α) (ys : List Value), ys.length = n ∧ (∀ j, j < n → w.cell? ((a.add (i * n)).add j) = ys[j]?) ∧ Q ys y := by
      intro i hil
      obtain ⟨cs', hc, htr⟩ := hi i (by omega)
      rw [hn] at hc
      obtain ⟨_, hcl, hat⟩ := World.cells?_some hc
      obtain ⟨y, hy⟩ := hQ _ _ _ hcl htr
      exact ⟨y, cs', hcl, hat, hy⟩
    obtain ⟨l, hll, hlg⟩ : ∃ l : List α, l.length = len ∧ ∀ i y, l[i]? = some y → ∃ ys : List Value, ys.length = n ∧ (∀ j, j < n → w.cell? ((a.add (i * n)).add j) = ys[j]?) ∧ Q ys y := by
      refine ⟨(List.range len).pmap (fun i hi => Classical.choose (hit i hi)) (fun i hi => List.mem_range.1 hi), by simp, fun i y hy => ?_⟩
      have hlt : i < len := by have := (List.getElem?_eq_some_iff.1 hy).1; simpa using this
      rw [List.getElem?_pmap] at hy
      simp [hlt] at hy
      subst hy
      exact Classical.choose_spec (hit i hlt)
    refine ⟨some a, cap, l, by rw [hll], by omega, fun i y hy => ?_⟩
    obtain ⟨ys, hys, hc, hq⟩ := hlg i y hy
    obtain ⟨b, o, spot⟩ := a
    obtain ⟨y0, hy0⟩ : ∃ y0, l[0]? = some y0 := ⟨_, List.getElem?_eq_getElem (by have := (List.getElem?_eq_some_iff.1 hy).1; omega)⟩
    obtain ⟨ys0, hys0, hc0, _⟩ := hlg 0 y0 hy0
    have h0 := hc0 0 hn0
    rw [List.getElem?_eq_getElem (by omega)] at h0
    have hs : spot = none := by simpa [Addr.add] using World.cell?_spot h0
    subst hs
    refine ⟨b, o, ys, rfl, fun j v hv => ?_, hq⟩
    have hj : j < n := by have := (List.getElem?_eq_some_iff.1 hv).1; omega
    have := hc j hj
    rw [add_plain, add_plain, hv] at this
    rw [show o + (i * n + j) = o + i * n + j by omega]
    exact this
set_option maxRecDepth 100000 in
theorem open_ints6 {fuel : Nat} {cs : List Value} {x : DataW H × List MemPlace} (h : DataW.trod enc Tryz.prog w base spare held fuel 22 cs = some x) : ∃ v l, cs = [v] ∧ IntsA w v l := by
  obtain ⟨ao, cap, l, rfl, hl, hi⟩ := open_rowG (fun cs (s : Int) => cs = [.int .i64 s]) Tryz.underlying22 (show Tryz.prog.cellsOf 3 = 1 by kernel_rfl) (by decide) (fun fuel cs x _ h => by
    obtain ⟨s, h1, _, h2⟩ := DataW.trod_int Tryz.underlying3 h
    exact ⟨s, h1⟩) h
  refine ⟨_, l, rfl, ao, cap, rfl, hl, fun i x hx => ?_⟩
  obtain ⟨b, o, ys, h1, h2, rfl⟩ := hi i x hx
  have := h2 0 _ rfl
  simp at this
  exact ⟨b, o, h1, this⟩
set_option maxRecDepth 100000 in
theorem open_seed6 {r : Reach} {b0 : Nat} {v : Value} {d : DataW H} {ps : List MemPlace} (hval : Value.okWide Tryz.prog w r b0 24 v) (h : DataW.Trod enc Tryz.prog w base spare held 24 v d ps) : ∃ (S : SeedM) (vv vk vp : Value), v = .agg #[.int .i64 S.lang, .int .i64 S.extl, .int .i64 S.script, .int .i64 S.region, vv, vk, vp, .int .i64 S.odd] ∧ IntsA w vv S.vars ∧ IntsA w vk S.keys ∧ IntsA w vp S.priv ∧ -9223372036854775808 ≤ S.extl ∧ S.extl ≤ 9223372036854775807 := by
  obtain ⟨cs, rfl, hsz⟩ := okWide_struct Tryz.underlying24 hval
  rw [show Tryz.prog.cellsOf 24 = 8 by kernel_rfl] at hsz
  obtain ⟨fuel, hf0⟩ := h
  obtain ⟨xs, n, _, _, _, hxl, hf⟩ := DataW.trod_struct Tryz.underlying24 hf0
  have hx8 : xs.length = 8 := hxl
  obtain ⟨l⟩ := cs
  match l, hsz with
  | [a0, a1, a2, a3, a4, a5, a6, a7], _ =>
    have f0 := hf 0 _ rfl
    have f1 := hf 1 _ rfl
    have f2 := hf 2 _ rfl
    have f3 := hf 3 _ rfl
    have f4 := hf 4 _ rfl
    have f5 := hf 5 _ rfl
    have f6 := hf 6 _ rfl
    have f7 := hf 7 _ rfl
    rw [List.getElem?_eq_getElem (by omega)] at f0 f1 f2 f3 f4 f5 f6 f7
    obtain ⟨s0, g0, _, z0⟩ := DataW.trod_int Tryz.underlying3 f0
    have e0 : a0 = .int .i64 s0 := by
      have q : List.take (Tryz.prog.cellsOf 3) (List.drop 0 [a0, a1, a2, a3, a4, a5, a6, a7]) = [a0] := by rw [show Tryz.prog.cellsOf 3 = 1 by kernel_rfl]; rfl
      exact (List.cons.inj (q.symm.trans g0)).1
    obtain ⟨s1, g1, _, z1⟩ := DataW.trod_int Tryz.underlying3 f1
    have e1 : a1 = .int .i64 s1 := by
      have q : List.take (Tryz.prog.cellsOf 3) (List.drop 1 [a0, a1, a2, a3, a4, a5, a6, a7]) = [a1] := by rw [show Tryz.prog.cellsOf 3 = 1 by kernel_rfl]; rfl
      exact (List.cons.inj (q.symm.trans g1)).1
    obtain ⟨s2, g2, _, z2⟩ := DataW.trod_int Tryz.underlying3 f2
    have e2 : a2 = .int .i64 s2 := by
      have q : List.take (Tryz.prog.cellsOf 3) (List.drop 2 [a0, a1, a2, a3, a4, a5, a6, a7]) = [a2] := by rw [show Tryz.prog.cellsOf 3 = 1 by kernel_rfl]; rfl
      exact (List.cons.inj (q.symm.trans g2)).1
    obtain ⟨s3, g3, _, z3⟩ := DataW.trod_int Tryz.underlying3 f3
    have e3 : a3 = .int .i64 s3 := by
      have q : List.take (Tryz.prog.cellsOf 3) (List.drop 3 [a0, a1, a2, a3, a4, a5, a6, a7]) = [a3] := by rw [show Tryz.prog.cellsOf 3 = 1 by kernel_rfl]; rfl
      exact (List.cons.inj (q.symm.trans g3)).1
    obtain ⟨v4, r4, g4, z4⟩ := open_ints6 f4
    have e4 : a4 = v4 := by
      have q : List.take (Tryz.prog.cellsOf 22) (List.drop 4 [a0, a1, a2, a3, a4, a5, a6, a7]) = [a4] := by rw [show Tryz.prog.cellsOf 22 = 1 by kernel_rfl]; rfl
      exact (List.cons.inj (q.symm.trans g4)).1
    obtain ⟨v5, r5, g5, z5⟩ := open_ints6 f5
    have e5 : a5 = v5 := by
      have q : List.take (Tryz.prog.cellsOf 22) (List.drop 5 [a0, a1, a2, a3, a4, a5, a6, a7]) = [a5] := by rw [show Tryz.prog.cellsOf 22 = 1 by kernel_rfl]; rfl
      exact (List.cons.inj (q.symm.trans g5)).1
    obtain ⟨v6, r6, g6, z6⟩ := open_ints6 f6
    have e6 : a6 = v6 := by
      have q : List.take (Tryz.prog.cellsOf 22) (List.drop 6 [a0, a1, a2, a3, a4, a5, a6, a7]) = [a6] := by rw [show Tryz.prog.cellsOf 22 = 1 by kernel_rfl]; rfl
      exact (List.cons.inj (q.symm.trans g6)).1
    obtain ⟨s7, g7, _, z7⟩ := DataW.trod_int Tryz.underlying3 f7
    have e7 : a7 = .int .i64 s7 := by
      have q : List.take (Tryz.prog.cellsOf 3) (List.drop 7 [a0, a1, a2, a3, a4, a5, a6, a7]) = [a7] := by rw [show Tryz.prog.cellsOf 3 = 1 by kernel_rfl]; rfl
      exact (List.cons.inj (q.symm.trans g7)).1
    subst e0 e1 e2 e3 e4 e5 e6 e7
    exact ⟨⟨s0, s1, s2, s3, r4, r5, r6, s7⟩, a4, a5, a6, rfl, z4, z5, z6, bounds_i64 z1⟩
end
end Go.Proofs.YtpnhjpplfjamkaaGreatDoor

namespace Go.Proofs.YtpnhjpplfjamkaaGreatDoor
open Go.ChangeShapes Go.WideShapes Go.ChangeAt Go.RowKit Go.Deep

/-- What the condition gives a walk. -/
theorem parseLaid_of {W : World} (h : laidMetH Tryz.prog laid7 W) : ParseLaid W := by
  have h' : laidMet Tryz.prog [("isogloss/grand.tags", Rows.laid_isogloss_grand_tags)] W ∧ handlesMet Tryz.prog [("errors.errorType", Rows.laid_errors_errorType)] W := h
  refine ⟨typeLaid_of ⟨laidMet_nil _ _, h'.2⟩, gl_of_laid ?_⟩
  rw [MakeChecks.laidMetH_plain _ _ _ (by kernel_rfl)]
  exact h'.1
end Go.Proofs.YtpnhjpplfjamkaaGreatDoor

namespace Go.Proofs.YtpnhjpplfjamkaaGreatDoor
open Go Go.RowKit

theorem rest_cells {w : World} {B : Nat} {t : TypeId} {a0 a1 a2 a3 a4 a5 a6 a7 a8 : Value} (h : w.heap[B]? = some (.cells #[a0, a1, a2, a3, a4, a5, a6, a7, a8] t (0, 0))) :
    w.cell? ⟨B, 0, none⟩ = some a0 ∧ w.cell? ⟨B, 1, none⟩ = some a1 ∧ w.cell? ⟨B, 2, none⟩ = some a2 ∧ w.cell? ⟨B, 3, none⟩ = some a3 ∧ w.cell? ⟨B, 4, none⟩ = some a4 ∧ w.cell? ⟨B, 5, none⟩ = some a5 ∧ w.cell? ⟨B, 6, none⟩ = some a6 ∧ w.cell? ⟨B, 7, none⟩ = some a7 ∧ w.cell? ⟨B, 8, none⟩ = some a8 :=
  ⟨rd_cell 0 h rfl, rd_cell 1 h rfl, rd_cell 2 h rfl, rd_cell 3 h rfl, rd_cell 4 h rfl, rd_cell 5 h rfl, rd_cell 6 h rfl, rd_cell 7 h rfl, rd_cell 8 h rfl⟩
theorem rest_wide (s : ByteArray) (hs : s.size ≤ 40000) : TagWide (restS s).1 := by
  unfold restS
  split
  · unfold TagWide pNo; simp
  · obtain ⟨hb, hp⟩ := (first_ok s).2 (by omega)
    have h := parse_wide (s.extract 0 (firstP s).2) (by rw [ByteArray.size_extract]; omega)
    rw [hp] at h
    exact h
set_option maxRecDepth 100000 in
set_option maxHeartbeats 4000000 in
theorem first7_any (s : ByteArray) (w : World) (hs : s.size ≤ 40000) (hg : GL w) :
    Calls Tryz.prog 15 #[.string s] w fun e w' => e = .returned (.bool true) ∧ Below w.heap.size w w' := by
  have FO := Lib.hid ((first_own s w hs hg).mono (R' := fun e w' => ∃ f1 f2 f3 f4 f5 f6 f7 f8, e = .returned (.tuple #[.agg #[.string (restS s).1.lang, .slice f1 (restS s).1.extl.length f2, .string (restS s).1.script, .string (restS s).1.region, .slice f3 (restS s).1.vars.length f4, .slice f5 (restS s).1.exts.length f6, .slice f7 (restS s).1.priv.length f8, .string (restS s).1.grand], .string (restS s).2]) ∧ TagIs w' (.agg #[.string (restS s).1.lang, .slice f1 (restS s).1.extl.length f2, .string (restS s).1.script, .string (restS s).1.region, .slice f3 (restS s).1.vars.length f4, .slice f5 (restS s).1.exts.length f6, .slice f7 (restS s).1.priv.length f8, .string (restS s).1.grand]) (restS s).1 ∧ Below w.heap.size w w') fun e w' ⟨tv, p, q, r⟩ => by
    obtain ⟨ae, ac, av, vc, ax, xc, ap, pc, rfl⟩ := tag_shape q
    exact ⟨ae, ac, av, vc, ax, xc, ap, pc, p, q, r⟩)
  have FR := Lib.hid (fun w5 => (first_ref s w5 hs).mono (R' := fun e w' => ∃ g1 g2 g3 g4 g5 g6 g7 g8, e = .returned (.agg #[.string (restS s).1.lang, .slice g1 (restS s).1.extl.length g2, .string (restS s).1.script, .string (restS s).1.region, .slice g3 (restS s).1.vars.length g4, .slice g5 (restS s).1.exts.length g6, .slice g7 (restS s).1.priv.length g8, .string (restS s).1.grand, .string (restS s).2]) ∧ TagIs w' (.agg #[.string (restS s).1.lang, .slice g1 (restS s).1.extl.length g2, .string (restS s).1.script, .string (restS s).1.region, .slice g3 (restS s).1.vars.length g4, .slice g5 (restS s).1.exts.length g6, .slice g7 (restS s).1.priv.length g8, .string (restS s).1.grand]) (restS s).1 ∧ Below w5.heap.size w5 w') fun e w' ⟨v, p, q0, r⟩ => by
    obtain ⟨g1, g2, g3, g4, g5, g6, g7, g8, rfl, q⟩ := q0
    exact ⟨g1, g2, g3, g4, g5, g6, g7, g8, p, q, r⟩)
  have HWD := Lib.hid (rest_wide s hs)
  obtain ⟨⟨T, S⟩, hR⟩ : ∃ r, restS s = r := ⟨_, rfl⟩
  rw [hR] at FO FR HWD
  dsimp only at FO FR HWD
  clear hR hs hg
  go_enter Tryz.func15, Tryz.ntmps15
  go_upto_region 2 with (go_at_call 33; (with_reducible refine FO.out.mono ?_); rintro e w1 ⟨f1, f2, f3, f4, f5, f6, f7, f8, rfl, hI1, hb1⟩)
  obtain ⟨W2, hW2⟩ : ∃ W, w1.alloc (.cells #[.string T.lang, .slice f1 T.extl.length f2, .string T.script, .string T.region, .slice f3 T.vars.length f4, .slice f5 T.exts.length f6, .slice f7 T.priv.length f8, .string T.grand] 31) = W := ⟨_, rfl⟩
  have hb2 : Below w1.heap.size w1 W2 := by rw [← hW2]; exact (Below.refl _ _).alloc (Nat.le_refl _) _
  have hX2 : W2.heap[w1.heap.size]? = some (.cells #[.string T.lang, .slice f1 T.extl.length f2, .string T.script, .string T.region, .slice f3 T.vars.length f4, .slice f5 T.exts.length f6, .slice f7 T.priv.length f8, .string T.grand] 31 (0, 0)) := by rw [← hW2]; exact World.alloc_heap_new w1 _
  rw [hW2]
  clear hW2
  go_upto_region 3 with (go_at_call 34; (with_reducible refine (FR.out _).mono ?_); rintro e w3 ⟨g1, g2, g3, g4, g5, g6, g7, g8, rfl, hI3, hb3⟩)
  obtain ⟨W4, hW4⟩ : ∃ W, w3.alloc (.cells #[.string T.lang, .slice g1 T.extl.length g2, .string T.script, .string T.region, .slice g3 T.vars.length g4, .slice g5 T.exts.length g6, .slice g7 T.priv.length g8, .string T.grand, .string S] 63) = W := ⟨_, rfl⟩
  have hb4 : Below w3.heap.size w3 W4 := by rw [← hW4]; exact (Below.refl _ _).alloc (Nat.le_refl _) _
  have hX4 : W4.heap[w3.heap.size]? = some (.cells #[.string T.lang, .slice g1 T.extl.length g2, .string T.script, .string T.region, .slice g3 T.vars.length g4, .slice g5 T.exts.length g6, .slice g7 T.priv.length g8, .string T.grand, .string S] 63 (0, 0)) := by rw [← hW4]; exact World.alloc_heap_new w3 _
  rw [hW4]
  clear hW4
  have hb24 : Below W2.heap.size W2 W4 := hb3.trans (hb4.mono hb3.size)
  have HX := Lib.hid (fun w' (h : Below W4.heap.size W4 w') => And.intro (tag_cells ((h.block _ (Nat.lt_of_lt_of_le (lt_of_heap hX2) hb24.size)).trans ((hb24.block _ (lt_of_heap hX2)).trans hX2))) (rest_cells ((h.block _ (lt_of_heap hX4)).trans hX4)))
  have SM := Lib.hid (same_wide (.agg #[.string T.lang, .slice f1 T.extl.length f2, .string T.script, .string T.region, .slice f3 T.vars.length f4, .slice f5 T.exts.length f6, .slice f7 T.priv.length f8, .string T.grand]) (.agg #[.string T.lang, .slice g1 T.extl.length g2, .string T.script, .string T.region, .slice g3 T.vars.length g4, .slice g5 T.exts.length g6, .slice g7 T.priv.length g8, .string T.grand]) T T W4 ((hI1.below hb2).below hb24) (hI3.below hb4) HWD.out)
  rw [sameT_self] at SM
  have HB4 := Lib.hid (hb1.trans ((hb2.trans (hb24.mono hb2.size)).mono hb1.size))
  have hs4 := HB4.out.size
  obtain ⟨⟨a0, a1, a2, a3, a4, a5, a6, a7⟩, ⟨c0, c1, c2, c3, c4, c5, c6, c7, c8⟩⟩ := HX.out W4 (Below.refl _ _)
  clear hX2 hX4 hb1 hb2 hb3 hb4 hb24 hI1 hI3
  go_wp2_with (go_at_call 29; (with_reducible refine SM.out.mono ?_); rintro e w5 ⟨rfl, hb5⟩; obtain ⟨⟨d0, d1, d2, d3, d4, d5, d6, d7⟩, ⟨e0, e1, e2, e3, e4, e5, e6, e7, e8⟩⟩ := HX.out _ hb5)
  go_ret
  exact ⟨rfl, HB4.out.trans (hb5.mono hs4)⟩

set_option maxRecDepth 100000 in
set_option maxHeartbeats 4000000 in
theorem parseFirst_law (SA : SeedM) (s : ByteArray) (va ka pa : Value) (w : World) (hs : s.size ≤ maxLen)
    (a1 : IntsA w va SA.vars) (a2 : IntsA w ka SA.keys) (a3 : IntsA w pa SA.priv) (a4 : -9223372036854775808 ≤ SA.extl) (a5 : SA.extl ≤ 9223372036854775807) (hl : ParseLaid w) :
    Calls Tryz.prog 4 #[.string s, .agg #[.int .i64 SA.lang, .int .i64 SA.extl, .int .i64 SA.script, .int .i64 SA.region, va, ka, pa, .int .i64 SA.odd]] w fun e w' => e = .returned (.bool true) ∧ Below w.heap.size w w' := by
  obtain ⟨W2, hW2⟩ : ∃ W2, w.alloc (.cells #[.int .i64 SA.lang, .int .i64 SA.extl, .int .i64 SA.script, .int .i64 SA.region, va, ka, pa, .int .i64 SA.odd] 24) = W2 := ⟨_, rfl⟩
  have hb2 : Below w.heap.size w W2 := by rw [← hW2]; exact (Below.refl _ w).alloc (Nat.le_refl _) _
  have hA : W2.heap[w.heap.size]? = some (.cells #[.int .i64 SA.lang, .int .i64 SA.extl, .int .i64 SA.script, .int .i64 SA.region, va, ka, pa, .int .i64 SA.odd] 24 (0, 0)) := by rw [← hW2]; exact World.alloc_heap_new w _
  have hlA := lt_of_heap hA
  have HC := Lib.hid (fun (w' : World) (hb : Below W2.heap.size W2 w') => tag_cells ((hb.block _ hlA).trans hA))
  have HB2 := Lib.hid hb2
  have hl2 := hl.below hb2
  have AW := Lib.hid (awakeP_law W2 hl2)
  have hc80 := size_cut80 s
  have SH := Lib.hid (fun w5 => short7_any s w5 hs)
  have FL := Lib.hid (fun (t : ByteArray) (ht : t.size ≤ 40000) w5 (hb : Below W2.heap.size W2 w5) => (first7_any t w5 ht (hl2.below hb).g).mono (R' := fun e w7 => e = .returned (.bool true) ∧ Below W2.heap.size W2 w7) fun e w7 ⟨p, q⟩ => ⟨p, hb.trans (q.mono hb.size)⟩)
  have fA := madeT_tiny SA
  have MZ := Lib.hid (fun w5 (hb : Below W2.heap.size W2 w5) => (made_any SA va ka pa w5 ((a1.below hb2).below hb) ((a2.below hb2).below hb) ((a3.below hb2).below hb) a4 a5).mono (R' := fun e w7 => ∃ f1 f2 f3 f4 f5 f6 f7 f8, e = .returned (.agg #[.string (madeT SA).lang, .slice f1 (madeT SA).extl.length f2, .string (madeT SA).script, .string (madeT SA).region, .slice f3 (madeT SA).vars.length f4, .slice f5 (madeT SA).exts.length f6, .slice f7 (madeT SA).priv.length f8, .string (madeT SA).grand]) ∧ TagIs w7 (.agg #[.string (madeT SA).lang, .slice f1 (madeT SA).extl.length f2, .string (madeT SA).script, .string (madeT SA).region, .slice f3 (madeT SA).vars.length f4, .slice f5 (madeT SA).exts.length f6, .slice f7 (madeT SA).priv.length f8, .string (madeT SA).grand]) (madeT SA) ∧ Below W2.heap.size W2 w7) fun e w7 ⟨u, p, q, r⟩ => by
    obtain ⟨ae, ac, av, vc, ax, xc, ap, pc, rfl⟩ := tag_shape q
    exact ⟨ae, ac, av, vc, ax, xc, ap, pc, p, q, hb.trans (r.mono hb.size)⟩)
  have htx := text_size3 fA
  have TZ := Lib.hid (fun w5 (v : Value) (hT : TagIs w5 v (madeT SA)) (hb : Below W2.heap.size W2 w5) => (text_ref v (madeT SA) w5 hT fA).mono (R' := fun e w7 => e = .returned (.string (joinS (subtagsT (madeT SA)))) ∧ Below W2.heap.size W2 w7) fun e w7 ⟨p, q⟩ => ⟨p, hb.trans (q.mono hb.size)⟩)
  have hs2 := hb2.size
  clear a1 a2 a3 a4 a5 hs hA hb2 hl hl2 fA
  generalize joinS (subtagsT (madeT SA)) = tx at *
  generalize madeT SA = TA at *
  generalize cut80 s = c80 at *
  have hc4 : c80.size ≤ 40000 := by omega
  have ht4 : tx.size ≤ 40000 := by omega
  have o1 : ¬ 9223372036854775807 < tx.size + ({ data := #[45] } : ByteArray).size := by show ¬ 9223372036854775807 < tx.size + 1; omega
  have hx4 : (tx ++ { data := #[45] } ++ c80).size ≤ 40000 := by rw [ByteArray.size_append, ByteArray.size_append]; show tx.size + 1 + c80.size ≤ 40000; omega
  have o2 : ¬ 9223372036854775807 < (tx ++ { data := #[45] }).size + c80.size := by rw [ByteArray.size_append]; show ¬ 9223372036854775807 < tx.size + 1 + c80.size; omega
  have hx5 : (tx ++ c80).size ≤ 40000 := by rw [ByteArray.size_append]; omega
  have o3 : ¬ 9223372036854775807 < tx.size + c80.size := by omega
  go_enter Tryz.func4, Tryz.ntmps4
  go_upto_region 1 with fail
  clear hW2
  go_upto_region 4 with (first
    | (go_at_call 5; (with_reducible refine AW.out.mono ?_); rintro e w5 ⟨rfl, hb5⟩; obtain ⟨m0, m1, m2, m3, m4, m5, m6, m7⟩ := HC.out _ hb5)
    | (go_at_call 12; (with_reducible refine (SH.out _).mono ?_); rintro e w13 ⟨rfl, rfl⟩)
    | (go_at_call 7; (with_reducible refine (MZ.out _ (by assumption)).mono ?_); rintro e w8 ⟨f1, f2, f3, f4, f5, f6, f7, f8, rfl, hI8, hb8⟩; have TX := Lib.hid (TZ.out w8 _ hI8 hb8))
    | (go_at_call 6; (with_reducible refine TX.out.mono ?_); rintro e w9 ⟨rfl, hb9⟩))
  clear m0 m1 m2 m3 m4 m5 m6 m7
  go_wp2_with (go_at_call 15; (with_reducible refine (FL.out _ (by assumption) _ (by assumption)).mono ?_); rintro e w14 ⟨rfl, hb14⟩)
  go_ret
  exact ⟨rfl, HB2.out.trans (hb14.mono hs2)⟩
end Go.Proofs.YtpnhjpplfjamkaaGreatDoor

namespace Go.Proofs.YtpnhjpplfjamkaaGreatDoor
open Go.ChangeShapes Go.WideShapes Go.ChangeAt Go.ChangeMaps Go.RowKit

theorem parseFirst_own : ownKnob Tryz.prog.godebug = none := by kernel_rfl

set_option maxRecDepth 100000 in
theorem parseFirst_lifted (os : Os) (started : os.Started) (H : Type) (enc : TypeId × Value → H) :
    ReturnsInHanded {} Tryz.checked os 4 .any (fun w args => (Rows.parseFirstSpec.pre enc Tryz.prog Tryz.f4 [] false w args ∧ laidMetH Tryz.prog laid7 w) ∧ sizedMet enc Tryz.prog Tryz.f4 (OpenSpec.ofChange Rows.parseFirstSpec) false w args)
      (Rows.parseFirstSpec.post enc Tryz.prog Tryz.f4 false true false false) := by
  refine returnsInHanded_of_change_and (C := Tryz.checked) (X := fun w _ => laidMetH Tryz.prog laid7 w) (fun _ _ _ hh h => h.of_heap hh) parseFirst_own started (by kernel_rfl) Tryz.func4
    (ChangeSpec.witness_at (enc := enc) (C := Tryz.checked) (os := os) (X := fun w _ => laidMetH Tryz.prog laid7 w) false (laidWorld7 os) #[.string ByteArray.empty, .agg #[.int .i64 0, .int .i64 0, .int .i64 0, .int .i64 0, .slice none 0 0, .slice none 0 0, .slice none 0 0, .int .i64 0]] 8 rfl (by kernel_rfl) (by kernel_rfl) (by kernel_rfl) (by kernel_rfl) (by kernel_rfl) (laidWorld7_met os _)) ?_
  intro W base args ds gs before hval0 hW _ _ hL _
  have hval : ∀ (j : Nat) t v, Tryz.f4.params[j]? = some t → args[j]? = some v → Value.okWide Tryz.prog W .any base t v := hval0
  have hW' := hW
  obtain ⟨p, q, hA0, hV, rfl, hfz, hnd⟩ := hW
  have hA : DataW.TrodAll enc Tryz.prog W 0 (fun _ => true) true Tryz.f4.params.toList args.toList ds p := hA0
  rw [Tryz.params4] at hA hval
  obtain ⟨v0, vs0, d0, ds0, p0, q0, hargs, rfl, rfl, h0, r0⟩ := trodAll_cons hA
  obtain ⟨v1, vs1, d1, ds1, p1, q1, rfl, rfl, rfl, h1, r1⟩ := trodAll_cons r0
  obtain ⟨rfl, rfl, rfl⟩ := trodAll_nil r1
  obtain rfl : args = #[v0, v1] := by cases args; simp_all
  obtain ⟨rfl, rfl⟩ := trodVars_none hV
  obtain ⟨a0, rfl, rfl, rfl, w0⟩ := open_string Tryz.underlying9 (hval 0 9 v0 rfl rfl) h0
  have k1 := h1
  have lt1 : ∀ x ∈ p1, x.block < W.heap.size := by obtain ⟨m, hm⟩ := k1; exact DataW.trod_lt m _ _ _ hm
  obtain ⟨S1, sv1, sk1, sp1, rfl, sa1, sb1, sc1, sd1, se1⟩ := open_seed6 (hval 1 24 v1 rfl rfl) h1
  clear hA0 hval0
  refine (parseFirst_law S1 a0 sv1 sk1 sp1 W w0 sa1 sb1 sc1 sd1 se1 (parseLaid_of hL)).mono fun e W' ⟨he, bel⟩ => ?_
  subst he
  exact ⟨_, rfl, _, _, _, [], _, [], hW', trodAll_mk1 (shut_bool Tryz.underlying4 _), (trodAll_cons_mk (shut_string Tryz.underlying9 w0) (trodAll_cons_mk (Below.trod laidOut6 (by kernel_rfl) (of_decide_eq_true (by kernel_rfl)) k1 bel lt1) trodAll_mk0)), rfl, bel.frame _, fun h => by cases h⟩

theorem parseFirst_over : Rows.ParseFirstSaid :=
  OpenClaim.holds_of_wide 4 Tryz.f4 rfl rfl rfl rfl rfl rfl rfl ⟨rfl, rfl, rfl, rfl, rfl⟩ rfl rfl rfl rfl rfl (by kernel_rfl) Tryz.func4 (by kernel_rfl)
    (of_decide_eq_true (by kernel_rfl)) (by unfold Func.isWrapper; rw [if_neg (of_decide_eq_false (by kernel_rfl))]; exact ⟨rfl, rfl⟩)
    (fun os started H enc _ => parseFirst_lifted os started H enc)

/-- The statement. -/
theorem parseFirst_holds : Rows.ParseFirstCardSaid :=
  Claim7.holds_tied_plain_at .later [] [.handle, .data] true (true, "b549b4faaeedf3a85bf19ecad0925fc333443318b7fc9e33cf84200e9ecbd053") true
    parseFirst_over (fun _ h => by cases h) (by kernel_rfl) (fun _ h => by cases h) parseFirst_row_tie rfl ⟨rfl, rfl⟩ (by kernel_rfl) rfl
    (fun f fn hf hfn => by
      obtain rfl : f = 4 := Option.some.inj ((show Tryz.prog.funcNamed "isogloss/isoglosslaw07.ParseFirst" = some 4 by kernel_rfl).symm.trans hf) |>.symm
      obtain rfl : fn = Tryz.f4 := (Option.some.inj (Tryz.func4.symm.trans hfn)).symm
      exact ⟨by kernel_rfl, fun j t ht => by
        rw [Tryz.params4] at ht
        have hm : t ∈ [9, 24] := by simpa using Array.mem_of_getElem? ht
        have hall : ([9, 24].all fun u => !Tryz.prog.wantsStandIn u) = true := by kernel_rfl
        exact (show Tryz.prog.wantsStandIn t = false by simpa using List.all_eq_true.1 hall t hm)⟩)
    (by kernel_rfl)
end Go.Proofs.YtpnhjpplfjamkaaGreatDoor
