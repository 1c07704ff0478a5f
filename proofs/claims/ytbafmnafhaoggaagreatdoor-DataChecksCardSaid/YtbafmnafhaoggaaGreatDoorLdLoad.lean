/-
  check.Load of any bytes.
-/
import Derived.Test.YtbafmnafhaoggaaGreatDoorODDec
import Derived.Test.YtbafmnafhaoggaaGreatDoorOMust
namespace Go.Proofs.YtbafmnafhaoggaaGreatDoor
open Go Go.RowKit

theorem cell_memL {W : World} {N i : Nat} {cs : Array Value} {t : TypeId} {x : Value} (hN : W.heap[N]? = some (.cells cs t (0, 0))) (h : W.cell? ⟨N, i, none⟩ = some x) : x ∈ cs.toList := by
  have h' : cs[i]? = some x := by simpa [World.cell?, hN] using h
  exact List.mem_of_getElem? (i := i) (by rw [Array.getElem?_toList]; exact h')
theorem RowC.keptL {W W' : World} {v : Value} {sz N : Nat} {L : List (List Value)} {cs : Array Value} {t : TypeId} (h : RowC W v sz L) (hg : W.grownBy W' (some N)) (hN : W.heap[N]? = some (.cells cs t (0, 0))) (hcs : ∀ s, Value.string s ∉ cs.toList) (hs : ∀ c ∈ L, ∃ (k : Nat) (s : ByteArray), c[k]? = some (.string s)) : RowC W' v sz L := by
  obtain ⟨ao, cap, e, hc⟩ := h
  refine ⟨ao, cap, e, fun i c hi => ?_⟩
  obtain ⟨g, o, e1, h2⟩ := hc i c hi
  obtain ⟨k0, s, hk0⟩ := hs c (List.mem_of_getElem? hi)
  have hne : g ≠ N := fun e => by
    subst e
    exact hcs s (cell_memL hN (h2 k0 _ hk0))
  refine ⟨g, o, e1, fun k x hk => ?_⟩
  have hx := h2 k x hk
  exact (World.cell?_of_block (a := ⟨g, o + i * sz + k, none⟩) (hg.block g (lt_cellZ hx) (fun e => hne (Option.some.inj e)))).trans hx
theorem ImR.keptL {W W' : World} {va vl vr vm : Value} {im : Im} {N : Nat} {cs : Array Value} {t : TypeId} (h : ImR W va vl vr vm im) (hg : W.grownBy W' (some N)) (hN : W.heap[N]? = some (.cells cs t (0, 0))) (hcs : ∀ s, Value.string s ∉ cs.toList) : ImR W' va vl vr vm im :=
  ⟨h.a.keptL hg hN hcs (fun c hc => by obtain ⟨x, -, rfl⟩ := List.mem_map.1 hc; exact ⟨1, x.a, rfl⟩), h.l.keptL hg hN hcs (fun c hc => by obtain ⟨x, -, rfl⟩ := List.mem_map.1 hc; exact ⟨0, x.l, rfl⟩),
    h.r.keptL hg hN hcs (fun c hc => by obtain ⟨x, -, rfl⟩ := List.mem_map.1 hc; exact ⟨3, x.d0, rfl⟩), h.m.keptL hg hN hcs (fun c hc => by obtain ⟨x, -, rfl⟩ := List.mem_map.1 hc; exact ⟨0, x.st, rfl⟩)⟩
theorem zero_noL : ∀ s : ByteArray, Value.string s ∉ (#[.slice none 0 0, .slice none 0 0, .slice none 0 0, .slice none 0 0, .int .i64 0, .int .i64 0] : Array Value).toList := fun s h => by simp at h

/-- What Load answers. -/
def LoadQ (b : ByteArray) (w' : World) (e : Ending) : Prop :=
  ((decOk b ∧ chkE (unpI b) = none) ∧ ∃ v1 v2 v3 v4, e = .returned (.tuple #[.agg #[v1, v2, v3, v4, .int .i64 (unpI b).th, .int .i64 (unpI b).de], .nilIface]) ∧ ImR w' v1 v2 v3 v4 (unpI b)) ∨
  (¬ (decOk b ∧ chkE (unpI b) = none) ∧ ∃ v k p s, e = .returned (.tuple #[ZIm, v]) ∧ FaultZ w' v k p s)
set_option maxRecDepth 100000 in
set_option maxHeartbeats 8000000 in
theorem load_any (b : ByteArray) (w : World) (hbs : b.size ≤ 1048576) (hg : GL w) :
    Calls Tryz.prog 6 #[.string b] w fun e w' => LoadQ b w' e ∧ Below w.heap.size w w' := by
  have hgs := hg.size
  obtain ⟨W1, hW1⟩ : ∃ x, w.alloc (.cells #[.slice none 0 0, .slice none 0 0, .slice none 0 0, .slice none 0 0, .int .i64 0, .int .i64 0] 29) = x := ⟨_, rfl⟩
  have hb1 : Below w.heap.size w W1 := by rw [← hW1]; exact (Below.refl _ w).alloc (Nat.le_refl _) _
  have hA : W1.heap[w.heap.size]? = some (.cells #[.slice none 0 0, .slice none 0 0, .slice none 0 0, .slice none 0 0, .int .i64 0, .int .i64 0] 29 (0, 0)) := by rw [← hW1]; exact World.alloc_heap_new w _
  have hAl := lt_of_block hA
  have HD := Lib.hid (decode_im b W1 hbs (hg.below hb1 hgs))
  have HA := Lib.hid hA
  have HB1 := Lib.hid hb1
  have HG := Lib.hid (And.intro hg hgs)
  have hsm := unpI_small b
  have HQ := Lib.hid (show ∀ w' e, LoadQ b w' e = (((decOk b ∧ chkE (unpI b) = none) ∧ ∃ v1 v2 v3 v4, e = .returned (.tuple #[.agg #[v1, v2, v3, v4, .int .i64 (unpI b).th, .int .i64 (unpI b).de], .nilIface]) ∧ ImR w' v1 v2 v3 v4 (unpI b)) ∨ (¬ (decOk b ∧ chkE (unpI b) = none) ∧ ∃ v k p s, e = .returned (.tuple #[ZIm, v]) ∧ FaultZ w' v k p s)) from fun _ _ => rfl)
  clear hA hb1 hg hgs
  go_enter Tryz.func6, Tryz.ntmps6
  go_upto_region 1 with fail
  clear hW1
  by_cases hok : decOk b
  · have HZ1 := Lib.hid (HD.out.mono (R' := fun e w' => ∃ a1 c1 a2 c2 a3 c3 a4 c4, e = .returned (.tuple #[.agg #[.slice a1 (cntN (unpI b) 0) c1, .slice a2 (cntN (unpI b) 1) c2, .slice a3 (cntN (unpI b) 2) c3, .slice a4 (cntN (unpI b) 3) c4, .int .i64 (unpI b).th, .int .i64 (unpI b).de], .nilIface]) ∧ ImR w' (.slice a1 (cntN (unpI b) 0) c1) (.slice a2 (cntN (unpI b) 1) c2) (.slice a3 (cntN (unpI b) 2) c3) (.slice a4 (cntN (unpI b) 3) c4) (unpI b) ∧ Below W1.heap.size W1 w') fun e w' ⟨hD, hb⟩ => by
      rcases hD with ⟨-, v1, v2, v3, v4, rfl, hJ⟩ | ⟨hno, -⟩
      · obtain ⟨e1, f1, e2, f2, e3, f3, e4, f4, rfl, rfl, rfl, rfl⟩ := hJ.slices
        exact ⟨_, _, _, _, _, _, _, _, rfl, hJ, hb⟩
      · exact (hno hok).elim)
    have HOK := Lib.hid hok
    clear hok HD
    generalize unpI b = im at *
    go_upto_region 2 with (go_at_call 12; (with_reducible refine HZ1.out.mono ?_); rintro e w2 ⟨a1, c1, a2, c2, a3, c3, a4, c4, rfl, hR2, hb2⟩)
    obtain ⟨W3, hW3⟩ : ∃ x, w2.alloc (.cells #[.slice a1 (cntN im 0) c1, .slice a2 (cntN im 1) c2, .slice a3 (cntN im 2) c3, .slice a4 (cntN im 3) c4, .int .i64 im.th, .int .i64 im.de] 29) = x := ⟨_, rfl⟩
    have hA3 : W3.heap[w2.heap.size]? = some (.cells #[.slice a1 (cntN im 0) c1, .slice a2 (cntN im 1) c2, .slice a3 (cntN im 2) c3, .slice a4 (cntN im 3) c4, .int .i64 im.th, .int .i64 im.de] 29 (0, 0)) := by rw [← hW3]; exact World.alloc_heap_new _ _
    have hb3 : Below w2.heap.size w2 W3 := by rw [← hW3]; exact (Below.refl _ w2).alloc (Nat.le_refl _) _
    rw [hW3]
    clear hW3
    have hN3 : W3.heap[w.heap.size]? = some (.cells #[.slice none 0 0, .slice none 0 0, .slice none 0 0, .slice none 0 0, .int .i64 0, .int .i64 0] 29 (0, 0)) := (hb3.block _ (Nat.lt_of_lt_of_le hAl hb2.size)).trans ((hb2.block _ hAl).trans HA.out)
    have hB3 : Below w.heap.size w W3 := (HB1.out.trans (hb2.mono HB1.out.size)).trans (hb3.mono (Nat.le_trans HB1.out.size hb2.size))
    have HR3 := Lib.hid (hR2.below hb3)
    have HC := Lib.hid (chkO_any a1 a2 a3 a4 c1 c2 c3 c4 im W3 HR3.out hsm (HG.out.1.below hB3 HG.out.2))
    have hlt3 := lt_of_block hA3
    have hne : w.heap.size < w2.heap.size := Nat.lt_of_lt_of_le hAl hb2.size
    have HA3 := Lib.hid hA3
    have HN3 := Lib.hid hN3
    have HB3 := Lib.hid hB3
    obtain ⟨z0, z1, z2, z3, z4, z5⟩ := cells6 hA3
    clear hR2 hb2 hb3 hA3 hN3 hB3 HA HB1 HG HZ1 hAl hsm
    cases hce : chkE im with
    | none =>
      rw [hce] at HC
      have HYES := Lib.hid (show decOk b ∧ chkE im = none from ⟨HOK.out, hce⟩)
      clear hce
      go_upto_region 7 with (go_at_call 7; (with_reducible refine HC.out.mono ?_); rintro e w4 ⟨v, rfl, hz, hb4⟩; obtain rfl : v = .nilIface := hz; have hN4 := (hb4.block _ (Nat.lt_trans hne hlt3)).trans HN3.out; have hA4 := (hb4.block _ hlt3).trans HA3.out; have HB4 := Lib.hid (HB3.out.trans (hb4.mono HB3.out.size)); have HB4l := Lib.hid hb4; clear hb4)
      obtain ⟨j0, j1, j2, j3, j4, j5⟩ := cells6 hA4
      obtain ⟨⟨n0, n1, n2, n3, n4, n5⟩, f0, f1, f2, f3, f4, f5⟩ := al_cells hN4
      have HS := Lib.hid (al_store hN4 (.slice a1 (cntN im 0) c1) (.slice a2 (cntN im 1) c2) (.slice a3 (cntN im 2) c3) (.slice a4 (cntN im 3) c4) (.int .i64 im.th) (.int .i64 im.de))
      have HM := Lib.hid ((HR3.out.below HB4l.out).keptL (al_storeG w4 w.heap.size (.slice a1 (cntN im 0) c1) (.slice a2 (cntN im 1) c2) (.slice a3 (cntN im 2) c3) (.slice a4 (cntN im 3) c4) (.int .i64 im.th) (.int .i64 im.de)) hN4 zero_noL)
      clear hA4 hN4
      go_wp2
      refine bodyPost_ret (results_cell_tmpD rfl _ _ w.heap.size 29 _ (0, 0) _ _ rfl rfl HS.out.1 Tryz.underlying29 rfl sizeImD) rfl ?_
      rw [HQ.out]
      exact ⟨.inl ⟨HYES.out, _, _, _, _, rfl, HM.out⟩, HB4.out.trans (HS.out.2 _ (Nat.le_refl _))⟩
    | some t =>
      obtain ⟨tk, tp, ts⟩ := t
      rw [hce] at HC
      have HNO := Lib.hid (show ¬ (decOk b ∧ chkE im = none) from fun h => by have := h.2; rw [hce] at this; cases this)
      clear hce
      go_upto_region 6 with (go_at_call 7; (with_reducible refine HC.out.mono ?_); rintro e w4 ⟨v, rfl, hz, hb4⟩; obtain ⟨bf, rfl, hbf⟩ : FaultZ w4 v tk tp ts := hz; have hN4 := (hb4.block _ (Nat.lt_trans hne hlt3)).trans HN3.out; have HB4 := Lib.hid (HB3.out.trans (hb4.mono HB3.out.size)); have HBF := Lib.hid hbf; clear hb4 hbf)
      obtain ⟨⟨n0, n1, n2, n3, n4, n5⟩, f0, f1, f2, f3, f4, f5⟩ := al_cells hN4
      have HS := Lib.hid (al_store hN4 (.slice none 0 0) (.slice none 0 0) (.slice none 0 0) (.slice none 0 0) (.int .i64 0) (.int .i64 0))
      have HV := Lib.hid (FaultZ.keptD (⟨bf, rfl, HBF.out⟩ : FaultZ w4 (.iface 126 (.pointer (some ⟨bf, 0, none⟩))) tk tp ts) (al_storeG w4 w.heap.size (.slice none 0 0) (.slice none 0 0) (.slice none 0 0) (.slice none 0 0) (.int .i64 0) (.int .i64 0)) hN4 rfl)
      clear hN4
      go_wp2
      refine bodyPost_ret (results_cell_tmpD rfl _ _ w.heap.size 29 _ (0, 0) _ _ rfl rfl HS.out.1 Tryz.underlying29 rfl sizeImD) rfl ?_
      rw [HQ.out]
      exact ⟨.inr ⟨HNO.out, _, _, _, _, rfl, HV.out⟩, HB4.out.trans (HS.out.2 _ (Nat.le_refl _))⟩
  · have HZ2 := Lib.hid (HD.out.mono (R' := fun e w' => ∃ bf, e = .returned (.tuple #[.agg #[.slice none 0 0, .slice none 0 0, .slice none 0 0, .slice none 0 0, .int .i64 0, .int .i64 0], .iface 126 (.pointer (some ⟨bf, 0, none⟩))]) ∧ FaultZ w' (.iface 126 (.pointer (some ⟨bf, 0, none⟩))) 12 0 IMAGE ∧ Below W1.heap.size W1 w') fun e w' ⟨hD, hb⟩ => by
      rcases hD with ⟨hyes, -⟩ | ⟨-, v, rfl, hv⟩
      · exact (hok hyes).elim
      · obtain ⟨bf, rfl, hbf⟩ := hv
        exact ⟨bf, rfl, ⟨bf, rfl, hbf⟩, hb⟩)
    have HNO := Lib.hid (show ¬ (decOk b ∧ chkE (unpI b) = none) from fun h => hok h.1)
    clear hok HD hsm
    go_upto_region 2 with (go_at_call 12; (with_reducible refine HZ2.out.mono ?_); rintro e w2 ⟨bf, rfl, hF2, hb2⟩)
    obtain ⟨W3, hW3⟩ : ∃ x, w2.alloc (.cells #[.slice none 0 0, .slice none 0 0, .slice none 0 0, .slice none 0 0, .int .i64 0, .int .i64 0] 29) = x := ⟨_, rfl⟩
    have hb3 : Below w2.heap.size w2 W3 := by rw [← hW3]; exact (Below.refl _ w2).alloc (Nat.le_refl _) _
    rw [hW3]
    clear hW3
    have hN3 : W3.heap[w.heap.size]? = some (.cells #[.slice none 0 0, .slice none 0 0, .slice none 0 0, .slice none 0 0, .int .i64 0, .int .i64 0] 29 (0, 0)) := (hb3.block _ (Nat.lt_of_lt_of_le hAl hb2.size)).trans ((hb2.block _ hAl).trans HA.out)
    have HB3 := Lib.hid ((HB1.out.trans (hb2.mono HB1.out.size)).trans (hb3.mono (Nat.le_trans HB1.out.size hb2.size)))
    obtain ⟨⟨n0, n1, n2, n3, n4, n5⟩, f0, f1, f2, f3, f4, f5⟩ := al_cells hN3
    have HS := Lib.hid (al_store hN3 (.slice none 0 0) (.slice none 0 0) (.slice none 0 0) (.slice none 0 0) (.int .i64 0) (.int .i64 0))
    have HV := Lib.hid (FaultZ.keptD (hF2.below hb3) (al_storeG W3 w.heap.size (.slice none 0 0) (.slice none 0 0) (.slice none 0 0) (.slice none 0 0) (.int .i64 0) (.int .i64 0)) hN3 rfl)
    clear hN3 hF2 hb2 hb3 HA HB1 HG HZ2 hAl
    go_wp2
    refine bodyPost_ret (results_cell_tmpD rfl _ _ w.heap.size 29 _ (0, 0) _ _ rfl rfl HS.out.1 Tryz.underlying29 rfl sizeImD) rfl ?_
    rw [HQ.out]
    exact ⟨.inr ⟨HNO.out, _, _, _, _, rfl, HV.out⟩, HB3.out.trans (HS.out.2 _ (Nat.le_refl _))⟩
end Go.Proofs.YtbafmnafhaoggaaGreatDoor
