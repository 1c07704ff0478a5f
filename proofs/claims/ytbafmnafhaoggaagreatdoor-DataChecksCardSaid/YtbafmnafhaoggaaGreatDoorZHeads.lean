/-
  Package image: counts, what of an image can't be told by the first of its bytes, and these. What stays where a block of the call's own is stored into. (Printed by wip/gen_zparts.py.) Package image: the rows of a part, one behind the other.
-/
import Derived.Test.YtbafmnafhaoggaaGreatDoorZPacks
import Derived.Test.YtbafmnafhaoggaaGreatDoorWBuilds
/-! Package image: counts, what of an image can't be told by the first of its bytes, and these. -/
namespace Go.Proofs.YtbafmnafhaoggaaGreatDoor
open Go Go.RowKit

/-- An image in memory. -/
structure ImR (W : World) (va vl vr vm : Value) (im : Im) : Prop where
  a : RowC W va 6 (im.als.map alC)
  l : RowC W vl 6 (im.lks.map lkC)
  r : RowC W vr 9 (im.rls.map rlC)
  m : RowC W vm 2 (im.mbs.map mbC)
theorem ImR.below {W W' : World} {va vl vr vm : Value} {im : Im} (h : ImR W va vl vr vm im) (hb : Below W.heap.size W W') : ImR W' va vl vr vm im := ⟨h.a.below hb, h.l.below hb, h.r.below hb, h.m.below hb⟩
theorem ImR.slices {W : World} {va vl vr vm : Value} {im : Im} (h : ImR W va vl vr vm im) : ∃ a1 c1 a2 c2 a3 c3 a4 c4, va = .slice a1 (cntN im 0) c1 ∧ vl = .slice a2 (cntN im 1) c2 ∧ vr = .slice a3 (cntN im 2) c3 ∧ vm = .slice a4 (cntN im 3) c4 := by
  obtain ⟨a1, c1, h1⟩ := h.a.slice
  obtain ⟨a2, c2, h2⟩ := h.l.slice
  obtain ⟨a3, c3, h3⟩ := h.r.slice
  obtain ⟨a4, c4, h4⟩ := h.m.slice
  rw [List.length_map] at h1 h2 h3 h4
  exact ⟨a1, c1, a2, c2, a3, c3, a4, c4, h1, h2, h3, h4⟩
theorem size4I : (Tryz.prog.info? 83).map (·.size) = some 4 := by kernel_rfl
set_option maxRecDepth 100000 in
set_option maxHeartbeats 2000000 in
theorem counts_any (a1 a2 a3 a4 : Option Addr) (n1 n2 n3 n4 c1 c2 c3 c4 : Nat) (th de : Int) (w : World) :
    Calls Tryz.prog 37 #[.agg #[.slice a1 n1 c1, .slice a2 n2 c2, .slice a3 n3 c3, .slice a4 n4 c4, .int .i64 th, .int .i64 de]] w fun e w' => e = .returned (.agg #[.int .i64 (n1 : Int), .int .i64 (n2 : Int), .int .i64 (n3 : Int), .int .i64 (n4 : Int)]) ∧ Below w.heap.size w w' := by
  go_enter Tryz.func37, Tryz.ntmps37
  go_wp2
  refine bodyPost_ret (results_cell_row rfl _ _ (w.heap.size + 1) 83 #[.int .i64 (n1 : Int), .int .i64 (n2 : Int), .int .i64 (n3 : Int), .int .i64 (n4 : Int)] (0, 0) _ rfl (by exact heap_alloc2_new w _ _) Tryz.underlying83 rfl size4I) rfl ?_
  exact ⟨rfl, ((Below.refl _ w).alloc (Nat.le_refl _) _).alloc (by simp) _⟩
theorem cnt_index (n : Nat → Nat) (k : Nat) (hk : k < 4) (c : Nat) (hc : n k = c) (w : World) : (Instr.index 83 (.agg #[.int .i64 (n 0 : Int), .int .i64 (n 1 : Int), .int .i64 (n 2 : Int), .int .i64 (n 3 : Int)]) (.int .i64 (k : Int))).run Tryz.prog w = .ok (.int .i64 (c : Int)) w := by
  subst hc
  rcases four k hk with rfl | rfl | rfl | rfl <;> (show _ = _; kernel_rfl)
theorem manyB_true {im : Im} {k : Nat} (hk : k < 4) (h : 4000 < cntN im k) : manyB im = true := by
  unfold manyB
  rw [decide_eq_true_iff]
  rcases four k hk with rfl | rfl | rfl | rfl <;> omega
theorem manyB_none {im : Im} (h : ∀ k, k < 4 → cntN im k ≤ 4000) : manyB im = false := by
  unfold manyB
  rw [decide_eq_false_iff_not]
  have h0 := h 0 (by decide)
  have h1 := h 1 (by decide)
  have h2 := h 2 (by decide)
  have h3 := h 3 (by decide)
  omega
/-- What checkHead tells. -/
def headE (im : Im) : Option ErrT := if manyB im then some (16, 0, IMAGE) else if argB im then some (1, 0, IMAGE) else none
set_option maxRecDepth 100000 in
set_option maxHeartbeats 4000000 in
theorem checkHead_any (a1 a2 a3 a4 : Option Addr) (c1 c2 c3 c4 : Nat) (im : Im) (w : World) :
    Calls Tryz.prog 19 #[.agg #[.slice a1 (cntN im 0) c1, .slice a2 (cntN im 1) c2, .slice a3 (cntN im 2) c3, .slice a4 (cntN im 3) c4, .int .i64 im.th, .int .i64 im.de]] w fun e w' => ∃ v, e = .returned v ∧ EncZ w' v (headE im) ∧ Below w.heap.size w w' := by
  have HC := Lib.hid (fun w' => counts_any a1 a2 a3 a4 (cntN im 0) (cntN im 1) (cntN im 2) (cntN im 3) c1 c2 c3 c4 im.th im.de w')
  have HN := Lib.hid (fun w' => show Calls Tryz.prog 26 #[.int .i64 16, .int .i64 0, .string { data := #[105, 109, 97, 103, 101] }] w' fun e w'' => ∃ v, e = .returned v ∧ FaultZ w'' v 16 0 IMAGE ∧ Below w'.heap.size w' w'' from newZ_any 16 0 IMAGE w' (by decide))
  have HA := Lib.hid (fun w' => show Calls Tryz.prog 26 #[.int .i64 1, .int .i64 0, .string { data := #[105, 109, 97, 103, 101] }] w' fun e w'' => ∃ v, e = .returned v ∧ FaultZ w'' v 1 0 IMAGE ∧ Below w'.heap.size w' w'' from newZ_any 1 0 IMAGE w' (by decide))
  obtain ⟨W1, hW1⟩ : ∃ W1, w.alloc (.cells #[.slice a1 (cntN im 0) c1, .slice a2 (cntN im 1) c2, .slice a3 (cntN im 2) c3, .slice a4 (cntN im 3) c4, .int .i64 im.th, .int .i64 im.de] 29) = W1 := ⟨_, rfl⟩
  have hb1 : Below w.heap.size w W1 := by rw [← hW1]; exact (Below.refl _ w).alloc (Nat.le_refl _) _
  have hh1 : W1.heap[w.heap.size]? = some (.cells #[.slice a1 (cntN im 0) c1, .slice a2 (cntN im 1) c2, .slice a3 (cntN im 2) c3, .slice a4 (cntN im 3) c4, .int .i64 im.th, .int .i64 im.de] 29 (0, 0)) := by rw [← hW1]; exact World.alloc_heap_new w _
  have H6 := Lib.hid (fun w' (h : Below W1.heap.size W1 w') => cells6 ((h.block _ (lt_of_block hh1)).trans hh1))
  have HB := Lib.hid (fun w' (h : Below W1.heap.size W1 w') => hb1.trans (h.mono hb1.size))
  have HW1 := Lib.hid hW1
  have c := H6.out _ (Below.refl _ _)
  obtain ⟨d0, d1, d2, d3, d4, d5⟩ := c
  clear hW1 hb1 hh1
  go_enter Tryz.func19, Tryz.ntmps19
  go_upto_region 1 with fail
  rw [HW1.out]
  go_wp2_with (go_at_call 37; (with_reducible refine (HC.out _).mono ?_); rintro e w2 ⟨rfl, hb2⟩)
  clear d0 d1 d2 d3 d4 d5 HW1
  go_loopw [4, 7] (fun _ i wr => ∃ k : Nat, k ≤ 4 ∧ i = .int .i64 (k : Int) ∧ (∀ j, j < k → cntN im j ≤ 4000) ∧ Below W1.heap.size W1 wr) (fun _ i _ => 4 - (intOf i).toNat)
  case atStart => exact ⟨0, Nat.zero_le _, rfl, fun j hj => absurd hj (Nat.not_lt_zero _), hb2⟩
  case round =>
    obtain ⟨k, hk, rfl, hu, hR⟩ := hrel
    clear hb2
    have HU := Lib.hid hu
    clear hu
    by_cases hlt : k < 4
    · have hlt' : (k : Int) < 4 := by omega
      obtain ⟨c, hc⟩ : ∃ c, cntN im k = c := ⟨_, rfl⟩
      have hix := cnt_index (cntN im) k hlt c hc wr
      by_cases h4 : 4000 < c
      · have h4' : (4000 : Int) < (c : Int) := by omega
        have HE := Lib.hid (show headE im = some (16, 0, IMAGE) by unfold headE; rw [if_pos (manyB_true hlt (by omega))])
        clear h4 hc
        go_wp2_with (go_at_call 26; (with_reducible refine (HN.out _).mono ?_); rintro e w5 ⟨v, rfl, hv, hb5⟩)
        go_ret
        exact ⟨_, rfl, by rw [HE.out]; exact hv, HB.out _ (hR.trans (hb5.mono hR.size))⟩
      · have h4' : ¬ (4000 : Int) < (c : Int) := by omega
        have HX := Lib.hid (show ∀ j, j < k + 1 → cntN im j ≤ 4000 from fun j hj => by
          rcases Nat.lt_or_eq_of_le (Nat.le_of_lt_succ hj) with h | h
          · exact HU.out j h
          · rw [h]; omega)
        clear h4 hc
        go_wp2
        go_roundw
        case rel => exact ⟨k + 1, by omega, by go_num, HX.out, hR⟩
        case measure => simp [intOf]; omega
    · obtain rfl : k = 4 := by omega
      have HM := Lib.hid (manyB_none HU.out)
      have d := H6.out wr hR
      obtain ⟨d0, d1, d2, d3, d4, d5⟩ := d
      by_cases h1 : min im.th im.de < 0
      · have HE := Lib.hid (show headE im = some (1, 0, IMAGE) by unfold headE; rw [HM.out, if_neg (by decide), if_pos (show argB im = true from decide_eq_true (by omega))])
        go_wp2_with (go_at_call 26; (with_reducible refine (HA.out _).mono ?_); rintro e w5 ⟨v, rfl, hv, hb5⟩)
        go_ret
        exact ⟨_, rfl, by rw [HE.out]; exact hv, HB.out _ (hR.trans (hb5.mono hR.size))⟩
      · by_cases h2 : 255 < max im.th im.de
        · have HE := Lib.hid (show headE im = some (1, 0, IMAGE) by unfold headE; rw [HM.out, if_neg (by decide), if_pos (show argB im = true from decide_eq_true (by omega))])
          go_wp2_with (go_at_call 26; (with_reducible refine (HA.out _).mono ?_); rintro e w5 ⟨v, rfl, hv, hb5⟩)
          go_ret
          exact ⟨_, rfl, by rw [HE.out]; exact hv, HB.out _ (hR.trans (hb5.mono hR.size))⟩
        · have HE := Lib.hid (show headE im = none by unfold headE; rw [HM.out, if_neg (by decide), if_neg (by rw [show argB im = false from decide_eq_false (by omega)]; decide)])
          go_wp2
          go_ret
          exact ⟨_, rfl, by rw [HE.out]; rfl, HB.out _ hR⟩

theorem put2 (n : Nat) (w : World) : Calls Tryz.prog 55 #[.int .u64 (n : Int), .int .i64 2] w fun e w' => e = .returned (.string (ofL (putL n 2))) ∧ Below w.heap.size w w' := put_any n 2 w (by decide)
set_option maxRecDepth 100000 in
set_option maxHeartbeats 4000000 in
theorem head_any (a1 a2 a3 a4 : Option Addr) (c1 c2 c3 c4 : Nat) (im : Im) (w : World) (hn : ∀ k, cntN im k ≤ 4000) :
    Calls Tryz.prog 21 #[.agg #[.slice a1 (cntN im 0) c1, .slice a2 (cntN im 1) c2, .slice a3 (cntN im 2) c3, .slice a4 (cntN im 3) c4, .int .i64 im.th, .int .i64 im.de]] w fun e w' => e = .returned (.string (headB im)) ∧ Below w.heap.size w w' := by
  have HC := Lib.hid (fun w' => counts_any a1 a2 a3 a4 (cntN im 0) (cntN im 1) (cntN im 2) (cntN im 3) c1 c2 c3 c4 im.th im.de w')
  obtain ⟨W1, hW1⟩ : ∃ W1, w.alloc (.cells #[.slice a1 (cntN im 0) c1, .slice a2 (cntN im 1) c2, .slice a3 (cntN im 2) c3, .slice a4 (cntN im 3) c4, .int .i64 im.th, .int .i64 im.de] 29) = W1 := ⟨_, rfl⟩
  have hb1 : Below w.heap.size w W1 := by rw [← hW1]; exact (Below.refl _ w).alloc (Nat.le_refl _) _
  have hh1 : W1.heap[w.heap.size]? = some (.cells #[.slice a1 (cntN im 0) c1, .slice a2 (cntN im 1) c2, .slice a3 (cntN im 2) c3, .slice a4 (cntN im 3) c4, .int .i64 im.th, .int .i64 im.de] 29 (0, 0)) := by rw [← hW1]; exact World.alloc_heap_new w _
  have H6 := Lib.hid (fun w' (h : Below W1.heap.size W1 w') => cells6 ((h.block _ (lt_of_block hh1)).trans hh1))
  have HB := Lib.hid (fun w' (h : Below W1.heap.size W1 w') => hb1.trans (h.mono hb1.size))
  have HT := Lib.hid (onward W1 (fun w' => smallZ_any im.th w')).out
  have HD := Lib.hid (onward W1 (fun w' => smallZ_any im.de w')).out
  have HHB := Lib.hid (show headB im = headUp im 4 ++ byteZ im.th ++ byteZ im.de from rfl)
  have HW1 := Lib.hid hW1
  have c := H6.out _ (Below.refl _ _)
  obtain ⟨d0, d1, d2, d3, d4, d5⟩ := c
  clear hW1 hb1 hh1
  go_enter Tryz.func21, Tryz.ntmps21
  go_upto_region 1 with fail
  rw [HW1.out]
  go_wp2_with (go_at_call 37; (with_reducible refine (HC.out _).mono ?_); rintro e w2 ⟨rfl, hb2⟩)
  clear d0 d1 d2 d3 d4 d5 HW1
  go_loopw [3, 5, 8] (fun row _ i wr => ∃ k : Nat, k ≤ 4 ∧ i = .int .i64 (k : Int) ∧ row = .string (headUp im k) ∧ Below W1.heap.size W1 wr) (fun _ _ i _ => 4 - (intOf i).toNat)
  case atStart => exact ⟨0, Nat.zero_le _, rfl, rfl, hb2⟩
  case round =>
    obtain ⟨k, hk, rfl, rfl, hR⟩ := hrel
    clear hb2
    by_cases hlt : k < 4
    · have hlt' : (k : Int) < 4 := by omega
      have hck := hn k
      have HST := Lib.hid (show headUp im k ++ ofL (putL (cntN im k) 2) = headUp im (k + 1) from rfl)
      obtain ⟨c, hc⟩ : ∃ c, cntN im k = c := ⟨_, rfl⟩
      have hix := cnt_index (cntN im) k hlt c hc wr
      have hsz := headUp_size im k
      have hs2 : (ofL (putL c 2)).size = 2 := by rw [size_ofL, length_putL]
      rw [hc] at HST hck
      have hwr : IntKind.u64.wrap (c : Int) = (c : Int) := u64_wrap_id _ (by omega) (by omega)
      have HP := Lib.hid (onward W1 (fun w' => put2 c w')).out
      generalize headUp im k = hu at *
      generalize ofL (putL c 2) = p2 at *
      have hnf : ¬ (9223372036854775807 < hu.size + p2.size) := by omega
      clear hc hsz hs2 hck hn
      go_wp2_with (go_at_call 55; (with_reducible refine (HP.out _ hR).mono ?_); rintro e w5 ⟨rfl, hb5⟩)
      go_roundw
      case rel => exact ⟨k + 1, by omega, by go_num, by rw [HST.out], hb5⟩
      case measure => simp [intOf]; omega
    · obtain rfl : k = 4 := by omega
      have y0 := headUp_size im 4
      have y1 := size_byteZ im.th
      have y2 := size_byteZ im.de
      generalize headUp im 4 = hu at *
      generalize byteZ im.th = b1 at *
      generalize byteZ im.de = b2 at *
      have o1 : ¬ 9223372036854775807 < hu.size + b1.size := by omega
      obtain ⟨h1, hh1⟩ : ∃ h1, hu ++ b1 = h1 := ⟨_, rfl⟩
      have y3 : h1.size = 13 := by rw [← hh1, ByteArray.size_append]; omega
      have o2 : ¬ 9223372036854775807 < h1.size + b2.size := by omega
      obtain ⟨h2, hh2⟩ : ∃ h2, h1 ++ b2 = h2 := ⟨_, rfl⟩
      rw [hh1, hh2] at HHB
      clear y0 y1 y2 y3 hn
      have hd : Below W1.heap.size W1 wr.drew := Below.drew hR
      have HS := Lib.hid (fun w' (h : Below W1.heap.size W1 w') => (show Below W1.heap.size W1 w' ∧ _ from ⟨h, (H6.out w' h).2.2.2.2⟩))
      go_wp2
      go_region_held3 (fun w' => Below W1.heap.size W1 w' ∧ (w'.cell? ⟨w.heap.size, 4, none⟩ = some (.int .i64 im.th) ∧ w'.cell? ⟨w.heap.size, 5, none⟩ = some (.int .i64 im.de)))
        (exact HS.out _ (by assumption))
        (first
          | (go_at_call 47; (with_reducible refine (HT.out _ (by assumption)).mono ?_); rintro e w5 ⟨rfl, hb5⟩)
          | (go_at_call 47; (with_reducible refine (HD.out _ (by assumption)).mono ?_); rintro e w6 ⟨rfl, hb6⟩))
      all_goals go_wp2
      all_goals go_ret
      all_goals exact ⟨by rw [HHB.out]; rfl, HB.out _ (by assumption)⟩
end Go.Proofs.YtbafmnafhaoggaaGreatDoor

/-! What stays where a block of the call's own is stored into. (Printed by wip/gen_zparts.py.) -/
namespace Go.Proofs.YtbafmnafhaoggaaGreatDoor
open Go Go.RowKit

theorem PartZ.grown {W W' : World} {u er : Value} {wh : ByteArray} {rows : List ByteArray} {o : Option Nat} {B : Nat} {cs : Array Value} {t : TypeId} (h : PartZ W u er wh rows o) (hg : W.grownBy W' (some B)) (hB : W.heap[B]? = some (.cells cs t (0, 0))) (t1 : t ≠ 9) (t2 : t ≠ 128) : PartZ W' u er wh rows o := by
  cases o with
  | none =>
    refine ⟨h.1, h.2.kept hg ?_⟩
    rcases h.2.2 with ⟨rfl, _⟩ | ⟨g, c, cur, rfl, _, hgb, _⟩
    · exact .inl rfl
    · refine .inr fun e => ?_
      have e : g = B := by simpa [Value.ownBlock] using e
      subst e
      rw [hB] at hgb
      injection hgb with hgb
      injection hgb with _ ht _
      exact t1 ht
  | some i =>
    obtain ⟨⟨b, rfl, hb⟩, hs⟩ := h
    refine ⟨⟨b, rfl, (hg.block b (lt_of_block hb) (fun e => ?_)).trans hb⟩, hs⟩
    have e : b = B := by simpa using e
    subst e
    rw [hB] at hb
    injection hb with hb
    injection hb with _ ht _
    exact t2 ht
theorem PartZ.one {W : World} {u er : Value} {wh : ByteArray} {rows : List ByteArray} {o : Option Nat} (h : PartZ W u er wh rows o) : u.oneCell' = true ∧ er.oneCell' = true := by
  obtain ⟨a, m, c, rfl⟩ := h.slice
  cases o with
  | none => rw [h.1]; exact ⟨rfl, rfl⟩
  | some i => obtain ⟨b, rfl, _⟩ := h.1; exact ⟨rfl, rfl⟩
theorem belowZ_setRow {B g : Nat} {w0 w : World} (hb : Below B w0 w) (hBg : B ≤ g) (cs : Array Value) : Below B w0 (w.setRow g cs) :=
  hb.trans ⟨rfl, rfl, rfl, by simp [World.setRow], fun k hk => setRow_other w g k cs (by omega)⟩
theorem gr_setRowZ (w : World) (g : Nat) (cs : Array Value) : w.grownBy (w.setRow g cs) (some g) := ⟨rfl, rfl, rfl, by simp [World.setRow], fun k _ hk => setRow_other w g k _ (fun e => hk (by simp [e]))⟩
end Go.Proofs.YtbafmnafhaoggaaGreatDoor

/-! Package image: the rows of a part, one behind the other. -/
namespace Go.Proofs.YtbafmnafhaoggaaGreatDoor
open Go Go.RowKit

theorem kindN (k : Nat) (hk : k < 4) (h2 : k ≠ 2) : 0 < kyN k ∧ kyN k ≤ wdN k ∧ wdN k ≤ 255 ∧ wdR k = wdN k := by
  rcases four k hk with rfl | rfl | rfl | rfl <;> first | decide | exact absurd rfl h2
theorem dupN_ne {im : Im} {k : Nat} (h : k ≠ 2) : dupN im k = (badW (kyN k) (sortW (rowsN im k))).isSome := by
  unfold dupN; split
  · exact absurd rfl h
  · rfl
theorem partB_ne {im : Im} {k : Nat} (h : k ≠ 2) : partB im k = catW (sortW (rowsN im k)) := by
  unfold partB; split
  · exact absurd rfl h
  · rfl
set_option maxRecDepth 100000 in
set_option maxHeartbeats 4000000 in
theorem bytes_any (k : Nat) (hk : k < 4) (im : Im) (u : Value) (w : World) (hu : w.ownsRow 0 9 1 u (rowsN im k).length (strsW (rowsN im k))) (hn : cntN im k ≤ 4000) :
    Calls Tryz.prog 22 #[.agg #[.string (whN k), .int .i64 (wdN k : Int), .int .i64 (kyN k : Int), u, .nilIface]] w fun e w' => ∃ s v, e = .returned (.tuple #[.string s, v]) ∧ ((dupN im k = false ∧ s = partB im k ∧ v = .nilIface) ∨ (dupN im k = true ∧ FaultZ w' v 13 0 (whN k))) ∧ Below w.heap.size w w' := by
  have hlen : (rowsN im k).length ≤ 4000 := by rw [rowsN_len]; exact hn
  have hsz := rowsN_size im k
  obtain ⟨W1, hW1⟩ : ∃ W1, w.alloc (.cells #[.string (whN k), .int .i64 (wdN k : Int), .int .i64 (kyN k : Int), u, .nilIface] 54) = W1 := ⟨_, rfl⟩
  have hb1 : Below w.heap.size w W1 := by rw [← hW1]; exact (Below.refl _ w).alloc (Nat.le_refl _) _
  have hh1 : W1.heap[w.heap.size]? = some (.cells #[.string (whN k), .int .i64 (wdN k : Int), .int .i64 (kyN k : Int), u, .nilIface] 54 (0, 0)) := by rw [← hW1]; exact World.alloc_heap_new w _
  have H5 := Lib.hid (fun w' (h : Below W1.heap.size W1 w') => (cells5 ((h.block _ (lt_of_block hh1)).trans hh1)).1)
  have HB := Lib.hid (fun w' (h : Below W1.heap.size W1 w') => hb1.trans (h.mono hb1.size))
  have hu1 := own_belowW hu hb1
  have HW1 := Lib.hid hW1
  obtain ⟨a1, a2, a3, rfl⟩ := own_sliceZ hu
  have c := H5.out _ (Below.refl _ _)
  obtain ⟨c0, c1, c2, c3, c4⟩ := c
  clear hW1 hb1 hh1 hu
  by_cases h2 : k = 2
  · subst h2
    have HJ := Lib.hid (join_own W1 hlen hu1 (by rw [cat_size hsz]; have : (rowsN im 2).length * wdR 2 ≤ 4000 * 51 := Nat.mul_le_mul hlen (by decide); omega))
    have HD := Lib.hid (show dupN im 2 = false from rfl)
    have HP := Lib.hid (show partB im 2 = catW (rowsN im 2) from rfl)
    have hk0 : ((kyN 2 : Nat) : Int) = 0 := rfl
    rw [hk0] at c2 HW1 ⊢
    generalize whN 2 = wh at *
    generalize wdN 2 = wd at *
    clear hlen hsz hu1 hn hk0
    go_enter Tryz.func22, Tryz.ntmps22
    go_upto_region 1 with fail
    rw [HW1.out]
    go_wp2_with (go_at_call 56; (with_reducible refine HJ.out.mono ?_); rintro e w5 ⟨rfl, hb5⟩)
    go_ret2
    exact ⟨_, _, rfl, .inl ⟨HD.out, HP.out.symm, rfl⟩, HB.out _ hb5⟩
  · obtain ⟨k1, k2, k3, k4⟩ := kindN k hk h2
    rw [k4] at hsz
    have hE := buildE_dup k1 k2 k3 hsz
    have HD := Lib.hid (dupN_ne (im := im) h2)
    have HP := Lib.hid (partB_ne (im := im) h2)
    have HT := Lib.hid (build_table (wdN k : Int) (kyN k : Int) _ (rowsN im k) W1 (RowW.of_own hu1) hlen (fun x hx => by rw [hsz x hx]; omega))
    rw [hE] at HT
    have hkk : ((kyN k : Nat) : Int) ≠ 0 := by omega
    have hkf : (((kyN k : Nat) : Int) == 0) = false := by rw [beq_eq_false_iff_ne]; exact hkk
    generalize sortW (rowsN im k) = S at *
    cases hbad : badW (kyN k) S with
    | none =>
      have HD2 := Lib.hid (show dupN im k = false by rw [HD.out, hbad]; rfl)
      rw [hbad] at HT
      have HT2 := Lib.hid (HT.out.mono (R' := fun e w' => ∃ b, e = .returned (.tuple #[.pointer (some ⟨b, 0, none⟩), .nilIface]) ∧ w'.heap[b]? = some (tabObj (wdN k : Int).toNat (kyN k : Int).toNat (catW S)) ∧ Below W1.heap.size W1 w') fun e w' ⟨t, v, he, hm, hb⟩ => by
        obtain ⟨rfl, b, rfl, hb2⟩ := hm
        exact ⟨b, he, hb2, hb⟩)
      generalize whN k = wh at *
      generalize wdN k = wd at *
      generalize kyN k = ky at *
      generalize catW S = cat at *
      clear hlen hsz hu1 hn hbad HT HD hE k1 k2 k3 k4 hkk
      go_enter Tryz.func22, Tryz.ntmps22
      go_upto_region 1 with fail
      rw [HW1.out]
      go_wp2_with (first
        | (go_at_call 57; (with_reducible refine HT2.out.mono ?_); rintro e w5 ⟨b, rfl, hbt, hb5⟩; have HBY := Lib.hid (bytesW_any w5 hbt); clear hbt)
        | (go_at_call 58; (with_reducible refine HBY.out.mono ?_); rintro e w6 ⟨rfl, rfl⟩))
      go_ret2
      exact ⟨_, _, rfl, .inl ⟨HD2.out, HP.out.symm, rfl⟩, HB.out _ hb5⟩
    | some i =>
      have HD2 := Lib.hid (show dupN im k = true by rw [HD.out, hbad]; rfl)
      rw [hbad] at HT
      have HT2 := Lib.hid (HT.out.mono (R' := fun e w' => ∃ b, e = .returned (.tuple #[.pointer none, .iface 126 (.pointer (some ⟨b, 0, none⟩))]) ∧ Below W1.heap.size W1 w') fun e w' ⟨t, v, he, hm, hb⟩ => by
        obtain ⟨rfl, b, rfl, hb2⟩ := hm
        exact ⟨b, he, hb⟩)
      have HN := Lib.hid (fun w' => newZ_any 13 0 (whN k) w' (by decide))
      generalize whN k = wh at *
      generalize wdN k = wd at *
      generalize kyN k = ky at *
      clear hlen hsz hu1 hn hbad HT HD hE k1 k2 k3 k4 hkk HP
      go_enter Tryz.func22, Tryz.ntmps22
      go_upto_region 1 with fail
      rw [HW1.out]
      go_wp2_with (first
        | (go_at_call 57; (with_reducible refine HT2.out.mono ?_); rintro e w5 ⟨b, rfl, hb5⟩; have d := H5.out _ hb5; obtain ⟨d0, d1, d2, d3, d4⟩ := d)
        | (go_at_call 26; (with_reducible refine (HN.out _).mono ?_); rintro e w6 ⟨v, rfl, hv, hb6⟩))
      go_ret2
      exact ⟨_, _, rfl, .inr ⟨HD2.out, hv⟩, HB.out _ (hb5.trans (hb6.mono hb5.size))⟩
end Go.Proofs.YtbafmnafhaoggaaGreatDoor
