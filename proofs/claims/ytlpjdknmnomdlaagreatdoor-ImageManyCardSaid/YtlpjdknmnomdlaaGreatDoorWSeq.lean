/-
  Package table: the rows of a beginning, told one by one.
-/
import Derived.Test.YtlpjdknmnomdlaaGreatDoorWTab
import Derived.Stop.RegionWithIn
import Derived.LoopIn
import Derived.LoopNIn
import Derived.TacticsInMore
namespace Go.Proofs.YtlpjdknmnomdlaaGreatDoor
open Go Go.RowKit

attribute [local go_sem] Oper.semAt_some

/-- What the iterator looks at: the table, and its own two boxes. -/
structure SeqAt (b B1 B2 W K : Nat) (s key : ByteArray) (w : World) : Prop where
  tab : w.heap[b]? = some (tabObj W K s)
  b1 : w.heap[B1]? = some (.cells #[.pointer (some ⟨b, 0, none⟩)] 152 (0, 0))
  b2 : w.heap[B2]? = some (.cells #[.string key] 9 (0, 0))
theorem SeqAt.below {b B1 B2 W K : Nat} {s key : ByteArray} {w w' : World} (h : SeqAt b B1 B2 W K s key w) (hb : Below w.heap.size w w') : SeqAt b B1 B2 W K s key w' :=
  ⟨(hb.block _ (lt_of_block h.tab)).trans h.tab, (hb.block _ (lt_of_block h.b1)).trans h.b1, (hb.block _ (lt_of_block h.b2)).trans h.b2⟩
theorem SeqAt.keep {b B1 B2 W K hi : Nat} {s key : ByteArray} {q : Nat → Prop} {fr : Obj → Bool} {w w' : World} (h : SeqAt b B1 B2 W K s key w) (hb : KeepQ q hi fr w w') (hq : q b ∧ q B1 ∧ q B2) : SeqAt b B1 B2 W K s key w' :=
  ⟨hb.blk _ _ h.tab (.inl hq.1), hb.blk _ _ h.b1 (.inl hq.2.1), hb.blk _ _ h.b2 (.inl hq.2.2)⟩

set_option maxRecDepth 100000 in
set_option maxHeartbeats 1000000 in
theorem prefix_in (n l b B1 B2 W K hi : Nat) (q : Nat → Prop) (fr : Obj → Bool) (s key : ByteArray) (hw : Wid W K s) (hm : MonoW K (rowsW W s) key) (hq : q b ∧ q B1 ∧ q B2) (B0 : Nat) (J Jx : List (Nat × ByteArray) → World → Prop) (hJ : OwnFrom B0 J)
    (hY : ∀ pre (x : Nat × ByteArray) W1, J pre W1 → pre ++ [x] <+: prefixW K (rowsW W s) key → YieldAt Fence.wide (n - 1) Tryz.prog l #[.int .i64 x.1, .string x.2] W1 fun e W' =>
      (e = .returned (.bool true) ∧ J (pre ++ [x]) W' ∧ KeepQ q hi fr W1 W') ∨ (e = .returned (.bool false) ∧ Jx (pre ++ [x]) W' ∧ KeepQ q hi fr W1 W'))
    (w : World) (h : SeqAt b B1 B2 W K s key w) (h0 : J [] w) :
    CallsIn Fence.wide n Tryz.prog 204 #[.func (.yield l) #[] #[], .pointer (some ⟨B1, 0, none⟩), .pointer (some ⟨B2, 0, none⟩)] w fun e W' => (∃ v, e = .returned v) ∧
      ((∃ ys, ys = prefixW K (rowsW W s) key ∧ J ys W') ∨ (∃ pre, pre <+: prefixW K (rowsW W s) key ∧ Jx pre W')) := by
  refine callsIn_of_wp Tryz.func204 rfl trivial ?_ rfl
  simp only [Tryz.ntmps204, List.size_toArray, List.length_cons, List.length_nil, Nat.reduceAdd, Nat.reduceSub, Array.replicate_succ, Array.replicate_zero, List.push_toArray, List.append_toArray, List.nil_append, List.cons_append]
  have d1 := cell_of_one h.b1
  have d2 := cell_of_one h.b2
  have HS := Lib.hid (searchW_any key w h.tab hw hm)
  have HA := Lib.hid h
  clear h
  gi_wp2_with fail
  refine ⟨trivial, fun h => (by simp [Fence.wide] at h), (callsIn_wide.2 HS.out).mono ?_⟩
  rintro e w1 ⟨rfl, hb1⟩
  have HA1 := Lib.hid (HA.out.below hb1)
  have hJ1 : J [] w1 := hJ _ _ _ none h0 (grown_of_below hb1) (fun r e => by cases e)
  have hvl := searchW_le K (rowsW W s) key
  rw [rowsW_len] at hvl
  have hn : s.size / W ≤ 1048576 := Nat.le_trans (Nat.div_le_self _ _) hw.sz
  clear hb1 HS HA d1 d2 h0
  obtain ⟨v, hv⟩ : ∃ v, searchW K (rowsW W s) key = v := ⟨_, rfl⟩
  rw [hv] at hvl
  have HT := Lib.hid (fun k r (hr : (tookW K (rowsW W s) key)[k]? = some r) => show v + k < s.size / W ∧ r = rowW W s (v + k) ∧ startsW (keyW K r) key = true ∧ (prefixW K (rowsW W s) key)[k]? = some (v + k, r) from by
    have h1 := took_at hr
    rw [hv] at h1
    have h2 := rowsW_get h1.1
    have h3 := prefix_at hr
    rw [hv] at h3
    exact ⟨h2.1, h2.2, h1.2, h3⟩)
  have HE := Lib.hid (show v + (tookW K (rowsW W s) key).length = s.size / W ∨ ∃ r, v + (tookW K (rowsW W s) key).length < s.size / W ∧ r = rowW W s (v + (tookW K (rowsW W s) key).length) ∧ startsW (keyW K r) key = false from by
    have h1 := took_end K (rowsW W s) key
    rw [hv, rowsW_len] at h1
    rcases h1 with h1 | ⟨r, h1, h2⟩
    · exact .inl h1
    · have h3 := rowsW_get h1
      exact .inr ⟨r, h3.1, h3.2, h2⟩)
  have HN := Lib.hid (prefix_len K (rowsW W s) key)
  rw [hv]
  clear hm hv
  obtain ⟨PL, hPL⟩ : ∃ PL, prefixW K (rowsW W s) key = PL := ⟨_, rfl⟩
  rw [hPL] at hY HT HN
  have HPL := Lib.hid hPL
  clear hPL
  generalize tookW K (rowsW W s) key = T at *
  obtain ⟨nn, hnn⟩ : ∃ nn, s.size / W = nn := ⟨_, rfl⟩
  have HNN := Lib.hid hnn
  rw [hnn] at hvl hn HE HT
  clear hnn
  gi_wp2_with fail
  gi_loopw [4] (fun x wr => ∃ k j : Nat, x = .int .i64 (j : Int) ∧ Hid (j = v + k) ∧ k ≤ T.length ∧ Hid (SeqAt b B1 B2 W K s key wr) ∧ J (PL.take k) wr) (fun x _ => nn + 1 - (intOf x).toNat)
  case atStart => exact ⟨0, v, rfl, Lib.hid (by omega), Nat.zero_le _, HA1, by simpa using hJ1⟩
  case round =>
    obtain ⟨k, j, rfl, HJ, hk, HA, hJs⟩ := hrel
    have c1 := cell_of_one HA.out.b1
    have c2 := cell_of_one HA.out.b2
    obtain ⟨t0, t1, t2⟩ := tab_cells HA.out.tab
    have HL := Lib.hid (lenW_any wr HA.out.tab hw.pos hw.w255 hw.sz)
    rw [HNN.out] at HL
    by_cases hlt : k < T.length
    · obtain ⟨r, hr⟩ : ∃ r, T[k]? = some r := ⟨_, List.getElem?_eq_getElem hlt⟩
      obtain ⟨e1, e2, e3, e4⟩ := HT.out k r hr
      rw [← HJ.out] at e1 e2 e4
      have hrs : r.size = W := by rw [e2]; exact rowW_size (by rw [HNN.out]; exact e1)
      have HR := Lib.hid (fun q => rowW_in (K := K) (wr.drewN q) HA.out.tab hw.pos hw.w255 hw.sz (i := j) (by rw [HNN.out]; exact e1))
      rw [← e2] at HR
      have HP := Lib.hid (fun w5 => show Calls Tryz.prog 208 #[.string (r.extract 0 K), .string key] w5 fun e w' => e = .returned (.bool true) ∧ w5 = w' by
        have := hasPre_any (keyW K r) key w5
        rwa [e3] at this)
      have HSN := Lib.hid (show PL.take (k + 1) = PL.take k ++ [(j, r)] by rw [List.take_add_one, e4]; rfl)
      have j0 : (0 : Int) ≤ (j : Int) := by omega
      have j1 : (j : Int) < (nn : Int) := by omega
      have j2 : decide (j < nn) = true := decide_eq_true e1
      have k1 : (K : Int) ≤ (r.size : Int) := by have := hw.kW; omega
      have k0 : (0 : Int) ≤ (K : Int) := by omega
      clear e1 e2 e3 e4 hr hrs
      gi_wp2_with fail
      refine ⟨trivial, fun h => (by simp [Fence.wide] at h), (callsIn_wide.2 HL.out).mono ?_⟩
      rintro e w2 ⟨rfl, q1, rfl⟩
      gi_wp2_with fail
      refine ⟨trivial, fun h => (by simp [Fence.wide] at h), (callsIn_wide.2 (HR.out _)).mono ?_⟩
      rintro e w2 ⟨rfl, q2, rfl⟩
      gi_wp2_with fail
      have hJ2 : J (PL.take k) (wr.drewN (q1 + q2 + 1)) := hJ _ _ _ none hJs ⟨rfl, rfl, rfl, Nat.le_refl _, fun _ _ _ => rfl⟩ (fun r e => by cases e)
      obtain ⟨fn, tmps, assign, body, hy, hR⟩ := hY (PL.take k) (j, r) _ hJ2 (by rw [← HSN.out]; exact List.take_prefix _ _)
      have HRY := Lib.hid (hR.mono (R' := fun e W3 => ∃ z : Bool, e = .returned (.bool z) ∧ ((z = true → J (PL.take k ++ [(j, r)]) W3) ∧ (z = false → Jx (PL.take k ++ [(j, r)]) W3) ∧ KeepQ q hi fr (wr.drewN (q1 + q2 + 1)) W3)) (by
        rintro e W3 (⟨rfl, h1, h2⟩ | ⟨rfl, h1, h2⟩)
        · exact ⟨true, rfl, fun _ => h1, fun h => (by cases h), h2⟩
        · exact ⟨false, rfl, fun h => (by cases h), fun _ => h1, h2⟩))
      clear hR hJ2
      -- BEGIN hit
      refine wpIn_region_any (by kernel_rfl) ?_
      change wpAnyIn _ _ _ _ _ _ _ _ _ (World.drew _)
      refine wpAnyIn_take (i := 0) (v := .string r) rfl rfl (by kernel_rfl) (by kernel_rfl) (by kernel_rfl) (fun _ _ _ h => h) ⟨Or.inl ⟨by rfl, fun w => by go_simp⟩, fun _ => rfl⟩ ?_
      refine wpAnyIn_ready (rs := [1, 6]) (by kernel_rfl) (by simp) ?_
      refine AllReadyIn.cons rfl (fun K hK => ?_) (AllReadyIn.cons rfl (fun K hK => ?_) AllReadyIn.nil)
      · go_simp
        refine hK _ _ ?_
        clear hK K
        refine wpAnyIn_take (i := 2) (v := .pointer (some ⟨b, 0, none⟩)) rfl rfl (by kernel_rfl) (by kernel_rfl) (by kernel_rfl) (fun _ _ _ h => h) ⟨Or.inl ⟨by rfl, fun w => by go_simp⟩, fun _ => rfl⟩ ?_
        refine wpAnyIn_take (i := 3) (v := .pointer (some ⟨b, 1, none⟩)) rfl rfl (by kernel_rfl) (by kernel_rfl) (by kernel_rfl) (fun _ _ _ h => h) ⟨Or.inl ⟨by rfl, fun w => by go_simp⟩, fun _ => rfl⟩ ?_
        refine wpAnyIn_ready (rs := [4, 6]) (by kernel_rfl) (by simp) ?_
        refine AllReadyIn.cons rfl (fun K hK => ?_) (AllReadyIn.cons rfl (fun K hK => ?_) AllReadyIn.nil)
        · go_simp
          refine hK _ _ ?_
          clear hK K
          refine wpAnyIn_take (i := 5) (v := .string (r.extract 0 K)) rfl rfl (by kernel_rfl) (by kernel_rfl) (by kernel_rfl) (fun _ _ _ h => h) ⟨Or.inl ⟨by rfl, fun w => by go_simp⟩, fun _ => rfl⟩ ?_
          refine wpAnyIn_ready (rs := [6]) (by kernel_rfl) (by simp) ?_
          refine AllReadyIn.cons rfl (fun K hK => ?_) AllReadyIn.nil
          go_simp
          refine hK _ _ ?_
          clear hK K
          refine wpAnyIn_ready (rs := [7]) (by kernel_rfl) (by simp) ?_
          refine AllReadyIn.cons rfl (fun K hK => ?_) AllReadyIn.nil
          go_simp
          refine ⟨trivial, fun h => (by simp [Fence.wide] at h), (callsIn_wide.2 (HP.out _)).mono ?_⟩
          rintro e w5 ⟨rfl, rfl⟩
          refine hK _ _ ?_
          clear hK K
          refine wpAnyIn_take (i := 8) (v := .bool false) rfl rfl (by kernel_rfl) (by kernel_rfl) (by kernel_rfl) (fun _ _ _ h => h) ⟨Or.inl ⟨by rfl, fun w => by go_simp⟩, fun _ => rfl⟩ ?_
          refine wpAnyIn_take (i := 9) (v := .bool false) rfl rfl (by kernel_rfl) (by kernel_rfl) (by kernel_rfl) (fun _ _ _ h => h) ⟨Or.inl ⟨by rfl, fun w => by go_simp⟩, fun _ => rfl⟩ ?_
          refine wpAnyIn_take (i := 10) (v := .func (.yield l) #[] #[]) rfl rfl (by kernel_rfl) (by kernel_rfl) (by kernel_rfl) (fun _ _ _ h => h) ⟨Or.inl ⟨by rfl, fun w => by go_simp⟩, fun _ => rfl⟩ ?_
          refine wpAnyIn_take (i := 11) (v := .int .i64 (j : Int)) rfl rfl (by kernel_rfl) (by kernel_rfl) (by kernel_rfl) (fun _ _ _ h => h) ⟨Or.inl ⟨by rfl, fun w => by go_simp⟩, fun _ => rfl⟩ ?_
          refine wpAnyIn_take (i := 12) (v := .string r) rfl rfl (by kernel_rfl) (by kernel_rfl) (by kernel_rfl) (fun _ _ _ h => h) ⟨Or.inl ⟨by rfl, fun w => by go_simp⟩, fun _ => rfl⟩ ?_
          refine wpAnyIn_ready (rs := [13]) (by kernel_rfl) (by simp) ?_
          refine AllReadyIn.cons rfl (fun K hK => ?_) AllReadyIn.nil
          go_simp
          refine ⟨fun h => (by simp [Fence.wide] at h), ?_⟩
          refine HRY.out.mono ?_
          rintro e W3 ⟨z, rfl, hz⟩
          refine hK _ _ ?_
          clear hK K
          refine wpAnyIn_ready (rs := [14]) (by kernel_rfl) (by simp) ?_
          refine AllReadyIn.cons rfl (fun K hK => ?_) AllReadyIn.nil
          go_simp
          refine hK _ _ ?_
          clear hK K
          refine wpAnyIn_ready (rs := [15]) (by kernel_rfl) (by simp) ?_
          refine AllReadyIn.cons rfl (fun K hK => ?_) AllReadyIn.nil
          go_simp
          refine hK _ _ ?_
          clear hK K
          refine wpAnyIn_done (by kernel_rfl) ?_ _
          cases z
          · have hx := hz.2.1 rfl
            gi_wp2_with fail
            refine bodyPost_ret (results_none rfl _ _ _) rfl ?_
            exact ⟨⟨_, rfl⟩, .inr ⟨_, by rw [HPL.out, ← HSN.out]; exact List.take_prefix _ _, hx⟩⟩
          · have hx := hz.1 rfl
            have HA3 := Lib.hid ((HA.out.below (below_drewN (Below.refl _ wr) _)).keep hz.2.2 hq)
            clear hz
            gi_wp2_with fail
            go_roundw
            case rel => exact ⟨k + 1, j + 1, by go_num, Lib.hid (by rw [HJ.out]; omega), by omega, HA3, by rw [HSN.out]; exact hx⟩
            case measure => simp [intOf]; omega
        · go_simp
          refine hK _ _ ?_
          clear hK K
          refine wpAnyIn_ready (rs := [4]) (by kernel_rfl) (by simp) ?_
          refine AllReadyIn.cons rfl (fun K hK => ?_) AllReadyIn.nil
          go_simp
          refine hK _ _ ?_
          clear hK K
          refine wpAnyIn_take (i := 5) (v := .string (r.extract 0 K)) rfl rfl (by kernel_rfl) (by kernel_rfl) (by kernel_rfl) (fun _ _ _ h => h) ⟨Or.inl ⟨by rfl, fun w => by go_simp⟩, fun _ => rfl⟩ ?_
          refine wpAnyIn_ready (rs := [7]) (by kernel_rfl) (by simp) ?_
          refine AllReadyIn.cons rfl (fun K hK => ?_) AllReadyIn.nil
          go_simp
          refine ⟨trivial, fun h => (by simp [Fence.wide] at h), (callsIn_wide.2 (HP.out _)).mono ?_⟩
          rintro e w5 ⟨rfl, rfl⟩
          refine hK _ _ ?_
          clear hK K
          refine wpAnyIn_take (i := 8) (v := .bool false) rfl rfl (by kernel_rfl) (by kernel_rfl) (by kernel_rfl) (fun _ _ _ h => h) ⟨Or.inl ⟨by rfl, fun w => by go_simp⟩, fun _ => rfl⟩ ?_
          refine wpAnyIn_take (i := 9) (v := .bool false) rfl rfl (by kernel_rfl) (by kernel_rfl) (by kernel_rfl) (fun _ _ _ h => h) ⟨Or.inl ⟨by rfl, fun w => by go_simp⟩, fun _ => rfl⟩ ?_
          refine wpAnyIn_take (i := 10) (v := .func (.yield l) #[] #[]) rfl rfl (by kernel_rfl) (by kernel_rfl) (by kernel_rfl) (fun _ _ _ h => h) ⟨Or.inl ⟨by rfl, fun w => by go_simp⟩, fun _ => rfl⟩ ?_
          refine wpAnyIn_take (i := 11) (v := .int .i64 (j : Int)) rfl rfl (by kernel_rfl) (by kernel_rfl) (by kernel_rfl) (fun _ _ _ h => h) ⟨Or.inl ⟨by rfl, fun w => by go_simp⟩, fun _ => rfl⟩ ?_
          refine wpAnyIn_take (i := 12) (v := .string r) rfl rfl (by kernel_rfl) (by kernel_rfl) (by kernel_rfl) (fun _ _ _ h => h) ⟨Or.inl ⟨by rfl, fun w => by go_simp⟩, fun _ => rfl⟩ ?_
          refine wpAnyIn_ready (rs := [13]) (by kernel_rfl) (by simp) ?_
          refine AllReadyIn.cons rfl (fun K hK => ?_) AllReadyIn.nil
          go_simp
          refine ⟨fun h => (by simp [Fence.wide] at h), ?_⟩
          refine HRY.out.mono ?_
          rintro e W3 ⟨z, rfl, hz⟩
          refine hK _ _ ?_
          clear hK K
          refine wpAnyIn_ready (rs := [14]) (by kernel_rfl) (by simp) ?_
          refine AllReadyIn.cons rfl (fun K hK => ?_) AllReadyIn.nil
          go_simp
          refine hK _ _ ?_
          clear hK K
          refine wpAnyIn_ready (rs := [15]) (by kernel_rfl) (by simp) ?_
          refine AllReadyIn.cons rfl (fun K hK => ?_) AllReadyIn.nil
          go_simp
          refine hK _ _ ?_
          clear hK K
          refine wpAnyIn_done (by kernel_rfl) ?_ _
          cases z
          · have hx := hz.2.1 rfl
            gi_wp2_with fail
            refine bodyPost_ret (results_none rfl _ _ _) rfl ?_
            exact ⟨⟨_, rfl⟩, .inr ⟨_, by rw [HPL.out, ← HSN.out]; exact List.take_prefix _ _, hx⟩⟩
          · have hx := hz.1 rfl
            have HA3 := Lib.hid ((HA.out.below (below_drewN (Below.refl _ wr) _)).keep hz.2.2 hq)
            clear hz
            gi_wp2_with fail
            go_roundw
            case rel => exact ⟨k + 1, j + 1, by go_num, Lib.hid (by rw [HJ.out]; omega), by omega, HA3, by rw [HSN.out]; exact hx⟩
            case measure => simp [intOf]; omega
      · go_simp
        refine hK _ _ ?_
        clear hK K
        refine wpAnyIn_ready (rs := [1]) (by kernel_rfl) (by simp) ?_
        refine AllReadyIn.cons rfl (fun K hK => ?_) AllReadyIn.nil
        go_simp
        refine hK _ _ ?_
        clear hK K
        refine wpAnyIn_take (i := 2) (v := .pointer (some ⟨b, 0, none⟩)) rfl rfl (by kernel_rfl) (by kernel_rfl) (by kernel_rfl) (fun _ _ _ h => h) ⟨Or.inl ⟨by rfl, fun w => by go_simp⟩, fun _ => rfl⟩ ?_
        refine wpAnyIn_take (i := 3) (v := .pointer (some ⟨b, 1, none⟩)) rfl rfl (by kernel_rfl) (by kernel_rfl) (by kernel_rfl) (fun _ _ _ h => h) ⟨Or.inl ⟨by rfl, fun w => by go_simp⟩, fun _ => rfl⟩ ?_
        refine wpAnyIn_ready (rs := [4]) (by kernel_rfl) (by simp) ?_
        refine AllReadyIn.cons rfl (fun K hK => ?_) AllReadyIn.nil
        go_simp
        refine hK _ _ ?_
        clear hK K
        refine wpAnyIn_take (i := 5) (v := .string (r.extract 0 K)) rfl rfl (by kernel_rfl) (by kernel_rfl) (by kernel_rfl) (fun _ _ _ h => h) ⟨Or.inl ⟨by rfl, fun w => by go_simp⟩, fun _ => rfl⟩ ?_
        refine wpAnyIn_ready (rs := [7]) (by kernel_rfl) (by simp) ?_
        refine AllReadyIn.cons rfl (fun K hK => ?_) AllReadyIn.nil
        go_simp
        refine ⟨trivial, fun h => (by simp [Fence.wide] at h), (callsIn_wide.2 (HP.out _)).mono ?_⟩
        rintro e w5 ⟨rfl, rfl⟩
        refine hK _ _ ?_
        clear hK K
        refine wpAnyIn_take (i := 8) (v := .bool false) rfl rfl (by kernel_rfl) (by kernel_rfl) (by kernel_rfl) (fun _ _ _ h => h) ⟨Or.inl ⟨by rfl, fun w => by go_simp⟩, fun _ => rfl⟩ ?_
        refine wpAnyIn_take (i := 9) (v := .bool false) rfl rfl (by kernel_rfl) (by kernel_rfl) (by kernel_rfl) (fun _ _ _ h => h) ⟨Or.inl ⟨by rfl, fun w => by go_simp⟩, fun _ => rfl⟩ ?_
        refine wpAnyIn_take (i := 10) (v := .func (.yield l) #[] #[]) rfl rfl (by kernel_rfl) (by kernel_rfl) (by kernel_rfl) (fun _ _ _ h => h) ⟨Or.inl ⟨by rfl, fun w => by go_simp⟩, fun _ => rfl⟩ ?_
        refine wpAnyIn_take (i := 11) (v := .int .i64 (j : Int)) rfl rfl (by kernel_rfl) (by kernel_rfl) (by kernel_rfl) (fun _ _ _ h => h) ⟨Or.inl ⟨by rfl, fun w => by go_simp⟩, fun _ => rfl⟩ ?_
        refine wpAnyIn_take (i := 12) (v := .string r) rfl rfl (by kernel_rfl) (by kernel_rfl) (by kernel_rfl) (fun _ _ _ h => h) ⟨Or.inl ⟨by rfl, fun w => by go_simp⟩, fun _ => rfl⟩ ?_
        refine wpAnyIn_ready (rs := [13]) (by kernel_rfl) (by simp) ?_
        refine AllReadyIn.cons rfl (fun K hK => ?_) AllReadyIn.nil
        go_simp
        refine ⟨fun h => (by simp [Fence.wide] at h), ?_⟩
        refine HRY.out.mono ?_
        rintro e W3 ⟨z, rfl, hz⟩
        refine hK _ _ ?_
        clear hK K
        refine wpAnyIn_ready (rs := [14]) (by kernel_rfl) (by simp) ?_
        refine AllReadyIn.cons rfl (fun K hK => ?_) AllReadyIn.nil
        go_simp
        refine hK _ _ ?_
        clear hK K
        refine wpAnyIn_ready (rs := [15]) (by kernel_rfl) (by simp) ?_
        refine AllReadyIn.cons rfl (fun K hK => ?_) AllReadyIn.nil
        go_simp
        refine hK _ _ ?_
        clear hK K
        refine wpAnyIn_done (by kernel_rfl) ?_ _
        cases z
        · have hx := hz.2.1 rfl
          gi_wp2_with fail
          refine bodyPost_ret (results_none rfl _ _ _) rfl ?_
          exact ⟨⟨_, rfl⟩, .inr ⟨_, by rw [HPL.out, ← HSN.out]; exact List.take_prefix _ _, hx⟩⟩
        · have hx := hz.1 rfl
          have HA3 := Lib.hid ((HA.out.below (below_drewN (Below.refl _ wr) _)).keep hz.2.2 hq)
          clear hz
          gi_wp2_with fail
          go_roundw
          case rel => exact ⟨k + 1, j + 1, by go_num, Lib.hid (by rw [HJ.out]; omega), by omega, HA3, by rw [HSN.out]; exact hx⟩
          case measure => simp [intOf]; omega
      -- END hit
    · obtain rfl : k = T.length := by omega
      have HLAST := Lib.hid (fun q' => hJ _ _ (wr.drewN q') none hJs ⟨rfl, rfl, rfl, Nat.le_refl _, fun _ _ _ => rfl⟩ (fun r e => by cases e))
      rw [List.take_of_length_le (by rw [HN.out]; exact Nat.le_refl _), ← HPL.out] at HLAST
      rcases HE.out with he | ⟨r, e1, e2, e3⟩
      · have j1 : ¬ (j : Int) < (nn : Int) := by have := HJ.out; omega
        have j2 : decide (j < nn) = false := decide_eq_false (by have := HJ.out; omega)
        clear hJs he
        gi_wp2_with fail
        refine ⟨trivial, fun h => (by simp [Fence.wide] at h), (callsIn_wide.2 HL.out).mono ?_⟩
        rintro e w2 ⟨rfl, q1, rfl⟩
        gi_wp2
        go_end0
        exact ⟨⟨_, rfl⟩, .inl ⟨_, rfl, HLAST.out _⟩⟩
      · rw [← HJ.out] at e1 e2
        have hrs : r.size = W := by rw [e2]; exact rowW_size (by rw [HNN.out]; exact e1)
        have HR := Lib.hid (fun q => rowW_in (K := K) (wr.drewN q) HA.out.tab hw.pos hw.w255 hw.sz (i := j) (by rw [HNN.out]; exact e1))
        rw [← e2] at HR
        have HP := Lib.hid (fun w5 => show Calls Tryz.prog 208 #[.string (r.extract 0 K), .string key] w5 fun e w' => e = .returned (.bool false) ∧ w5 = w' by
          have := hasPre_any (keyW K r) key w5
          rwa [e3] at this)
        have j0 : (0 : Int) ≤ (j : Int) := by omega
        have j1 : (j : Int) < (nn : Int) := by omega
        have j2 : decide (j < nn) = true := decide_eq_true e1
        have k1 : (K : Int) ≤ (r.size : Int) := by have := hw.kW; omega
        have k0 : (0 : Int) ≤ (K : Int) := by omega
        clear e1 e2 e3 hrs hJs
        gi_wp2_with fail
        refine ⟨trivial, fun h => (by simp [Fence.wide] at h), (callsIn_wide.2 HL.out).mono ?_⟩
        rintro e w2 ⟨rfl, q1, rfl⟩
        gi_wp2_with fail
        refine ⟨trivial, fun h => (by simp [Fence.wide] at h), (callsIn_wide.2 (HR.out _)).mono ?_⟩
        rintro e w2 ⟨rfl, q2, rfl⟩
        gi_wp2_with fail
        -- BEGIN miss
        refine wpIn_region_any (by kernel_rfl) ?_
        change wpAnyIn _ _ _ _ _ _ _ _ _ (World.drew _)
        refine wpAnyIn_take (i := 0) (v := .string r) rfl rfl (by kernel_rfl) (by kernel_rfl) (by kernel_rfl) (fun _ _ _ h => h) ⟨Or.inl ⟨by rfl, fun w => by go_simp⟩, fun _ => rfl⟩ ?_
        refine wpAnyIn_ready (rs := [1, 6]) (by kernel_rfl) (by simp) ?_
        refine AllReadyIn.cons rfl (fun K hK => ?_) (AllReadyIn.cons rfl (fun K hK => ?_) AllReadyIn.nil)
        · go_simp
          refine hK _ _ ?_
          clear hK K
          refine wpAnyIn_take (i := 2) (v := .pointer (some ⟨b, 0, none⟩)) rfl rfl (by kernel_rfl) (by kernel_rfl) (by kernel_rfl) (fun _ _ _ h => h) ⟨Or.inl ⟨by rfl, fun w => by go_simp⟩, fun _ => rfl⟩ ?_
          refine wpAnyIn_take (i := 3) (v := .pointer (some ⟨b, 1, none⟩)) rfl rfl (by kernel_rfl) (by kernel_rfl) (by kernel_rfl) (fun _ _ _ h => h) ⟨Or.inl ⟨by rfl, fun w => by go_simp⟩, fun _ => rfl⟩ ?_
          refine wpAnyIn_ready (rs := [4, 6]) (by kernel_rfl) (by simp) ?_
          refine AllReadyIn.cons rfl (fun K hK => ?_) (AllReadyIn.cons rfl (fun K hK => ?_) AllReadyIn.nil)
          · go_simp
            refine hK _ _ ?_
            clear hK K
            refine wpAnyIn_take (i := 5) (v := .string (r.extract 0 K)) rfl rfl (by kernel_rfl) (by kernel_rfl) (by kernel_rfl) (fun _ _ _ h => h) ⟨Or.inl ⟨by rfl, fun w => by go_simp⟩, fun _ => rfl⟩ ?_
            refine wpAnyIn_ready (rs := [6]) (by kernel_rfl) (by simp) ?_
            refine AllReadyIn.cons rfl (fun K hK => ?_) AllReadyIn.nil
            go_simp
            refine hK _ _ ?_
            clear hK K
            refine wpAnyIn_ready (rs := [7]) (by kernel_rfl) (by simp) ?_
            refine AllReadyIn.cons rfl (fun K hK => ?_) AllReadyIn.nil
            go_simp
            refine ⟨trivial, fun h => (by simp [Fence.wide] at h), (callsIn_wide.2 (HP.out _)).mono ?_⟩
            rintro e w5 ⟨rfl, rfl⟩
            refine hK _ _ ?_
            clear hK K
            refine wpAnyIn_take (i := 8) (v := .bool true) rfl rfl (by kernel_rfl) (by kernel_rfl) (by kernel_rfl) (fun _ _ _ h => h) ⟨Or.inl ⟨by rfl, fun w => by go_simp⟩, fun _ => rfl⟩ ?_
            refine wpAnyIn_take (i := 9) (v := .bool true) rfl rfl (by kernel_rfl) (by kernel_rfl) (by kernel_rfl) (fun _ _ _ h => h) ⟨Or.inl ⟨by rfl, fun w => by go_simp⟩, fun _ => rfl⟩ ?_
            refine wpAnyIn_take (i := 10) (v := undef) rfl rfl (by kernel_rfl) (by kernel_rfl) (by kernel_rfl) (fun _ _ _ h => h) ⟨Or.inr ⟨by rfl, rfl⟩, fun _ => rfl⟩ ?_
            refine wpAnyIn_take (i := 11) (v := undef) rfl rfl (by kernel_rfl) (by kernel_rfl) (by kernel_rfl) (fun _ _ _ h => h) ⟨Or.inr ⟨by rfl, rfl⟩, fun _ => rfl⟩ ?_
            refine wpAnyIn_take (i := 12) (v := undef) rfl rfl (by kernel_rfl) (by kernel_rfl) (by kernel_rfl) (fun _ _ _ h => h) ⟨Or.inr ⟨by rfl, rfl⟩, fun _ => rfl⟩ ?_
            refine wpAnyIn_ready (rs := [13]) (by kernel_rfl) (by simp) ?_
            refine AllReadyIn.cons rfl (fun K hK => ?_) AllReadyIn.nil
            go_simp
            first | refine hK _ _ ?_ | refine ⟨fun _ _ => trivial, hK _ _ ?_⟩
            clear hK K
            refine wpAnyIn_take (i := 14) (v := undef) rfl rfl (by kernel_rfl) (by kernel_rfl) (by kernel_rfl) (fun _ _ _ h => h) ⟨Or.inr ⟨by rfl, rfl⟩, fun _ => rfl⟩ ?_
            refine wpAnyIn_ready (rs := [15]) (by kernel_rfl) (by simp) ?_
            refine AllReadyIn.cons rfl (fun K hK => ?_) AllReadyIn.nil
            go_simp
            refine hK _ _ ?_
            clear hK K
            refine wpAnyIn_done (by kernel_rfl) ?_ _
            gi_wp2_with fail
            refine bodyPost_ret (results_none rfl _ _ _) rfl ?_
            exact ⟨⟨_, rfl⟩, .inl ⟨_, rfl, HLAST.out _⟩⟩
          · go_simp
            refine hK _ _ ?_
            clear hK K
            refine wpAnyIn_ready (rs := [4]) (by kernel_rfl) (by simp) ?_
            refine AllReadyIn.cons rfl (fun K hK => ?_) AllReadyIn.nil
            go_simp
            refine hK _ _ ?_
            clear hK K
            refine wpAnyIn_take (i := 5) (v := .string (r.extract 0 K)) rfl rfl (by kernel_rfl) (by kernel_rfl) (by kernel_rfl) (fun _ _ _ h => h) ⟨Or.inl ⟨by rfl, fun w => by go_simp⟩, fun _ => rfl⟩ ?_
            refine wpAnyIn_ready (rs := [7]) (by kernel_rfl) (by simp) ?_
            refine AllReadyIn.cons rfl (fun K hK => ?_) AllReadyIn.nil
            go_simp
            refine ⟨trivial, fun h => (by simp [Fence.wide] at h), (callsIn_wide.2 (HP.out _)).mono ?_⟩
            rintro e w5 ⟨rfl, rfl⟩
            refine hK _ _ ?_
            clear hK K
            refine wpAnyIn_take (i := 8) (v := .bool true) rfl rfl (by kernel_rfl) (by kernel_rfl) (by kernel_rfl) (fun _ _ _ h => h) ⟨Or.inl ⟨by rfl, fun w => by go_simp⟩, fun _ => rfl⟩ ?_
            refine wpAnyIn_take (i := 9) (v := .bool true) rfl rfl (by kernel_rfl) (by kernel_rfl) (by kernel_rfl) (fun _ _ _ h => h) ⟨Or.inl ⟨by rfl, fun w => by go_simp⟩, fun _ => rfl⟩ ?_
            refine wpAnyIn_take (i := 10) (v := undef) rfl rfl (by kernel_rfl) (by kernel_rfl) (by kernel_rfl) (fun _ _ _ h => h) ⟨Or.inr ⟨by rfl, rfl⟩, fun _ => rfl⟩ ?_
            refine wpAnyIn_take (i := 11) (v := undef) rfl rfl (by kernel_rfl) (by kernel_rfl) (by kernel_rfl) (fun _ _ _ h => h) ⟨Or.inr ⟨by rfl, rfl⟩, fun _ => rfl⟩ ?_
            refine wpAnyIn_take (i := 12) (v := undef) rfl rfl (by kernel_rfl) (by kernel_rfl) (by kernel_rfl) (fun _ _ _ h => h) ⟨Or.inr ⟨by rfl, rfl⟩, fun _ => rfl⟩ ?_
            refine wpAnyIn_ready (rs := [13]) (by kernel_rfl) (by simp) ?_
            refine AllReadyIn.cons rfl (fun K hK => ?_) AllReadyIn.nil
            go_simp
            first | refine hK _ _ ?_ | refine ⟨fun _ _ => trivial, hK _ _ ?_⟩
            clear hK K
            refine wpAnyIn_take (i := 14) (v := undef) rfl rfl (by kernel_rfl) (by kernel_rfl) (by kernel_rfl) (fun _ _ _ h => h) ⟨Or.inr ⟨by rfl, rfl⟩, fun _ => rfl⟩ ?_
            refine wpAnyIn_ready (rs := [15]) (by kernel_rfl) (by simp) ?_
            refine AllReadyIn.cons rfl (fun K hK => ?_) AllReadyIn.nil
            go_simp
            refine hK _ _ ?_
            clear hK K
            refine wpAnyIn_done (by kernel_rfl) ?_ _
            gi_wp2_with fail
            refine bodyPost_ret (results_none rfl _ _ _) rfl ?_
            exact ⟨⟨_, rfl⟩, .inl ⟨_, rfl, HLAST.out _⟩⟩
        · go_simp
          refine hK _ _ ?_
          clear hK K
          refine wpAnyIn_ready (rs := [1]) (by kernel_rfl) (by simp) ?_
          refine AllReadyIn.cons rfl (fun K hK => ?_) AllReadyIn.nil
          go_simp
          refine hK _ _ ?_
          clear hK K
          refine wpAnyIn_take (i := 2) (v := .pointer (some ⟨b, 0, none⟩)) rfl rfl (by kernel_rfl) (by kernel_rfl) (by kernel_rfl) (fun _ _ _ h => h) ⟨Or.inl ⟨by rfl, fun w => by go_simp⟩, fun _ => rfl⟩ ?_
          refine wpAnyIn_take (i := 3) (v := .pointer (some ⟨b, 1, none⟩)) rfl rfl (by kernel_rfl) (by kernel_rfl) (by kernel_rfl) (fun _ _ _ h => h) ⟨Or.inl ⟨by rfl, fun w => by go_simp⟩, fun _ => rfl⟩ ?_
          refine wpAnyIn_ready (rs := [4]) (by kernel_rfl) (by simp) ?_
          refine AllReadyIn.cons rfl (fun K hK => ?_) AllReadyIn.nil
          go_simp
          refine hK _ _ ?_
          clear hK K
          refine wpAnyIn_take (i := 5) (v := .string (r.extract 0 K)) rfl rfl (by kernel_rfl) (by kernel_rfl) (by kernel_rfl) (fun _ _ _ h => h) ⟨Or.inl ⟨by rfl, fun w => by go_simp⟩, fun _ => rfl⟩ ?_
          refine wpAnyIn_ready (rs := [7]) (by kernel_rfl) (by simp) ?_
          refine AllReadyIn.cons rfl (fun K hK => ?_) AllReadyIn.nil
          go_simp
          refine ⟨trivial, fun h => (by simp [Fence.wide] at h), (callsIn_wide.2 (HP.out _)).mono ?_⟩
          rintro e w5 ⟨rfl, rfl⟩
          refine hK _ _ ?_
          clear hK K
          refine wpAnyIn_take (i := 8) (v := .bool true) rfl rfl (by kernel_rfl) (by kernel_rfl) (by kernel_rfl) (fun _ _ _ h => h) ⟨Or.inl ⟨by rfl, fun w => by go_simp⟩, fun _ => rfl⟩ ?_
          refine wpAnyIn_take (i := 9) (v := .bool true) rfl rfl (by kernel_rfl) (by kernel_rfl) (by kernel_rfl) (fun _ _ _ h => h) ⟨Or.inl ⟨by rfl, fun w => by go_simp⟩, fun _ => rfl⟩ ?_
          refine wpAnyIn_take (i := 10) (v := undef) rfl rfl (by kernel_rfl) (by kernel_rfl) (by kernel_rfl) (fun _ _ _ h => h) ⟨Or.inr ⟨by rfl, rfl⟩, fun _ => rfl⟩ ?_
          refine wpAnyIn_take (i := 11) (v := undef) rfl rfl (by kernel_rfl) (by kernel_rfl) (by kernel_rfl) (fun _ _ _ h => h) ⟨Or.inr ⟨by rfl, rfl⟩, fun _ => rfl⟩ ?_
          refine wpAnyIn_take (i := 12) (v := undef) rfl rfl (by kernel_rfl) (by kernel_rfl) (by kernel_rfl) (fun _ _ _ h => h) ⟨Or.inr ⟨by rfl, rfl⟩, fun _ => rfl⟩ ?_
          refine wpAnyIn_ready (rs := [13]) (by kernel_rfl) (by simp) ?_
          refine AllReadyIn.cons rfl (fun K hK => ?_) AllReadyIn.nil
          go_simp
          first | refine hK _ _ ?_ | refine ⟨fun _ _ => trivial, hK _ _ ?_⟩
          clear hK K
          refine wpAnyIn_take (i := 14) (v := undef) rfl rfl (by kernel_rfl) (by kernel_rfl) (by kernel_rfl) (fun _ _ _ h => h) ⟨Or.inr ⟨by rfl, rfl⟩, fun _ => rfl⟩ ?_
          refine wpAnyIn_ready (rs := [15]) (by kernel_rfl) (by simp) ?_
          refine AllReadyIn.cons rfl (fun K hK => ?_) AllReadyIn.nil
          go_simp
          refine hK _ _ ?_
          clear hK K
          refine wpAnyIn_done (by kernel_rfl) ?_ _
          gi_wp2_with fail
          refine bodyPost_ret (results_none rfl _ _ _) rfl ?_
          exact ⟨⟨_, rfl⟩, .inl ⟨_, rfl, HLAST.out _⟩⟩
        -- END miss

theorem prefix_seq {fr : Obj → Bool} {b B1 B2 W K : Nat} {s key : ByteArray} {w : World} {q : Nat → Prop} (hw : Wid W K s) (hm : MonoW K (rowsW W s) key) (hq : q b ∧ q B1 ∧ q B2) (h : SeqAt b B1 B2 W K s key w) :
    SeqQ Tryz.prog 204 #[.pointer (some ⟨B1, 0, none⟩), .pointer (some ⟨B2, 0, none⟩)] (fun x : Nat × ByteArray => #[.int .i64 x.1, .string x.2]) q fr (fun ys => ys = prefixW K (rowsW W s) key) (fun pre => pre <+: prefixW K (rowsW W s) key) w := fun n l J Jx W' hW hJ _ hY h0 =>
  prefix_in n l b B1 B2 W K W'.heap.size q fr s key hw hm hq _ J Jx hJ hY W' (h.below hW) h0
end Go.Proofs.YtlpjdknmnomdlaaGreatDoor
