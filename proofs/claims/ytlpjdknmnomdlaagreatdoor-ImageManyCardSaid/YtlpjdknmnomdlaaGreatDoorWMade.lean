/-
  Package table: New, by the first row that does not stand in order.
-/
import Derived.Test.YtlpjdknmnomdlaaGreatDoorWNew
import Derived.RangeFuncLeaves
namespace Go.Proofs.YtlpjdknmnomdlaaGreatDoor
open Go Go.RowKit

attribute [local go_sem] Oper.semAt_some

theorem fromW_prefix {l : List ByteArray} {pre : List (Nat × ByteArray)} {x : Nat × ByteArray} (h : pre ++ [x] <+: fromW 0 l) : ∃ r, l[pre.length]? = some r ∧ x = (pre.length, r) := by
  obtain ⟨t, ht⟩ := h
  have h2 := congrArg (fun l => l[pre.length]?) ht
  rw [fromW_at] at h2
  simp at h2
  cases hr : l[pre.length]? with
  | none => rw [hr] at h2; simp at h2
  | some r => rw [hr] at h2; simp at h2; exact ⟨r, rfl, h2⟩
theorem drop_cons {l : List ByteArray} {n : Nat} {r : ByteArray} (h : l[n]? = some r) : l.drop n = r :: l.drop (n + 1) := by
  obtain ⟨hn, rfl⟩ := List.getElem?_eq_some_iff.1 h
  exact List.drop_eq_getElem_cons hn

/-- What a round of checkOrder finds: the key ahead, and how the keys that are left must be judged. -/
structure ChA (w : World) (b W K : Nat) (s : ByteArray) (ahead : ByteArray) (j : Nat) (W' : World) : Prop where
  bad : badW K (rowsW W s) = goK ahead j (((rowsW W s).map (keyW K)).drop j)
  c0 : W'.heap[w.heap.size]? = some (.cells #[.pointer (some ⟨b, 0, none⟩)] 152 (0, 0))
  c1 : W'.heap[w.heap.size + 1]? = some (.cells #[.nilIface] 58 (0, 0))
  c2 : W'.heap[w.heap.size + 1 + 1]? = some (.cells #[.string ahead] 9 (0, 0))
  below : Below w.heap.size w W'
def ChI (w : World) (b W K : Nat) (s : ByteArray) (pre : List (Nat × ByteArray)) (W' : World) : Prop := ∃ ahead, ChA w b W K s ahead pre.length W'
def ChX (w : World) (W K : Nat) (s : ByteArray) (c : Code) (_ : List (Nat × ByteArray)) (W' : World) : Prop :=
  c = .ret ∧ (∃ (i : Nat) (v : Value), badW K (rowsW W s) = some i ∧ W'.heap[w.heap.size + 1]? = some (.cells #[v] 58 (0, 0)) ∧ FaultW W' v 13 ((i * W : Nat) : Int)) ∧ Below w.heap.size w W'
/-- The blocks that a round leaves alone. -/
def qCh (n : Nat) (k : Nat) : Prop := k < n ∨ k = n + 1 + 1 + 1 ∨ k = n + 1 + 1 + 1 + 1

/-- What checkOrder tells. -/
def OrdW (W' : World) (v : Value) (W : Nat) : Option Nat → Prop
  | none => v = .nilIface
  | some i => FaultW W' v 13 ((i * W : Nat) : Int)

theorem ownFrom_belowW {β : Type} {B B0 : Nat} {W0 : World} (hB : B0 ≤ B) (hs0 : B0 ≤ W0.heap.size) : OwnFrom B (fun (_ : β) W => Below B0 W0 W) :=
  fun _ _ _ _ hs hg hr => hs.grown hg (Nat.le_trans hs0 hs.size) (fun r e => by have := (hr r e).1; omega)
theorem ch_end {w W' : World} {D W : Nat} {a : Act} {v : Value} {o : Option Nat} (hv : OrdW W' v W o)
    (hr : W'.heap[w.heap.size + 1]? = some (.cells #[v] 58 (0, 0))) (h1 : W'.heap[D]? = some (.deferred (some [])))
    (hw1 : w.heap.size + 1 < D) (hB : Below w.heap.size w W') (ha : a.defers = [{ target := .collected D, args := #[] }]) (ht : a.tmps.getD 2 undef = .pointer (some ⟨w.heap.size + 1, 0, none⟩)) :
    bodyPostM Fence.wide 0 Tryz.prog Tryz.f172 (fun e w' => ∃ v, e = .returned v ∧ (OrdW w' v W o ∧ Below w.heap.size w w')) .ret a W' := by
  have k1 : (W'.putObj D (.deferred none)).heap[w.heap.size + 1]? = some (.cells #[v] 58 (0, 0)) := (World.putObj_heap_other (by omega)).trans hr
  obtain ⟨tmps, defers⟩ := a
  dsimp only at ha ht
  subst ha
  rw [Array.getD_eq_getD_getElem?] at ht
  refine ⟨by simp, .inl ⟨_, _, rfl, run_takeDeferred h1, ?_⟩⟩
  refine ⟨v, by simp [results, Tryz.results172, go_sem, ht, cell_of_one k1], v, rfl, ?_, ?_⟩
  · cases o with
    | none => exact hv
    | some i => exact FaultW.grown hv (grownBy_putObj' W' D (.deferred none)) (fun r e => by cases e; exact ⟨_, h1, rfl⟩)
  · exact hB.trans (belowK_b (w := w) (Nat.le_refl _) _ D _ (.deferred none) (by omega) h1 rfl rfl)

set_option maxRecDepth 100000 in
set_option maxHeartbeats 4000000 in
theorem orderW_any {b W K : Nat} {s : ByteArray} (w : World) (h : w.heap[b]? = some (tabObj W K s)) (hw : Wid W K s) :
    Calls Tryz.prog 172 #[.pointer (some ⟨b, 0, none⟩)] w fun e w' => ∃ v, e = .returned v ∧ (OrdW w' v W (badW K (rowsW W s)) ∧ Below w.heap.size w w') := by
  have H := Lib.hid h
  have hbl := lt_of_block h
  clear h
  refine callsIn_wide (n := 0) |>.1 ?_
  refine callsIn_of_wp_marks Tryz.func172 rfl trivial ?_ rfl
  simp only [Tryz.ntmps172, List.size_toArray, List.length_cons, List.length_nil, Nat.reduceAdd, Nat.reduceSub, Array.replicate_succ, Array.replicate_zero, List.push_toArray, List.append_toArray, List.nil_append, List.cons_append]
  gi_wp2_with fail
  obtain ⟨W0, hW0⟩ : ∃ W0, (((w.alloc (.cells #[.pointer (some ⟨b, 0, none⟩)] 152)).alloc (.cells #[.nilIface] 58)).alloc (.cells #[.string ({ data := #[] } : ByteArray)] 9)) = W0 := ⟨_, rfl⟩
  have hb0 : Below w.heap.size w W0 := by rw [← hW0]; exact (((Below.refl _ w).alloc (Nat.le_refl _) _).alloc (by simp) _).alloc (by simp; omega) _
  have hs0 : W0.heap.size = w.heap.size + 1 + 1 + 1 := by rw [← hW0]; simp
  have hx0 : W0.heap[w.heap.size]? = some (.cells #[.pointer (some ⟨b, 0, none⟩)] 152 (0, 0)) := by
    rw [← hW0, Below.heap_alloc _ _ _ (by simp; omega), Below.heap_alloc _ _ _ (by simp)]; exact World.alloc_heap_new w _
  have hy0 : W0.heap[w.heap.size + 1]? = some (.cells #[.nilIface] 58 (0, 0)) := by
    rw [← hW0, Below.heap_alloc _ _ _ (by simp)]
    have := World.alloc_heap_new (w.alloc (.cells #[.pointer (some ⟨b, 0, none⟩)] 152)) (.cells #[.nilIface] 58)
    rwa [World.size_alloc] at this
  have hz0 : W0.heap[w.heap.size + 1 + 1]? = some (.cells #[.string ({ data := #[] } : ByteArray)] 9 (0, 0)) := by
    rw [← hW0]
    have := World.alloc_heap_new ((w.alloc (.cells #[.pointer (some ⟨b, 0, none⟩)] 152)).alloc (.cells #[.nilIface] 58)) (.cells #[.string ({ data := #[] } : ByteArray)] 9)
    rwa [World.size_alloc, World.size_alloc] at this
  rw [hW0]
  clear hW0
  have HX0 := Lib.hid hx0
  have HY0 := Lib.hid hy0
  have HZ0 := Lib.hid hz0
  have HB0 := Lib.hid hb0
  have HS0 := Lib.hid hs0
  have hl0 := (hb0.block b hbl).trans H.out
  clear hx0 hy0 hz0 hb0
  refine ⟨trivial, rfl, CallsIn.mono (callsIn_wide.2 (prefix_make (some ⟨b, 0, none⟩) ⟨#[]⟩ W0)) ?_⟩
  rintro e W1 ⟨rfl, hW1⟩
  rw [hs0]
  have hb1 : Below W0.heap.size W0 W1 := by rw [← hW1]; exact ((Below.refl _ W0).alloc (Nat.le_refl _) _).alloc (by simp) _
  have hs1 : W1.heap.size = w.heap.size + 1 + 1 + 1 + 1 + 1 := by rw [← hW1, ← hs0]; simp
  have hseq0 : SeqAt b (w.heap.size + 1 + 1 + 1) (w.heap.size + 1 + 1 + 1 + 1) W K s ⟨#[]⟩ W1 := by
    refine ⟨(hb1.block b (by omega)).trans hl0, ?_, ?_⟩
    · rw [← hW1, Below.heap_alloc _ _ _ (by simp; omega), ← hs0]; exact World.alloc_heap_new W0 _
    · rw [← hW1, ← hs0]
      have := World.alloc_heap_new (W0.alloc (.cells #[.pointer (some ⟨b, 0, none⟩)] 152)) (.cells #[.string ({ data := #[] } : ByteArray)] 9)
      rwa [World.size_alloc] at this
  have hseq := prefix_seq (fr := fun _ => false) (q := qCh w.heap.size) hw (mono_empty K (rowsW W s)) ⟨.inl hbl, .inr (.inl rfl), .inr (.inr rfl)⟩ hseq0
  rw [prefix_empty] at hseq
  have HB1 := Lib.hid (HB0.out.trans (hb1.mono (by omega)))
  have HX1 := Lib.hid ((hb1.block _ (by omega)).trans HX0.out)
  have HY1 := Lib.hid ((hb1.block _ (by omega)).trans HY0.out)
  have HZ1 := Lib.hid ((hb1.block _ (by omega)).trans HZ0.out)
  clear hb1 hs0 hW1 hl0 hseq0 HX0 HY0 HZ0 HB0 HS0
  have HS1 := Lib.hid hs1
  clear hs1
  gi_wp2_with fail
  refine rangeQ (gf := 204) (lb := #[.pointer (some ⟨w.heap.size + 1 + 1 + 1, 0, none⟩), .pointer (some ⟨w.heap.size + 1 + 1 + 1 + 1, 0, none⟩)]) rfl (Go.Proofs.enters_of Tryz.func204 (by kernel_rfl) rfl) hseq (fun _ h => by cases h) (fun j h => by unfold qCh at h; have := HS1.out; omega) (fun _ => rfl)
    (ChI w b W K s) (ChX w W K s)
    (fun s' A B row hs hg hr => by
      obtain ⟨ahead, h0, h1, h2, h3, h4⟩ := hs
      have hz := HS1.out
      exact ⟨ahead, h0, ownFrom_block (β := Unit) (by omega) () A B row h1 hg hr, ownFrom_block (β := Unit) (by omega) () A B row h2 hg hr, ownFrom_block (β := Unit) (by omega) () A B row h3 hg hr, ownFrom_belowW (β := Unit) (by omega) (Nat.le_refl _) () A B row h4 hg hr⟩)
    (fun c s' A B row hs hg hr => by
      obtain ⟨h0, ⟨i, v, h1, h2, h3⟩, h4⟩ := hs
      have hz := HS1.out
      exact ⟨h0, ⟨i, v, h1, ownFrom_block (β := Unit) (by omega) () A B row h2 hg hr, h3.grown hg (fun r e => (hr r e).2)⟩, ownFrom_belowW (β := Unit) (by omega) (Nat.le_refl _) () A B row h4 hg hr⟩)
    ⟨⟨#[]⟩, by rw [List.length_nil, List.drop_zero]; rfl, HX1.out, HY1.out, HZ1.out, HB1.out⟩
    (fun y => { tmps := #[.pointer (some ⟨b, 0, none⟩), .pointer (some ⟨w.heap.size, 0, none⟩), .pointer (some ⟨w.heap.size + 1, 0, none⟩), .pointer (some ⟨w.heap.size + 1 + 1, 0, none⟩), .int .i64 y.1, .string y.2, .pointer (some ⟨b, 0, none⟩), .func (.func 204) #[] #[.pointer (some ⟨w.heap.size + 1 + 1 + 1, 0, none⟩), .pointer (some ⟨w.heap.size + 1 + 1 + 1 + 1, 0, none⟩)], .int .i64 y.1, .string y.2, undef, undef, undef, undef, undef, undef, undef, undef, undef, undef, undef, undef, undef, undef, undef, undef, undef, undef, undef, undef, undef], defers := [] })
    ?assign ?body ?done ?stop
  case assign =>
    intro l' y W3 K' hK
    gi_wp2
    exact hK
  case body =>
    rintro l' pre x W3 ⟨ahead, hc⟩ hpre hsz3
    obtain ⟨r, hr, rfl⟩ := fromW_prefix hpre
    obtain ⟨hi, hrv⟩ := rowsW_get hr
    have hrs : r.size = W := by rw [hrv]; exact rowW_size hi
    have hn : s.size / W ≤ 1048576 := Nat.le_trans (Nat.div_le_self _ _) hw.sz
    obtain ⟨t0, t1, t2⟩ := tab_cells ((hc.below.block b hbl).trans H.out)
    have c0 := cell_of_one hc.c0
    have c1 := cell_of_one hc.c1
    have f1 := free_of_one hc.c1
    have c2 := cell_of_one hc.c2
    have f2 := free_of_one hc.c2
    have k1 : (K : Int) ≤ (r.size : Int) := by have := hw.kW; omega
    have k0 : (0 : Int) ≤ (K : Int) := by omega
    have HBAD := Lib.hid (show badW K (rowsW W s) = if ltW ahead (r.extract 0 K) = true then goK (r.extract 0 K) (pre.length + 1) (((rowsW W s).map (keyW K)).drop (pre.length + 1)) else some pre.length by
      rw [hc.bad, drop_cons (r := keyW K r) (by rw [List.getElem?_map, hr]; rfl)]; rfl)
    have HPL := Lib.hid (show (pre ++ [(pre.length, r)]).length = pre.length + 1 by simp)
    have HC := Lib.hid hc
    have HE := row_end hi
    have hwz := hw.sz
    have hwp := hw.pos
    clear hc hr hrv hpre hrs
    obtain ⟨n, hnn⟩ : ∃ n, pre.length = n := ⟨_, rfl⟩
    rw [hnn] at HBAD HPL hi HE ⊢
    dsimp only
    by_cases hlt : ltW ahead (r.extract 0 K) = true
    · have HB := Lib.hid (show badW K (rowsW W s) = goK (r.extract 0 K) (n + 1) (((rowsW W s).map (keyW K)).drop (n + 1)) by rw [HBAD.out, if_pos hlt])
      have e1 : Op.bytesLess (r.extract 0 K).toList ahead.toList = false := by rw [less_ltW]; exact ltW_asymm hlt
      have e2 : ((r.extract 0 K).toList == ahead.toList) = false := by rw [eql_W]; exact decide_eq_false (fun e => by rw [e, ltW_irrefl] at hlt; cases hlt)
      clear hlt HBAD HE hnn
      gi_wp2_with fail
      refine wpIn_region_quiet_round (by kernel_rfl) (by kernel_rfl) (by kernel_rfl) ?_
      repeat (quiet_step_in (fail))
      refine wpQuietIn_nil ?_
      rintro _ ⟨nq, rfl⟩
      gi_wp2_with fail
      have hz := HS1.out
      have hb := HC.out.below
      refine ⟨(KeepQ.of_below (A := W3) (below_drewN (Below.refl _ _) nq)).trans (KeepQ.setCell _ _ _ _ (p := ⟨w.heap.size + 1 + 1, 0, none⟩) _ (fun h => by unfold qCh at h; simp only at h; omega) (by show w.heap.size + 1 + 1 < W1.heap.size; omega)), r.extract 0 K, ?_⟩
      refine ⟨by rw [HPL.out]; exact HB.out, (Below.heap_setCell _ _ _ _ (by show w.heap.size ≠ w.heap.size + 1 + 1; omega)).trans HC.out.c0, (Below.heap_setCell _ _ _ _ (by show w.heap.size + 1 ≠ w.heap.size + 1 + 1; omega)).trans HC.out.c1, one_setCell (w := W3.drewN nq) HC.out.c2, (below_drewN hb nq).setCell (p := ⟨w.heap.size + 1 + 1, 0, none⟩) (by show w.heap.size ≤ w.heap.size + 1 + 1; omega) _⟩
    · have HB := Lib.hid (show badW K (rowsW W s) = some n by rw [HBAD.out, if_neg hlt])
      obtain ⟨z1, z2, e1, e2, e3⟩ : ∃ z1 z2, Op.bytesLess (r.extract 0 K).toList ahead.toList = z1 ∧ ((r.extract 0 K).toList == ahead.toList) = z2 ∧ (z1 || z2) = true := by
        refine ⟨_, _, rfl, rfl, ?_⟩
        rw [less_ltW, eql_W]
        cases h1 : ltW (r.extract 0 K) ahead with
        | true => rfl
        | false => rw [Bool.false_or, decide_eq_true_eq]; exact ltW_tri h1 (by simpa using hlt)
      have HM := Lib.hid (show wrap64 ((n : Int) * (W : Int)) = ((n * W : Nat) : Int) by
        have : (n + 1) * W = n * W + W := Nat.succ_mul n W
        rw [← Int.natCast_mul]; exact IntWalk.wrap64_in _ ⟨by omega, by omega⟩)
      clear hlt HBAD HE hnn
      gi_wp2_with fail
      refine wpIn_region_quiet_round (by kernel_rfl) (by kernel_rfl) (by kernel_rfl) ?_
      repeat (quiet_step_in (fail))
      refine wpQuietIn_nil ?_
      rintro _ ⟨nq, rfl⟩
      gi_wp2_with fail
      refine ⟨trivial, rfl, ((callsIn_wide.2 (newW_any 13 _ _ (by decide))).inRound l').mono ?_⟩
      rintro e W4 ⟨v, rfl, hv, hb4⟩
      rw [HM.out] at hv
      have d1 := (hb4.cell (p := ⟨w.heap.size + 1, 0, none⟩) (lt_of_cellW c1)).trans c1
      have g1 := (hb4.frozen (p := ⟨w.heap.size + 1, 0, none⟩) (lt_of_cellW c1)).trans f1
      obtain ⟨t, u, rfl⟩ := hv.iface
      have HV := Lib.hid hv
      have HB4 := Lib.hid hb4
      clear hv hb4
      gi_wp2_with fail
      have hz := HS1.out
      have hb := HC.out.below
      have hb5 : Below W3.heap.size W3 W4 := (below_drewN (Below.refl _ W3) nq).trans HB4.out
      refine ⟨(KeepQ.of_below hb5).trans (KeepQ.setCell _ _ _ _ (p := ⟨w.heap.size + 1, 0, none⟩) _ (fun h => by unfold qCh at h; simp only at h; omega) (by show w.heap.size + 1 < W1.heap.size; omega)), rfl, ⟨n, .iface t u, HB.out, one_setCell ((hb5.block _ (lt_of_block HC.out.c1)).trans HC.out.c1), ?_⟩, (hb.trans (hb5.mono hb.size)).setCell (p := ⟨w.heap.size + 1, 0, none⟩) (by show w.heap.size ≤ w.heap.size + 1; omega) _⟩
      obtain ⟨b', e', h'⟩ := HV.out
      refine ⟨b', e', (Below.heap_setCell _ _ _ _ (fun e => ?_)).trans h'⟩
      have h4 := (hb5.block _ (lt_of_block HC.out.c1)).trans HC.out.c1
      rw [show b' = w.heap.size + 1 from e, h4] at h'
      simp [faultObj] at h'
  case done =>
    rintro D ys W3 hD rfl ⟨ahead, hc⟩ hK
    have hz := HS1.out
    have HB := Lib.hid (show badW K (rowsW W s) = none by
      rw [hc.bad, fromW_len, List.drop_eq_nil_of_le (by rw [List.length_map]; exact Nat.le_refl _)]; rfl)
    have c1 := cell_of_one hc.c1
    have f1 := free_of_one hc.c1
    have HC := Lib.hid hc
    have HK := Lib.hid hK
    clear hc hK hseq
    gi_wp2_with fail
    have hb := HC.out.below
    refine ch_end (v := .nilIface) (by rw [HB.out]; rfl) (one_setCell HC.out.c1) ((Below.heap_setCell _ _ _ _ (by show D ≠ w.heap.size + 1; omega)).trans HK.out) (by omega) (hb.setCell (p := ⟨w.heap.size + 1, 0, none⟩) (by show w.heap.size ≤ w.heap.size + 1; omega) _) rfl rfl
  case stop =>
    rintro D c pre W3 hD hpre ⟨rfl, ⟨i, v, h1, h2, h3⟩, hbl3⟩ hK
    have hz := HS1.out
    clear hseq
    gi_wp2_with fail
    exact ch_end (v := v) (by rw [h1]; exact h3) h2 hK (by omega) hbl3 rfl rfl

/-- What New and Build tell: an error, by kind and place; or none. -/
def newE (w k : Int) (s : ByteArray) : Option (Int × Int) :=
  if k < 1 ∨ w < k ∨ 255 < w then some (1, 0)
  else if s.size % w.toNat ≠ 0 then some (12, (s.size : Int))
  else match badW k.toNat (rowsW w.toNat s) with
    | some i => some (13, ((i * w.toNat : Nat) : Int))
    | none => none
/-- A table and no error, or no table and an error. -/
def MadeW (W' : World) (t v : Value) (w k : Int) (s : ByteArray) : Option (Int × Int) → Prop
  | none => v = .nilIface ∧ ∃ b, t = .pointer (some ⟨b, 0, none⟩) ∧ W'.heap[b]? = some (tabObj w.toNat k.toNat s)
  | some (e, p) => t = .pointer none ∧ FaultW W' v e p
theorem newE_bad {w k : Int} {s : ByteArray} (h : k < 1 ∨ w < k ∨ 255 < w) : newE w k s = some (1, 0) := if_pos h
theorem newE_form {W K : Nat} {s : ByteArray} (h1 : 0 < K) (h2 : K ≤ W) (h3 : W ≤ 255) (h : s.size % W ≠ 0) : newE W K s = some (12, (s.size : Int)) := by
  unfold newE
  rw [if_neg (by omega), Int.toNat_natCast, if_pos h]
theorem newE_order {W K : Nat} {s : ByteArray} (h1 : 0 < K) (h2 : K ≤ W) (h3 : W ≤ 255) (h : s.size % W = 0) : newE W K s = match badW K (rowsW W s) with
    | some i => some (13, ((i * W : Nat) : Int))
    | none => none := by
  unfold newE
  rw [if_neg (by omega), Int.toNat_natCast, Int.toNat_natCast, if_neg (by simpa using h)]

set_option maxRecDepth 100000 in
set_option maxHeartbeats 1000000 in
theorem new_table (wi ki : Int) (s : ByteArray) (w : World) (hs : s.size ≤ 1048576) :
    Calls Tryz.prog 151 #[.int .i64 wi, .int .i64 ki, .string s] w fun e w' => ∃ t v, e = .returned (.tuple #[t, v]) ∧ (MadeW w' t v wi ki s (newE wi ki s) ∧ Below w.heap.size w w') := by
  by_cases hbad : ki < 1 ∨ wi < ki ∨ 255 < wi
  · have HC := Lib.hid (sizesW_bad wi ki w hbad)
    have HE := Lib.hid (newE_bad (s := s) hbad)
    clear hbad
    go_enter Tryz.func151, Tryz.ntmps151
    go_wp2_with (go_at_call 150; (with_reducible refine HC.out.mono ?_); rintro e w1 ⟨v, rfl, hv⟩; obtain ⟨t, u, rfl⟩ := hv.1.iface; have HV := Lib.hid hv; clear hv)
    go_ret2
    exact ⟨_, _, rfl, by rw [HE.out]; exact ⟨rfl, HV.out.1⟩, HV.out.2⟩
  · obtain ⟨W, rfl⟩ : ∃ W : Nat, wi = (W : Int) := ⟨wi.toNat, by omega⟩
    obtain ⟨K, rfl⟩ : ∃ K : Nat, ki = (K : Int) := ⟨ki.toNat, by omega⟩
    have h1 : 0 < K := by omega
    have h2 : K ≤ W := by omega
    have h3 : W ≤ 255 := by omega
    clear hbad
    have HC := Lib.hid (sizesW_ok W K w h1 h2 h3)
    have hW : 0 < W := by omega
    have w0 : ((W : Int) == 0) = false := by rw [beq_eq_false_iff_ne]; omega
    have w1 : (W : Int) ≠ 0 := by omega
    have hm : ((s.size : Int).tmod (W : Int)) = ((s.size % W : Nat) : Int) := by rw [Int.tmod_eq_emod_of_nonneg (by omega), ← Int.natCast_emod]
    have hm2 : ((s.size : Int) % (W : Int)) = ((s.size % W : Nat) : Int) := by rw [← Int.natCast_emod]
    by_cases hmod : s.size % W = 0
    · rw [hmod] at hm hm2
      have hwid : Wid W K s := ⟨h1, h2, h3, hs⟩
      have HN := Lib.hid (newE_order h1 h2 h3 hmod)
      have HO := Lib.hid (orderW_any (b := w.heap.size) (w.alloc (tabObj W K s)) (World.alloc_heap_new w _) hwid)
      have HT := Lib.hid (World.alloc_heap_new w (tabObj W K s))
      unfold tabObj at HO HT
      cases hb : badW K (rowsW W s) with
      | none =>
        rw [hb] at HN HO
        clear hb hmod hwid h1 h2 h3 hs
        go_enter Tryz.func151, Tryz.ntmps151
        go_wp2_with (first | (go_at_call 150; (with_reducible refine HC.out.mono ?_); rintro e w' ⟨rfl, rfl⟩) | (go_at_call 172; (with_reducible refine HO.out.mono ?_); rintro e w2 ⟨v, rfl, hv, hb2⟩; have hv' : v = .nilIface := hv; subst hv'; have HB2 := Lib.hid hb2; clear hb2 hv))
        go_ret2
        refine ⟨_, _, rfl, ?_, ((Below.refl _ w).alloc (Nat.le_refl _) _).trans (HB2.out.mono (by simp))⟩
        rw [HN.out]
        refine ⟨rfl, w.heap.size, rfl, ?_⟩
        rw [Int.toNat_natCast, Int.toNat_natCast]
        exact (HB2.out.block _ (by simp)).trans HT.out
      | some i =>
        rw [hb] at HN HO
        clear hb hmod hwid h1 h2 h3 hs
        go_enter Tryz.func151, Tryz.ntmps151
        go_wp2_with (first | (go_at_call 150; (with_reducible refine HC.out.mono ?_); rintro e w' ⟨rfl, rfl⟩) | (go_at_call 172; (with_reducible refine HO.out.mono ?_); rintro e w2 ⟨v, rfl, hv, hb2⟩; have hv' : FaultW w2 v 13 ((i * W : Nat) : Int) := hv; obtain ⟨t, u, rfl⟩ := hv'.iface; have HV := Lib.hid hv'; have HB2 := Lib.hid hb2; clear hb2 hv hv'))
        go_ret2
        refine ⟨_, _, rfl, ?_, ((Below.refl _ w).alloc (Nat.le_refl _) _).trans (HB2.out.mono (by simp))⟩
        rw [HN.out]
        exact ⟨rfl, HV.out⟩
    · have HN := Lib.hid (newE_form (s := s) h1 h2 h3 hmod)
      have HF := Lib.hid (newW_any 12 (s.size : Int) w (by decide))
      obtain ⟨z, hz⟩ : ∃ z, s.size % W = z := ⟨_, rfl⟩
      rw [hz] at hm hm2 hmod
      have hz1 : ((z : Int) == 0) = false := by rw [beq_eq_false_iff_ne]; omega
      clear hz h1 h2 h3 hs
      go_enter Tryz.func151, Tryz.ntmps151
      go_wp2_with (first | (go_at_call 150; (with_reducible refine HC.out.mono ?_); rintro e w' ⟨rfl, rfl⟩) | (go_at_call 62; (with_reducible refine HF.out.mono ?_); rintro e w1 ⟨v, rfl, hv⟩; obtain ⟨t, u, rfl⟩ := hv.1.iface; have HV := Lib.hid hv; clear hv))
      go_ret2
      exact ⟨_, _, rfl, by rw [HN.out]; exact ⟨rfl, HV.out.1⟩, HV.out.2⟩
end Go.Proofs.YtlpjdknmnomdlaaGreatDoor
