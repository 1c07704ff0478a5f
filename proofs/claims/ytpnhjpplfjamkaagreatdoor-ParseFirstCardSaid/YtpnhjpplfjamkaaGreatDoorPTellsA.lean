/-
  ParseTells: of one text. (Printed by wip/gen_ptells.py.)
-/
import Derived.Test.YtpnhjpplfjamkaaGreatDoorQGot
import Derived.Test.YtpnhjpplfjamkaaGreatDoorPCasesW
namespace Go.Proofs.YtpnhjpplfjamkaaGreatDoor
open Go Go.RowKit

theorem take_kind {st : PSt} {a : Nat} {p : ByteArray} {e : PErr} (h : takeP st a p = .error e) : e.1 = 10 ∨ e.1 = 11 := by
  unfold takeP furtherP at h
  repeat' split at h
  all_goals first
    | (cases h; exact .inl rfl)
    | (cases h; exact .inr rfl)
    | cases h
theorem run_kind : ∀ (l : List (Nat × ByteArray)) (st : PSt) {e : PErr}, (runP l st).2 = some e → e.1 = 10 ∨ e.1 = 11
  | [], st, e, h => by cases h
  | x :: r, st, e, h => by
    simp only [runP] at h
    cases ht : takeP st x.1 (lowS x.2) with
    | error e' => rw [ht] at h; obtain rfl := Option.some.inj h; exact take_kind ht
    | ok st' => rw [ht] at h; exact run_kind r _ h
theorem fin_kind {n : Nat} {r : PSt × Option PErr} {e : PErr} (hr : ∀ e, r.2 = some e → e.1 = 10 ∨ e.1 = 11) (h : (finP n r).2 = some e) : e.1 = 10 ∨ e.1 = 11 := by
  obtain ⟨st, o⟩ := r
  cases o with
  | some e' => exact hr e h
  | none =>
    simp only [finP] at h
    split at h
    · obtain rfl := Option.some.inj h; exact .inl rfl
    · cases h
/-- What is told of an error. -/
theorem parse_err {s : ByteArray} {x : PErr} (h : (parseS s).2 = some x) : parseS s = (pNo, some x) ∧ (x.1 = 10 ∨ x.1 = 11) := by
  unfold parseS at h ⊢
  split at h
  · cases h
  · rename_i hf
    rw [if_neg hf]
    have hk : ∀ e, (readS s).2 = some e → e.1 = 10 ∨ e.1 = 11 := fun e he => fin_kind (fun e he => run_kind _ _ he) he
    cases hr : readS s with
    | mk st o =>
      rw [hr] at h hk
      cases o with
      | none => cases h
      | some e =>
        obtain rfl := Option.some.inj h
        exact ⟨rfl, hk e rfl⟩
theorem errN7 {W : World} {ev : Value} (h : ErrP W none ev) : ev = .nilIface := by
  rcases h with ⟨_, h⟩ | ⟨x, b, h, _⟩
  · exact h
  · cases h
set_option maxRecDepth 1000000 in
set_option maxHeartbeats 16000000 in
theorem tells7_any (s : ByteArray) (w : World) (hs : s.size ≤ 40000) (hl : ParseLaid w) :
    Calls Tryz.prog 11 #[.string s] w fun e w' => e = .returned (.bool true) ∧ Below w.heap.size w w' := by
  have hwide := parse_wide s hs
  have PA := Lib.hid (parse_own s w (by omega) hl.g)
  have RA := Lib.hid (fun w5 => parse_ref s w5 (by omega))
  have VA := Lib.hid (fun w5 (hb : Below w.heap.size w w5) => valid_own s w5 (by omega) (hl.below hb).g)
  have HL := Lib.hid (fun w5 (hb : Below w.heap.size w w5) => (hl.below hb).t)
  cases hr : (parseS s).2 with
  | none =>
    obtain ⟨T, hT⟩ : ∃ T, (parseS s).1 = T := ⟨_, rfl⟩
    have hp : parseS s = (T, none) := Prod.ext hT hr
    rw [hp] at hwide
    have PZ := Lib.hid (PA.out.mono (R' := fun e w' => ∃ f1 f2 f3 f4 f5 f6 f7 f8, e = .returned (.tuple #[.agg #[.string T.lang, .slice f1 T.extl.length f2, .string T.script, .string T.region, .slice f3 T.vars.length f4, .slice f5 T.exts.length f6, .slice f7 T.priv.length f8, .string T.grand], .nilIface]) ∧ TagIs w' (.agg #[.string T.lang, .slice f1 T.extl.length f2, .string T.script, .string T.region, .slice f3 T.vars.length f4, .slice f5 T.exts.length f6, .slice f7 T.priv.length f8, .string T.grand]) T ∧ Below w.heap.size w w') fun e w' ⟨tv, ev, h1, h2, h3, h4⟩ => by
      rw [hp] at h2 h3
      obtain rfl := errN7 h3
      obtain ⟨ae, ac, av, vc, ax, xc, ap, pc, rfl⟩ := tag_shape h2
      exact ⟨ae, ac, av, vc, ax, xc, ap, pc, h1, h2, h4⟩)
    have RZ := Lib.hid (fun w5 => (RA.out w5).mono (R' := fun e w' => ∃ g1 g2 g3 g4 g5 g6 g7 g8, e = .returned (.agg #[.string T.lang, .slice g1 T.extl.length g2, .string T.script, .string T.region, .slice g3 T.vars.length g4, .slice g5 T.exts.length g6, .slice g7 T.priv.length g8, .string T.grand, .int .i64 0, .int .i64 0, .string ⟨#[]⟩]) ∧ TagIs w' (.agg #[.string T.lang, .slice g1 T.extl.length g2, .string T.script, .string T.region, .slice g3 T.vars.length g4, .slice g5 T.exts.length g6, .slice g7 T.priv.length g8, .string T.grand]) T ∧ Below w5.heap.size w5 w') fun e w' ⟨v, h1, h2, h3⟩ => by
      rw [hp] at h2
      obtain ⟨a1, a2, a3, a4, a5, a6, a7, a8, rfl, ht⟩ := got_ok h2
      exact ⟨a1, a2, a3, a4, a5, a6, a7, a8, h1, ht, h3⟩)
    have VZ := Lib.hid (fun w5 (hb : Below w.heap.size w w5) => show Calls Tryz.prog 30 #[.string s] w5 (fun e w' => e = .returned (.bool true) ∧ Below w5.heap.size w5 w') from (VA.out w5 hb).mono fun e w' ⟨p, q⟩ => ⟨by rw [p, hp]; rfl, q⟩)
    have KZ := Lib.hid (fun w5 => show Calls Tryz.prog 17 #[.nilIface] w5 (fun e w' => e = .returned (.int .i64 0) ∧ Below w5.heap.size w5 w') from kind_nil w5)
    have HWI := Lib.hid hwide
    clear PA RA VA hr hT hp hwide hl HL
    go_enter Tryz.func11, Tryz.ntmps11
    go_upto_region 2 with (go_at_call 16; (with_reducible refine PZ.out.mono ?_); rintro e w1 ⟨f1, f2, f3, f4, f5, f6, f7, f8, rfl, hT1, hb1⟩)
    obtain ⟨W2, hW2⟩ : ∃ x, w1.alloc (.cells #[.string T.lang, .slice f1 T.extl.length f2, .string T.script, .string T.region, .slice f3 T.vars.length f4, .slice f5 T.exts.length f6, .slice f7 T.priv.length f8, .string T.grand] 31) = x := ⟨_, rfl⟩
    have hb2 : Below w1.heap.size w1 W2 := by rw [← hW2]; exact (Below.refl _ _).alloc (Nat.le_refl _) _
    have hX2 : W2.heap[w1.heap.size]? = some (.cells #[.string T.lang, .slice f1 T.extl.length f2, .string T.script, .string T.region, .slice f3 T.vars.length f4, .slice f5 T.exts.length f6, .slice f7 T.priv.length f8, .string T.grand] 31 (0, 0)) := by rw [← hW2]; exact World.alloc_heap_new _ _
    rw [hW2]
    clear hW2
    go_upto_region 3 with (go_at_call 28; (with_reducible refine (RZ.out _).mono ?_); rintro e w3 ⟨g1, g2, g3, g4, g5, g6, g7, g8, rfl, hT3, hb3⟩)
    obtain ⟨W4, hW4⟩ : ∃ x, w3.alloc (.cells #[.string T.lang, .slice g1 T.extl.length g2, .string T.script, .string T.region, .slice g3 T.vars.length g4, .slice g5 T.exts.length g6, .slice g7 T.priv.length g8, .string T.grand, .int .i64 0, .int .i64 0, .string ⟨#[]⟩] 54) = x := ⟨_, rfl⟩
    have hb4 : Below w3.heap.size w3 W4 := by rw [← hW4]; exact (Below.refl _ _).alloc (Nat.le_refl _) _
    have hX4 : W4.heap[w3.heap.size]? = some (.cells #[.string T.lang, .slice g1 T.extl.length g2, .string T.script, .string T.region, .slice g3 T.vars.length g4, .slice g5 T.exts.length g6, .slice g7 T.priv.length g8, .string T.grand, .int .i64 0, .int .i64 0, .string ⟨#[]⟩] 54 (0, 0)) := by rw [← hW4]; exact World.alloc_heap_new _ _
    rw [hW4]
    clear hW4
    have hb24 := hb3.trans (hb4.mono hb3.size)
    have hB4 : Below w.heap.size w W4 := (hb1.trans (hb2.mono hb1.size)).trans (hb24.mono (Nat.le_trans hb1.size hb2.size))
    have HX := Lib.hid (fun w' (h : Below W4.heap.size W4 w') => And.intro (tag_cells ((h.block _ (Nat.lt_of_lt_of_le (lt_of_heap hX2) hb24.size)).trans ((hb24.block _ (lt_of_heap hX2)).trans hX2))) (got_cells ((h.block _ (lt_of_heap hX4)).trans hX4)))
    have SM := Lib.hid (same_wide (.agg #[.string T.lang, .slice f1 T.extl.length f2, .string T.script, .string T.region, .slice f3 T.vars.length f4, .slice f5 T.exts.length f6, .slice f7 T.priv.length f8, .string T.grand]) (.agg #[.string T.lang, .slice g1 T.extl.length g2, .string T.script, .string T.region, .slice g3 T.vars.length g4, .slice g5 T.exts.length g6, .slice g7 T.priv.length g8, .string T.grand]) T T W4 ((hT1.below hb2).below hb24) (hT3.below hb4) HWI.out)
    rw [sameT_self] at SM
    have HB4 := Lib.hid hB4
    obtain ⟨⟨a0, a1, a2, a3, a4, a5, a6, a7⟩, ⟨c0, c1, c2, c3, c4, c5, c6, c7, c8, c9, c10⟩⟩ := HX.out W4 (Below.refl _ _)
    clear hX2 hX4 hb1 hb2 hb3 hb4 hb24 hT1 hT3 hB4
    generalize w3.heap.size = G at *
    generalize w1.heap.size = X at *
    go_upto_region 4 with (go_at_call 29; (with_reducible refine SM.out.mono ?_); rintro e w5 ⟨rfl, hb5⟩)
    clear a0 a1 a2 a3 a4 a5 a6 a7 c0 c1 c2 c3 c4 c5 c6 c7 c8 c9 c10
    have HS := Lib.hid (fun w' (h : Below W4.heap.size W4 w') => (show Below W4.heap.size W4 w' ∧ w'.cell? ⟨G, 8, none⟩ = some (.int .i64 0) from ⟨h, (HX.out _ h).2.2.2.2.2.2.2.2.2.1⟩))
    have hmd : Below W4.heap.size W4 w5.drew := hb5.drew
    have VY := Lib.hid (fun w6 (h : Below W4.heap.size W4 w6) => (VZ.out w6 (HB4.out.trans (h.mono HB4.out.size))).mono (R' := fun e w' => e = .returned (.bool true) ∧ Below W4.heap.size W4 w') fun e w' ⟨p, q⟩ => ⟨p, h.trans (q.mono h.size)⟩)
    have KY := Lib.hid (fun w6 (h : Below W4.heap.size W4 w6) => (KZ.out w6).mono (R' := fun e w' => e = .returned (.int .i64 0) ∧ Below W4.heap.size W4 w') fun e w' ⟨p, q⟩ => ⟨p, h.trans (q.mono h.size)⟩)
    obtain ⟨-, d8⟩ := HS.out _ hmd
    go_region_held3 (fun w' => Below W4.heap.size W4 w' ∧ w'.cell? ⟨G, 8, none⟩ = some (.int .i64 0))
      (exact HS.out _ (by assumption))
      (first
        | (go_at_call 17; (with_reducible refine (KY.out _ (by assumption)).mono ?_); rintro e w6 ⟨rfl, hb6⟩)
        | (go_at_call 30; (with_reducible refine (VY.out _ (by assumption)).mono ?_); rintro e w7 ⟨rfl, hb7⟩))
    obtain ⟨-, e8⟩ := HS.out _ hb7
    go_wp2_with fail
    go_ret
    exact ⟨rfl, HB4.out.trans (hb7.mono HB4.out.size)⟩
  | some x =>
    obtain ⟨hp, hk⟩ := parse_err hr
    obtain ⟨T, hT⟩ : ∃ T, pNo = T := ⟨_, rfl⟩
    rw [hp] at hwide
    have hwT : TagWide T := by rw [← hT]; exact hwide
    have HZ := Lib.hid (fun w' => show TagIs w' (.agg #[.string ⟨#[]⟩, .slice none 0 0, .string ⟨#[]⟩, .string ⟨#[]⟩, .slice none 0 0, .slice none 0 0, .slice none 0 0, .string ⟨#[]⟩]) T by rw [← hT]; exact pNo_is w')
    obtain ⟨xk, xp, xw⟩ := x
    have hk0 : (xk == 0) = false := by
      rw [beq_eq_false_iff_ne]
      have h : xk = 10 ∨ xk = 11 := hk
      omega
    have hkk : (xk != xk) = false := bne_self_eq_false xk
    have PZ := Lib.hid (PA.out.mono (R' := fun e w' => ∃ f1 f2 f3 f4 f5 f6 f7 f8 bf, e = .returned (.tuple #[.agg #[.string T.lang, .slice f1 T.extl.length f2, .string T.script, .string T.region, .slice f3 T.vars.length f4, .slice f5 T.exts.length f6, .slice f7 T.priv.length f8, .string T.grand], (.iface 82 (.pointer (some ⟨bf, 0, none⟩)))]) ∧ TagIs w' (.agg #[.string T.lang, .slice f1 T.extl.length f2, .string T.script, .string T.region, .slice f3 T.vars.length f4, .slice f5 T.exts.length f6, .slice f7 T.priv.length f8, .string T.grand]) T ∧ w'.heap[bf]? = some (faultObj (xp : Int) xw (.iface 44 (.int .i64 xk))) ∧ Below w.heap.size w w') fun e w' ⟨tv, ev, h1, h2, h3, h4⟩ => by
      rw [hp] at h2 h3
      have h2' : TagIs w' tv T := by rw [← hT]; exact h2
      obtain ⟨ae, ac, av, vc, ax, xc, ap, pc, rfl⟩ := tag_shape h2'
      rcases h3 with ⟨h3, _⟩ | ⟨y, bf, h3, rfl, h5⟩
      · cases h3
      · obtain rfl := Option.some.inj h3
        exact ⟨ae, ac, av, vc, ax, xc, ap, pc, bf, h1, h2', h5, h4⟩)
    have RZ := Lib.hid (fun w5 => (RA.out w5).mono (R' := fun e w' => e = .returned (.agg #[.string ⟨#[]⟩, .slice none 0 0, .string ⟨#[]⟩, .string ⟨#[]⟩, .slice none 0 0, .slice none 0 0, .slice none 0 0, .string ⟨#[]⟩, .int .i64 xk, .int .i64 (xp : Int), .string xw]) ∧ Below w5.heap.size w5 w') fun e w' ⟨v, h1, h2, h3⟩ => by
      rw [hp] at h2
      rw [got_err h2] at h1
      exact ⟨h1, h3⟩)
    have VZ := Lib.hid (fun w5 (hb : Below w.heap.size w w5) => show Calls Tryz.prog 30 #[.string s] w5 (fun e w' => e = .returned (.bool false) ∧ Below w5.heap.size w5 w') from (VA.out w5 hb).mono fun e w' ⟨p, q⟩ => ⟨by rw [p, hp]; rfl, q⟩)
    have HWI := Lib.hid hwT
    clear PA RA VA hr hT hp hk hwide hwT hl
    go_enter Tryz.func11, Tryz.ntmps11
    go_upto_region 2 with (go_at_call 16; (with_reducible refine PZ.out.mono ?_); rintro e w1 ⟨f1, f2, f3, f4, f5, f6, f7, f8, bf, rfl, hT1, hF1, hb1⟩)
    obtain ⟨W2, hW2⟩ : ∃ x, w1.alloc (.cells #[.string T.lang, .slice f1 T.extl.length f2, .string T.script, .string T.region, .slice f3 T.vars.length f4, .slice f5 T.exts.length f6, .slice f7 T.priv.length f8, .string T.grand] 31) = x := ⟨_, rfl⟩
    have hb2 : Below w1.heap.size w1 W2 := by rw [← hW2]; exact (Below.refl _ _).alloc (Nat.le_refl _) _
    have hX2 : W2.heap[w1.heap.size]? = some (.cells #[.string T.lang, .slice f1 T.extl.length f2, .string T.script, .string T.region, .slice f3 T.vars.length f4, .slice f5 T.exts.length f6, .slice f7 T.priv.length f8, .string T.grand] 31 (0, 0)) := by rw [← hW2]; exact World.alloc_heap_new _ _
    rw [hW2]
    clear hW2
    go_upto_region 3 with (go_at_call 28; (with_reducible refine (RZ.out _).mono ?_); rintro e w3 ⟨rfl, hb3⟩)
    obtain ⟨W4, hW4⟩ : ∃ x, w3.alloc (.cells #[.string ⟨#[]⟩, .slice none 0 0, .string ⟨#[]⟩, .string ⟨#[]⟩, .slice none 0 0, .slice none 0 0, .slice none 0 0, .string ⟨#[]⟩, .int .i64 xk, .int .i64 (xp : Int), .string xw] 54) = x := ⟨_, rfl⟩
    have hb4 : Below w3.heap.size w3 W4 := by rw [← hW4]; exact (Below.refl _ _).alloc (Nat.le_refl _) _
    have hX4 : W4.heap[w3.heap.size]? = some (.cells #[.string ⟨#[]⟩, .slice none 0 0, .string ⟨#[]⟩, .string ⟨#[]⟩, .slice none 0 0, .slice none 0 0, .slice none 0 0, .string ⟨#[]⟩, .int .i64 xk, .int .i64 (xp : Int), .string xw] 54 (0, 0)) := by rw [← hW4]; exact World.alloc_heap_new _ _
    rw [hW4]
    clear hW4
    have hb24 := hb3.trans (hb4.mono hb3.size)
    have hB4 : Below w.heap.size w W4 := (hb1.trans (hb2.mono hb1.size)).trans (hb24.mono (Nat.le_trans hb1.size hb2.size))
    have hF4 := (hb24.block _ (Nat.lt_of_lt_of_le (lt_of_heap hF1) hb2.size)).trans ((hb2.block _ (lt_of_heap hF1)).trans hF1)
    have HX := Lib.hid (fun w' (h : Below W4.heap.size W4 w') => And.intro (tag_cells ((h.block _ (Nat.lt_of_lt_of_le (lt_of_heap hX2) hb24.size)).trans ((hb24.block _ (lt_of_heap hX2)).trans hX2))) (got_cells ((h.block _ (lt_of_heap hX4)).trans hX4)))
    have HF := Lib.hid (fun w' (h : Below W4.heap.size W4 w') => (h.block _ (lt_of_heap hF4)).trans hF4)
    have SM := Lib.hid (same_wide (.agg #[.string T.lang, .slice f1 T.extl.length f2, .string T.script, .string T.region, .slice f3 T.vars.length f4, .slice f5 T.exts.length f6, .slice f7 T.priv.length f8, .string T.grand]) (.agg #[.string ⟨#[]⟩, .slice none 0 0, .string ⟨#[]⟩, .string ⟨#[]⟩, .slice none 0 0, .slice none 0 0, .slice none 0 0, .string ⟨#[]⟩]) T T W4 ((hT1.below hb2).below hb24) (HZ.out W4) HWI.out)
    rw [sameT_self] at SM
    have HB4 := Lib.hid hB4
    obtain ⟨⟨a0, a1, a2, a3, a4, a5, a6, a7⟩, ⟨c0, c1, c2, c3, c4, c5, c6, c7, c8, c9, c10⟩⟩ := HX.out W4 (Below.refl _ _)
    clear hX2 hX4 hb1 hb2 hb3 hb4 hb24 hT1 hB4 hF1 hF4
    generalize w3.heap.size = G at *
    generalize w1.heap.size = X at *
    go_upto_region 4 with (go_at_call 29; (with_reducible refine SM.out.mono ?_); rintro e w5 ⟨rfl, hb5⟩)
    clear a0 a1 a2 a3 a4 a5 a6 a7 c0 c1 c2 c3 c4 c5 c6 c7 c8 c9 c10
    have HS := Lib.hid (fun w' (h : Below W4.heap.size W4 w') => (show Below W4.heap.size W4 w' ∧ w'.cell? ⟨G, 8, none⟩ = some (.int .i64 xk) from ⟨h, (HX.out _ h).2.2.2.2.2.2.2.2.2.1⟩))
    have hmd : Below W4.heap.size W4 w5.drew := hb5.drew
    have VY := Lib.hid (fun w6 (h : Below W4.heap.size W4 w6) => (VZ.out w6 (HB4.out.trans (h.mono HB4.out.size))).mono (R' := fun e w' => e = .returned (.bool false) ∧ Below W4.heap.size W4 w') fun e w' ⟨p, q⟩ => ⟨p, h.trans (q.mono h.size)⟩)
    have KY := Lib.hid (fun w6 (h : Below W4.heap.size W4 w6) => (kindP_any w6 (r := some (xk, xp, xw)) (ev := (.iface 82 (.pointer (some ⟨bf, 0, none⟩)))) (.inr ⟨_, bf, rfl, rfl, HF.out w6 h⟩) (HL.out w6 (HB4.out.trans (h.mono HB4.out.size)))).mono (R' := fun e w' => e = .returned (.int .i64 xk) ∧ Below W4.heap.size W4 w') fun e w' ⟨p, q⟩ => ⟨p, h.trans (q.mono h.size)⟩)
    have WY := Lib.hid (fun w6 (h : Below W4.heap.size W4 w6) => (whats_chain (n₀ := w6.heap.size) w6 (xs := [.fault bf (xp : Int) xw, .num xk]) (by show 2 < 1048576; decide) (Nat.le_refl _) (ErrP.chain (x := (xk, xp, xw)) (HF.out w6 h))).mono (R' := fun e w' => ∃ gw cw, e = .returned (.slice (some ⟨gw, 0, none⟩) 1 cw) ∧ w'.cell? ⟨gw, 0, none⟩ = some (.string xw) ∧ gw < w'.heap.size ∧ Below W4.heap.size W4 w') fun e w' ⟨u, p, q, r⟩ => by
      obtain ⟨gw, cw, rfl⟩ := owned_pos q (by show 1 ≠ 0; decide)
      obtain ⟨g9, e9, hc⟩ := row_atQ (l := [xw]) (j := 0) (x := xw) (q.mono (Nat.zero_le _)) rfl
      cases e9
      exact ⟨gw, cw, p, hc w' (Below.refl _ _), (q.lt gw rfl).2, h.trans (r.mono h.size)⟩)
    have LY := Lib.hid (fun w6 (h : Below W4.heap.size W4 w6) => (placeP_any w6 (r := some (xk, xp, xw)) (ev := (.iface 82 (.pointer (some ⟨bf, 0, none⟩)))) (.inr ⟨_, bf, rfl, rfl, HF.out w6 h⟩)).mono (R' := fun e w' => e = .returned (.int .i64 (xp : Int)) ∧ Below w6.heap.size w6 w') fun e w' ⟨p, q⟩ => ⟨p, q⟩)
    obtain ⟨-, d8⟩ := HS.out _ hmd
    go_region_held3 (fun w' => Below W4.heap.size W4 w' ∧ w'.cell? ⟨G, 8, none⟩ = some (.int .i64 xk))
      (exact HS.out _ (by assumption))
      (first
        | (go_at_call 17; (with_reducible refine (KY.out _ (by assumption)).mono ?_); rintro e w6 ⟨rfl, hb6⟩)
        | (go_at_call 30; (with_reducible refine (VY.out _ (by assumption)).mono ?_); rintro e w7 ⟨rfl, hb7⟩))
    obtain ⟨-, e8⟩ := HS.out _ hb7
    go_upto_region 9 with (go_at_call 31; (with_reducible refine (WY.out _ (by assumption)).mono ?_); rintro e w8 ⟨gw, cw, rfl, hcw, hgw, hb8⟩)
    have HU := Lib.hid (fun w' (h : Below w8.heap.size w8 w') => (show Below w8.heap.size w8 w' ∧ w'.cell? ⟨G, 9, none⟩ = some (.int .i64 (xp : Int)) ∧ w'.cell? ⟨G, 10, none⟩ = some (.string xw) ∧ w'.cell? ⟨gw, 0, none⟩ = some (.string xw) from ⟨h, (HX.out _ (hb8.trans (h.mono hb8.size))).2.2.2.2.2.2.2.2.2.2.1, (HX.out _ (hb8.trans (h.mono hb8.size))).2.2.2.2.2.2.2.2.2.2.2, (h.cell (p := ⟨gw, 0, none⟩) hgw).trans hcw⟩))
    have LV := Lib.hid (fun w6 (h : Below w8.heap.size w8 w6) => (LY.out w6 (hb8.trans (h.mono hb8.size))).mono (R' := fun e w' => e = .returned (.int .i64 (xp : Int)) ∧ Below w8.heap.size w8 w') fun e w' ⟨p, q⟩ => ⟨p, h.trans (q.mono h.size)⟩)
    have hmd8 : Below w8.heap.size w8 w8.drew := Below.drew (Below.refl _ _)
    have HB8 := Lib.hid (HB4.out.trans (hb8.mono HB4.out.size))
    clear hcw hgw hb8 hb7 hb5 hmd e8 d8
    obtain ⟨-, z9, z10, z11⟩ := HU.out _ hmd8
    go_region_held3 (fun w' => Below w8.heap.size w8 w' ∧ w'.cell? ⟨G, 9, none⟩ = some (.int .i64 (xp : Int)) ∧ w'.cell? ⟨G, 10, none⟩ = some (.string xw) ∧ w'.cell? ⟨gw, 0, none⟩ = some (.string xw))
      (exact HU.out _ (by assumption))
      (first | (go_at_call 18; (with_reducible refine (LV.out _ (by assumption)).mono ?_); rintro e w9 ⟨rfl, hb9⟩))
    go_wp2_with fail
    go_ret
    exact ⟨rfl, HB8.out.trans (hb9.mono HB8.out.size)⟩
end Go.Proofs.YtpnhjpplfjamkaaGreatDoor
