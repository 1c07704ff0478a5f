/-
  Package check: oldNames, has, final, Final: contracts over the names in plain words.
-/
import Derived.Test.YtbafmnafhaoggaaGreatDoorANames
namespace Go.Proofs.YtbafmnafhaoggaaGreatDoor
open Go Go.RowKit Go.Maps

theorem sizeName : (Tryz.prog.info? 131).map (·.size) = some 2 := by kernel_rfl
set_option maxRecDepth 100000 in
set_option maxHeartbeats 2000000 in
theorem named_any (k : Int) (a b : ByteArray) (w : World) :
    Calls Tryz.prog 71 #[.int .i64 k, .string a, .string b] w fun e w' => e = .returned (.agg #[.string (nm k a b).1, .string (nm k a b).2]) ∧ Below w.heap.size w w' := by
  obtain ⟨W1, hW1⟩ : ∃ W1, w.alloc (.cells #[.string ⟨#[]⟩, .string ⟨#[]⟩] 131) = W1 := ⟨_, rfl⟩
  have hb1 : Below w.heap.size w W1 := by rw [← hW1]; exact (Below.refl _ w).alloc (Nat.le_refl _) _
  have hM : W1.heap[w.heap.size]? = some (.cells #[.string ⟨#[]⟩, .string ⟨#[]⟩] 131 (0, 0)) := by rw [← hW1]; exact World.alloc_heap_new w _
  have HM := Lib.hid hM
  have HB := Lib.hid hb1
  have HW1 := Lib.hid hW1
  have hset : ∀ cs : Array Value, Below w.heap.size w (W1.setRow w.heap.size cs) := fun cs => hb1.trans ⟨rfl, rfl, rfl, by simp [World.setRow], fun k hk => setRow_other W1 _ k cs (by omega)⟩
  have HS := Lib.hid hset
  clear hset hM hb1 hW1
  by_cases h : k = 7
  · subst h
    have HN := Lib.hid (show nm 7 a b = (a, b) from rfl)
    rw [HN.out]
    go_enter Tryz.func71, Tryz.ntmps71
    go_upto_region 1 with fail
    try rw [HW1.out]
    go_wp2_with (refine wpList_store_row rfl _ _ _ rfl _ _ rfl rfl _ _ HM.out sizeName rfl (by simp [Value.oneCell']) ?_)
    refine bodyPost_ret (results_cell_row rfl _ _ w.heap.size 131 #[.string a, .string b] (0, 0) _ rfl (setRow_heap _ _ _ _ _ _ HM.out) Tryz.underlying131 rfl sizeName) rfl ?_
    exact ⟨rfl, HS.out _⟩
  · have HN := Lib.hid (show nm k a b = (a, ⟨#[]⟩) by unfold nm; rw [if_neg h])
    have h2 : (k == 7) = false := by rw [beq_eq_false_iff_ne]; exact h
    rw [HN.out]
    go_enter Tryz.func71, Tryz.ntmps71
    go_upto_region 1 with fail
    try rw [HW1.out]
    go_wp2_with (refine wpList_store_row rfl _ _ _ rfl _ _ rfl rfl _ _ HM.out sizeName rfl (by simp [Value.oneCell']) ?_)
    refine bodyPost_ret (results_cell_row rfl _ _ w.heap.size 131 #[.string a, .string ⟨#[]⟩] (0, 0) _ rfl (setRow_heap _ _ _ _ _ _ HM.out) Tryz.underlying131 rfl sizeName) rfl ?_
    exact ⟨rfl, HS.out _⟩
/-- The names, in a world and all later ones. -/
def OldN (w : World) (M : Nat) (T : List Kn) : Prop := ∀ (k : Int) (p : ByteArray × ByteArray), (Lit.int .i64 k).wf = true → p.1.size ≤ maxLen → p.2.size ≤ maxLen → LookN w M T k p
theorem OldN.below {w w' : World} {M : Nat} {T : List Kn} (h : OldN w M T) (hb : Below w.heap.size w w') : OldN w' M T := fun k p hw h1 h2 => by
  obtain ⟨v, hv⟩ := h k p hw h1 h2
  exact ⟨v, fun w2 h2 => hv w2 (hb.trans (h2.mono hb.size))⟩
theorem NamesI.old {w wr : World} {M : Nat} {T : List Kn} {G : List (Int × Nat)} (h : NamesI w wr M T G) (hT : Fits T) : OldN wr M T := fun _ _ hw h1 h2 => h.look hT hw h1 h2
set_option maxRecDepth 100000 in
set_option maxHeartbeats 2000000 in
theorem has_any (T : List Kn) (M : Nat) (k : Int) (a b : ByteArray) (w : World) (hk : (Lit.int .i64 k).wf = true) (ha : a.size ≤ maxLen) (hb : b.size ≤ maxLen) (h : OldN w M T) :
    Calls Tryz.prog 95 #[.map (some M), .int .i64 k, .string a, .string b] w fun e w' => e = .returned (.bool (hasN T k (nm k a b))) ∧ Below w.heap.size w w' := by
  have hs := nm_size (k := k) ha hb
  obtain ⟨v, hv⟩ := h k (nm k a b) hk hs.1 hs.2
  have HN := Lib.hid (fun w' (hb : Below w.heap.size w w') => (named_any k a b w').mono (R' := fun e w'' => e = .returned (.agg #[.string (nm k a b).1, .string (nm k a b).2]) ∧ Below w.heap.size w w'') fun e w'' ⟨p, q⟩ => ⟨p, hb.trans (q.mono hb.size)⟩)
  obtain ⟨z, hz⟩ : ∃ z, hasN T k (nm k a b) = z := ⟨_, rfl⟩
  rw [hz]
  rw [hz] at hv
  have HC := Lib.hid (fun w' (hb : Below w.heap.size w w') => show Below w.heap.size w w' ∧ (Instr.lookup 68 (.map (some M)) (.int .i64 k) false).run Tryz.prog w' = .ok v w' ∧ (Instr.lookup 129 v (.agg #[.string (nm k a b).1, .string (nm k a b).2]) false).run Tryz.prog w' = .ok (.bool z) w' from ⟨hb, hv w' hb⟩)
  clear hv h hz hs ha hb hk
  generalize (nm k a b).1 = n1 at *
  generalize (nm k a b).2 = n2 at *
  go_enter Tryz.func95, Tryz.ntmps95
  go_upto_region 1 with fail
  have hd : Below w.heap.size w w.drew := Below.drew (Below.refl _ _)
  have hd1 := (HC.out _ hd).2.1
  have hd2 := (HC.out _ hd).2.2
  go_region_held3 (fun w' => Below w.heap.size w w' ∧ (Instr.lookup 68 (.map (some M)) (.int .i64 k) false).run Tryz.prog w' = .ok v w' ∧ (Instr.lookup 129 v (.agg #[.string n1, .string n2]) false).run Tryz.prog w' = .ok (.bool z) w')
    (first | (exact HC.out _ (by assumption)))
    (first | (go_at_call 71; (with_reducible refine (HN.out _ (by assumption)).mono ?_); rintro e w5 ⟨rfl, hb5⟩))
  all_goals first
    | (go_wp2; go_ret; exact ⟨rfl, by assumption⟩)
    | (go_ret; exact ⟨rfl, by assumption⟩)
set_option maxRecDepth 100000 in
set_option maxHeartbeats 4000000 in
theorem final_any (T : List Kn) (M : Nat) (k : Int) (a b : ByteArray) (w : World) (hk : (Lit.int .i64 k).wf = true) (ha : a.size ≤ maxLen) (hb : b.size ≤ maxLen) (h : OldN w M T) :
    Calls Tryz.prog 73 #[.map (some M), .int .i64 k, .string a, .string b] w fun e w' => e = .returned (.bool (finalN T k a b)) ∧ Below w.heap.size w w' := by
  have H1 := Lib.hid (fun w' (hb' : Below w.heap.size w w') => (has_any T M k a b w' hk ha hb (h.below hb')).mono (R' := fun e w'' => e = .returned (.bool (hasN T k (nm k a b))) ∧ Below w.heap.size w w'') fun e w'' ⟨p, q⟩ => ⟨p, hb'.trans (q.mono hb'.size)⟩)
  have H2 := Lib.hid (fun w' (hb' : Below w.heap.size w w') => (has_any T M 2 a b w' (by decide) ha hb (h.below hb')).mono (R' := fun e w'' => e = .returned (.bool (hasN T 2 (nm 2 a b))) ∧ Below w.heap.size w w'') fun e w'' ⟨p, q⟩ => ⟨p, hb'.trans (q.mono hb'.size)⟩)
  have hr : Below w.heap.size w w := Below.refl _ _
  clear h ha hb
  by_cases h3 : k = 3
  · subst h3
    have HF := Lib.hid (show finalN T 3 a b = (!hasN T 3 (nm 3 a b) && !hasN T 2 (nm 2 a b)) from rfl)
    rw [HF.out]
    generalize hasN T 3 (nm 3 a b) = z1 at *
    generalize hasN T 2 (nm 2 a b) = z2 at *
    clear hk
    cases z1 <;> cases z2 <;>
      (go_enter Tryz.func73, Tryz.ntmps73
       go_wp2_with (first
         | (go_at_call 95; (with_reducible refine (H1.out _ (by assumption)).mono ?_); rintro e w5 ⟨rfl, hb5⟩)
         | (go_at_call 95; (with_reducible refine (H2.out _ (by assumption)).mono ?_); rintro e w6 ⟨rfl, hb6⟩))
       go_ret
       exact ⟨rfl, by assumption⟩)
  · have e3 : (k == 3) = false := by rw [beq_eq_false_iff_ne]; exact h3
    by_cases h4 : 4 ≤ k ∧ k ≤ 7
    · have HF := Lib.hid (show finalN T k a b = !hasN T k (nm k a b) by unfold finalN; rw [if_neg h3, if_pos h4])
      rw [HF.out]
      have hk4 : k = 4 ∨ k = 5 ∨ k = 6 ∨ k = 7 := by omega
      clear H2 h3 e3 hk h4 HF
      generalize hz1 : hasN T k (nm k a b) = z1 at *
      clear hz1
      rcases hk4 with rfl | rfl | rfl | rfl <;>
      (go_enter Tryz.func73, Tryz.ntmps73
       go_wp2_with (go_at_call 95; (with_reducible refine (H1.out _ (by assumption)).mono ?_); rintro e w5 ⟨rfl, hb5⟩)
       go_ret
       exact ⟨rfl, by assumption⟩)
    · have HF := Lib.hid (show finalN T k a b = true by unfold finalN; rw [if_neg h3, if_neg h4])
      rw [HF.out]
      have e4 : (k == 4) = false := by rw [beq_eq_false_iff_ne]; omega
      have e5 : (k == 5) = false := by rw [beq_eq_false_iff_ne]; omega
      have e6 : (k == 6) = false := by rw [beq_eq_false_iff_ne]; omega
      have e7 : (k == 7) = false := by rw [beq_eq_false_iff_ne]; omega
      clear H1 H2 h3 h4 hk HF
      go_enter Tryz.func73, Tryz.ntmps73
      go_wp2
      go_ret
      exact ⟨rfl, by assumption⟩
end Go.Proofs.YtbafmnafhaoggaaGreatDoor
