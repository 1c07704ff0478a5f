/-
  Package render: Short.
-/
import Derived.Test.YtggfdmhfcpabdaaQText
import Derived.Test.YtggfdmhfcpabdaaDCount
namespace Go.Proofs.Ytggfdmhfcpabdaa
open Go Go.RowKit

attribute [local go_sem] Oper.semAt_some

/-- What the rounds of Short keep. -/
def ShI (W0 : World) (n1 : Nat) (n : Int) (pre : List (Nat × ByteArray)) (W : World) : Prop :=
  Below n1 W0 W ∧ W.heap[n1]? = some (.cells #[.int .i64 (endF 0 pre : Int)] 3 (0, 0)) ∧ n1 + 2 ≤ W.heap.size ∧ ∀ y ∈ pre, fitsP n y = true
def ShX (W0 : World) (n1 : Nat) (n : Int) (c : Code) (pre : List (Nat × ByteArray)) (W : World) : Prop :=
  c = .exit 0 ∧ ∃ a y, pre = a ++ [y] ∧ Below n1 W0 W ∧ W.heap[n1]? = some (.cells #[.int .i64 (endF 0 a : Int)] 3 (0, 0)) ∧ n1 + 2 ≤ W.heap.size ∧ (∀ z ∈ a, fitsP n z = true) ∧ fitsP n y = false
theorem short_done {s : ByteArray} {n : Int} (h : ∀ y ∈ pieces s, fitsP n y = true) : shortS s n = s.extract 0 (endF 0 (pieces s)) := by
  unfold shortS shortE; rw [takeWhile_all h]
theorem short_stop {s : ByteArray} {n : Int} {a : List (Nat × ByteArray)} {y : Nat × ByteArray} (hp : a ++ [y] <+: pieces s) (h : ∀ z ∈ a, fitsP n z = true) (hy : fitsP n y = false) : shortS s n = s.extract 0 (endF 0 a) := by
  obtain ⟨r, hr⟩ := hp
  unfold shortS shortE
  rw [← hr, List.append_assoc, List.cons_append, takeWhile_stop h hy]
theorem endF_le {s : ByteArray} : ∀ pre, pre <+: pieces s → endF 0 pre ≤ s.size := by
  intro pre hp
  have h1 : ∀ x ∈ pre, x.1 + x.2.size ≤ s.size := fun x hx => (pieces_at (hp.subset hx)).1
  have h2 : ∀ (l : List (Nat × ByteArray)) (e : Nat), e ≤ s.size → (∀ x ∈ l, x.1 + x.2.size ≤ s.size) → endF e l ≤ s.size := by
    intro l
    induction l with
    | nil => intro e he _; exact he
    | cons x r ih =>
      intro e he hl
      refine ih _ ?_ (fun y hy => hl y (List.mem_cons_of_mem _ hy))
      show (if x.1 = 0 ∨ x.2.size ≠ 1 then x.1 + x.2.size else e) ≤ s.size
      split
      · exact hl x (by simp)
      · exact he
  exact h2 pre 0 (Nat.zero_le _) h1

set_option maxRecDepth 100000 in
set_option maxHeartbeats 4000000 in
theorem shortr_own (v : Value) (T : TagM) (n : Int) (w : World) (hT : TagIs w v T) (ht : TagTiny T) :
    Calls Try.prog 19 #[v, .int .i64 n] w fun e w' => e = .returned (.string (shortS (caseS (joinS (subtagsT T))) n)) ∧ Below w.heap.size w w' := by
  have SR := Lib.hid (fun w5 (hb : Below w.heap.size w w5) => stringr_own v T w5 (hT.below hb) ht)
  have hz : (caseS (joinS (subtagsT T))).size ≤ 10302 := by rw [size_caseS]; exact tiny_join8 ht
  clear ht
  generalize caseS (joinS (subtagsT T)) = s at *
  obtain ⟨ve, vv, vx, vp, rfl, ⟨a1, c1, rfl, _⟩, ⟨a2, c2, rfl, _⟩, ⟨a3, c3, rfl, _⟩, ⟨a4, c4, rfl, _⟩⟩ := hT
  refine callsIn_wide (n := 0) |>.1 ?_
  refine callsIn_of_wp_marks Try.func19 rfl trivial ?_ rfl
  simp only [Try.ntmps19, List.size_toArray, List.length_cons, List.length_nil, Nat.reduceAdd, Nat.reduceSub, Array.replicate_succ, Array.replicate_zero, List.push_toArray, List.append_toArray, List.nil_append, List.cons_append]
  gi_wp2_with fail
  have hb0 : Below w.heap.size w ((w.alloc (.cells #[.string T.lang, .slice a1 T.extl.length c1, .string T.script, .string T.region, .slice a2 T.vars.length c2, .slice a3 T.exts.length c3, .slice a4 T.priv.length c4, .string T.grand] 29)).alloc (.cells #[.int .i64 n] 3)) := ((Below.refl _ w).alloc (Nat.le_refl _) _).alloc (by simp) _
  have hn0 : ((w.alloc (.cells #[.string T.lang, .slice a1 T.extl.length c1, .string T.script, .string T.region, .slice a2 T.vars.length c2, .slice a3 T.exts.length c3, .slice a4 T.priv.length c4, .string T.grand] 29)).alloc (.cells #[.int .i64 n] 3)).heap[w.heap.size + 1]? = some (.cells #[.int .i64 n] 3 (0, 0)) := by
    have := World.alloc_heap_new (w.alloc (.cells #[.string T.lang, .slice a1 T.extl.length c1, .string T.script, .string T.region, .slice a2 T.vars.length c2, .slice a3 T.exts.length c3, .slice a4 T.priv.length c4, .string T.grand] 29)) (.cells #[.int .i64 n] 3)
    rwa [World.size_alloc] at this
  have hs0 : ((w.alloc (.cells #[.string T.lang, .slice a1 T.extl.length c1, .string T.script, .string T.region, .slice a2 T.vars.length c2, .slice a3 T.exts.length c3, .slice a4 T.priv.length c4, .string T.grand] 29)).alloc (.cells #[.int .i64 n] 3)).heap.size = w.heap.size + 2 := by simp
  refine ⟨trivial, rfl, (callsIn_wide.2 (SR.out _ hb0)).mono ?_⟩
  rintro e w1 ⟨rfl, hbs⟩
  have hb1 : Below w.heap.size w w1 := hb0.trans (hbs.mono (by omega))
  have hn1 : w1.heap[w.heap.size + 1]? = some (.cells #[.int .i64 n] 3 (0, 0)) := (hbs.block _ (by omega)).trans hn0
  have hs1 : w.heap.size + 2 ≤ w1.heap.size := by have := hbs.size; omega
  clear hb0 hn0 hs0 hbs SR
  gi_wp2_with fail
  refine ⟨trivial, rfl, (callsIn_wide.2 (each_make s _)).mono ?_⟩
  rintro e w' ⟨rfl, rfl⟩
  gi_wp2_with fail
  have hs2 : ((w1.alloc (.cells #[.int .i64 0] 3)).alloc (.cells #[.string s] 9)).heap.size = w1.heap.size + 2 := by simp
  have hbox : ((w1.alloc (.cells #[.int .i64 0] 3)).alloc (.cells #[.string s] 9)).heap[w1.heap.size]? = some (.cells #[.int .i64 0] 3 (0, 0)) := by
    rw [Below.heap_alloc _ _ _ (by simp only [World.size_alloc]; omega)]; exact World.alloc_heap_new w1 _
  have hbox2 : ((w1.alloc (.cells #[.int .i64 0] 3)).alloc (.cells #[.string s] 9)).heap[w1.heap.size + 1]? = some (.cells #[.string s] 9 (0, 0)) := by
    have := World.alloc_heap_new (w1.alloc (.cells #[.int .i64 0] 3)) (.cells #[.string s] 9)
    rwa [World.size_alloc] at this
  have hb2 : Below w1.heap.size w1 ((w1.alloc (.cells #[.int .i64 0] 3)).alloc (.cells #[.string s] 9)) := ((Below.refl _ w1).alloc (Nat.le_refl _) _).alloc (by simp) _
  generalize ((w1.alloc (.cells #[.int .i64 0] 3)).alloc (.cells #[.string s] 9)) = W2 at *
  have hseq := each_seq (fr := fun _ => false) (w := W2) (q := fun k => k < w1.heap.size ∨ k = w1.heap.size + 1) (by omega) (.inr rfl) hbox2
  refine rangeQ (gf := 63) (lb := #[.pointer (some ⟨w1.heap.size + 1, 0, none⟩)]) rfl (Go.Proofs.enters_of Try.func63 (by kernel_rfl) rfl) hseq (fun _ h => by cases h) (fun k h => by omega) (fun _ => rfl)
    (ShI w1 w1.heap.size n) (ShX w1 w1.heap.size n)
    (fun s A B row hs hg hr => ⟨ownFrom_below (β := Unit) (n₀ := w1.heap.size) (Nat.le_refl _) (by omega) () A B row hs.1 hg hr, ownFrom_block (β := Unit) (by omega) () A B row hs.2.1 hg hr, Nat.le_trans hs.2.2.1 hg.size, hs.2.2.2⟩)
    (fun c s A B row hs hg hr => by
      obtain ⟨h1, a, y, h2, h3, h4, h5, h6⟩ := hs
      exact ⟨h1, a, y, h2, ownFrom_below (β := Unit) (n₀ := w1.heap.size) (Nat.le_refl _) (by omega) () A B row h3 hg hr, ownFrom_block (β := Unit) (by omega) () A B row h4 hg hr, Nat.le_trans h5 hg.size, h6⟩)
    ⟨hb2, hbox, by omega, fun y hy => by simp at hy⟩
    (fun x => { tmps := #[.agg #[.string T.lang, .slice a1 T.extl.length c1, .string T.script, .string T.region, .slice a2 T.vars.length c2, .slice a3 T.exts.length c3, .slice a4 T.priv.length c4, .string T.grand], .int .i64 n, .pointer (some ⟨w.heap.size, 0, none⟩), .pointer (some ⟨w.heap.size + 1, 0, none⟩), .string ⟨#[]⟩, .string s, .pointer (some ⟨w1.heap.size, 0, none⟩), .int .i64 x.1, .string x.2, undef,
      .agg #[.string T.lang, .slice a1 T.extl.length c1, .string T.script, .string T.region, .slice a2 T.vars.length c2, .slice a3 T.exts.length c3, .slice a4 T.priv.length c4, .string T.grand], .string s, .string s, .func (.func 63) #[] #[.pointer (some ⟨w1.heap.size + 1, 0, none⟩)], .int .i64 x.1, .string x.2, undef, undef, undef, undef, undef, undef, undef, undef, undef, undef, undef, undef, undef, undef, undef, undef, undef, undef], defers := [] })
    ?assign ?body ?done ?stop
  case assign =>
    intro l' x W3 K hK
    gi_wp2
    exact hK
  case body =>
    rintro l' pre ⟨a, p⟩ W3 ⟨hB3, hE3, hsz3', hall⟩ hpre hsz3
    obtain ⟨-, -, hmem, -⟩ := prefix_get hpre
    have hat := (pieces_at hmem).1
    dsimp only at hat
    have hcn := cell_of_one ((hB3.block _ (by omega)).trans hn1)
    have hcE := cell_of_one hE3
    have hfE := free_of_one hE3
    have HB3 := Lib.hid hB3
    have HE3 := Lib.hid hE3
    have HALL := Lib.hid hall
    have ha0 : (0 : Int) ≤ (a : Int) := by omega
    have hab : (a : Int) ≤ 20000 := by omega
    have hpb : (p.size : Int) ≤ 20000 := by omega
    have hsm := fun v => (⟨hB3.setCell (p := ⟨w1.heap.size, 0, none⟩) (Nat.le_refl _) v, one_setCell hE3⟩ : Below w1.heap.size w1 (W3.setCell ⟨w1.heap.size, 0, none⟩ v) ∧ (W3.setCell ⟨w1.heap.size, 0, none⟩ v).heap[w1.heap.size]? = some (.cells #[v] 3 (0, 0)))
    have HSM := Lib.hid hsm
    clear hall hB3 hE3 hsm hpre hmem hat hseq hb2 hbox hbox2
    by_cases hf : n < (a : Int) + (p.size : Int)
    · have HF := Lib.hid (show fitsP n (a, p) = false by unfold fitsP; rw [decide_eq_false_iff_not]; dsimp only; omega)
      gi_wp2
      exact ⟨KeepQ.refl _ _ _ _, rfl, pre, (a, p), rfl, HB3.out, HE3.out, hsz3', HALL.out, HF.out⟩
    · have HF := Lib.hid (show fitsP n (a, p) = true by unfold fitsP; rw [decide_eq_true_iff]; dsimp only; omega)
      have HA := Lib.hid (show ∀ y ∈ pre ++ [(a, p)], fitsP n y = true from fun y hy => by
        rcases List.mem_append.1 hy with h | h
        · exact HALL.out y h
        · simp at h; subst h; exact HF.out)
      by_cases h0 : a = 0
      · have g1 : ((a : Int) == 0) = true := by rw [beq_iff_eq]; omega
        have HEN := Lib.hid (show (endF 0 (pre ++ [(a, p)]) : Int) = (a : Int) + (p.size : Int) by rw [endF_snoc, if_pos (.inl h0)]; push_cast; rfl)
        clear h0
        gi_wp2
        exact ⟨KeepQ.setCell _ _ _ _ (p := ⟨w1.heap.size, 0, none⟩) _ (by show ¬ (w1.heap.size < w1.heap.size ∨ w1.heap.size = w1.heap.size + 1); omega) (by show w1.heap.size < w1.heap.size + 2; omega), (HSM.out _).1, by rw [HEN.out]; exact (HSM.out _).2, by simpa [World.setCell] using hsz3', HA.out⟩
      · have g1 : ((a : Int) == 0) = false := by rw [beq_eq_false_iff_ne]; omega
        by_cases h1 : p.size = 1
        · have g2 : ((p.size : Int) != 1) = false := by rw [bne_eq_false_iff_eq]; omega
          have HEN := Lib.hid (show endF 0 (pre ++ [(a, p)]) = endF 0 pre by rw [endF_snoc, if_neg (by rintro (h | h); exact h0 h; exact h h1)])
          clear h0 h1
          gi_wp2
          exact ⟨KeepQ.refl _ _ _ _, HB3.out, by rw [HEN.out]; exact HE3.out, hsz3', HA.out⟩
        · have g2 : ((p.size : Int) != 1) = true := by rw [bne_iff_ne]; omega
          have HEN := Lib.hid (show (endF 0 (pre ++ [(a, p)]) : Int) = (a : Int) + (p.size : Int) by rw [endF_snoc, if_pos (.inr h1)]; push_cast; rfl)
          clear h0 h1
          gi_wp2
          exact ⟨KeepQ.setCell _ _ _ _ (p := ⟨w1.heap.size, 0, none⟩) _ (by show ¬ (w1.heap.size < w1.heap.size ∨ w1.heap.size = w1.heap.size + 1); omega) (by show w1.heap.size < w1.heap.size + 2; omega), (HSM.out _).1, by rw [HEN.out]; exact (HSM.out _).2, by simpa [World.setCell] using hsz3', HA.out⟩
  case' done =>
    rintro D ys W3 hD rfl ⟨hB3, hE3, hsz3, hall⟩ hK
    have HRES := Lib.hid (short_done hall)
    have hle := endF_le (pieces s) (List.prefix_refl _)
    generalize endF 0 (pieces s) = m at *
    clear hall
  case' stop =>
    rintro D c pre W3 hD hpre ⟨rfl, a, y, rfl, hB3, hE3, hsz3, hall, hy⟩ hK
    have HRES := Lib.hid (short_stop hpre hall hy)
    have hle := endF_le a ((List.prefix_append _ _).trans hpre)
    generalize endF 0 a = m at *
    clear hall hy hpre
  all_goals
    have hcE := cell_of_one hE3
    have h0m : (0 : Int) ≤ (m : Int) := by omega
    have h1m : (m : Int) ≤ (s.size : Int) := by omega
    have HB3 := Lib.hid (hb1.trans (hB3.mono (by omega)))
    have HK := Lib.hid hK
    clear hE3 hB3 hle hseq hb2 hbox hbox2 hK
    gi_wp2_with fail
    refine ⟨by simp, .inl ⟨_, _, rfl, run_takeDeferred HK.out, ?_⟩⟩
    refine ⟨_, results_tmp rfl _ _ _, by rw [HRES.out]; rfl, ?_⟩
    exact HB3.out.trans (belowK_b (w := w) (by omega) _ D _ _ (by omega) HK.out rfl rfl)
end Go.Proofs.Ytggfdmhfcpabdaa
