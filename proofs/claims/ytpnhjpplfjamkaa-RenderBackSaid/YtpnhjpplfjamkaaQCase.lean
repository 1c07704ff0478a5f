/-
  Package render: Case (a map of functions; a range over a function).
-/
import Derived.Test.YtpnhjpplfjamkaaQTurns
import Derived.Test.YtpnhjpplfjamkaaDJoin
import Derived.Test.YtpnhjpplfjamkaaQShort
import Derived.Test.YtpnhjpplfjamkaaWAll
namespace Go.Proofs.Ytpnhjpplfjamkaa
open Go Go.RowKit Go.Maps

attribute [local go_sem] Oper.semAt_some

/-- What the rounds of Case keep: n: the blocks ahead of the boxes; m: the map's. -/
def CaI (w1 : World) (m : Nat) (pre : List (Nat × ByteArray)) (W : World) : Prop :=
  ∃ v, W.heap[w1.heap.size]? = some (.cells #[.map (some m)] 62 (0, 0)) ∧ W.heap[w1.heap.size + 1]? = some (.cells #[v] 26 (0, 0)) ∧ W.heap[w1.heap.size + 2]? = some (.cells #[.bool (sglL (pre.map (·.2)))] 4 (0, 0)) ∧
    W.ownsRow (w1.heap.size + 4) 9 1 v pre.length (strs (caseT (pre.map (·.2)))) ∧ Below w1.heap.size w1 W ∧ w1.heap.size + 4 ≤ W.heap.size
/-- What a round leaves alone. -/
def qCa (n : Nat) (k : Nat) : Prop := k < n + 1 ∨ k = n + 3

theorem owned_none {w : World} {B : Nat} {e : TypeId} {sz n : Nat} {xs : List Value} (h : w.ownsRow B e sz (.slice none 0 0) n xs) : n = 0 := by
  rcases owned_cases h with ⟨_, h⟩ | ⟨_, _, h⟩
  · exact h
  · cases h
theorem own_below' {w w' : World} {base : Nat} {e : TypeId} {size : Nat} {v : Value} {n : Nat} {xs : List Value} (h : w.ownsRow base e size v n xs) (hb : Below w.heap.size w w') : w'.ownsRow base e size v n xs := own_below h hb
theorem first_at {s : ByteArray} {pre : List (Nat × ByteArray)} {y : Nat × ByteArray} (h : pre ++ [y] <+: pieces s) : (pre.map (·.2)).isEmpty = decide (y.1 = 0) := by
  obtain ⟨h1, _⟩ := prefix_get h
  obtain ⟨_, h2, h3, _⟩ := pieces_get h1
  cases pre with
  | nil => rw [decide_eq_true (h2 rfl)]; rfl
  | cons x r =>
    have := h3 (by simp)
    rw [decide_eq_false (by omega)]; rfl
theorem turn_plain (b : Bool) (p : ByteArray) (h : b = true ∨ (p.size ≠ 2 ∧ p.size ≠ 4)) : turnS b p = lowS p := by
  unfold turnS
  rcases h with h | ⟨h2, h4⟩
  · rw [if_pos h]
  · split
    · rfl
    · first | rfl | rw [if_neg h2, if_neg h4]
theorem turn_two (p : ByteArray) (h : p.size = 2) : turnS false p = upS p := by unfold turnS; rw [if_neg (by decide), if_pos h]
theorem turn_four (p : ByteArray) (h : p.size = 4) : turnS false p = titleS p := by unfold turnS; rw [if_neg (by decide), if_neg (by omega), if_pos h]

/-- Behind the store of what is said of a piece of one byte. -/
theorem ca_set {w1 W3 : World} {v0 : Value} {m hi n : Nat} {b0 b : Bool} {xs : List Value} (hT : W3.heap[w1.heap.size]? = some (.cells #[.map (some m)] 62 (0, 0))) (hP : W3.heap[w1.heap.size + 1]? = some (.cells #[v0] 26 (0, 0)))
    (hS : W3.heap[w1.heap.size + 2]? = some (.cells #[.bool b0] 4 (0, 0))) (ho : W3.ownsRow (w1.heap.size + 4) 9 1 v0 n xs) (hB : Below w1.heap.size w1 W3) (hz : w1.heap.size + 4 ≤ W3.heap.size) (hhi : hi = w1.heap.size + 4) :
    ∃ W4, W4 = (W3.setCell ⟨w1.heap.size + 1 + 1, 0, none⟩ (.bool b)).drew ∧ W4.heap[w1.heap.size]? = some (.cells #[.map (some m)] 62 (0, 0)) ∧ W4.heap[w1.heap.size + 1]? = some (.cells #[v0] 26 (0, 0)) ∧ W4.heap[w1.heap.size + 2]? = some (.cells #[.bool b] 4 (0, 0)) ∧
      W4.ownsRow (w1.heap.size + 4) 9 1 v0 n xs ∧ Below w1.heap.size w1 W4 ∧ w1.heap.size + 4 ≤ W4.heap.size ∧ KeepQ (qCa w1.heap.size) hi frS W3 W4 := by
  refine ⟨_, rfl, ?_, ?_, ?_, ?_, ?_, ?_, ?_⟩
  · exact (Below.heap_setCell W3 ⟨w1.heap.size + 1 + 1, 0, none⟩ _ _ (by show w1.heap.size ≠ w1.heap.size + 1 + 1; omega)).trans hT
  · exact (Below.heap_setCell W3 ⟨w1.heap.size + 1 + 1, 0, none⟩ _ _ (by show w1.heap.size + 1 ≠ w1.heap.size + 1 + 1; omega)).trans hP
  · exact one_setCell hS
  · exact ownsRow_setCell_other ho (fun e => by have := (ho.lt _ e).1; simp at this; omega) _
  · exact (hB.setCell (p := ⟨w1.heap.size + 1 + 1, 0, none⟩) (by show w1.heap.size ≤ w1.heap.size + 1 + 1; omega) _).drew
  · show w1.heap.size + 4 ≤ (W3.setCell _ _).heap.size
    simpa [World.setCell] using hz
  · exact (KeepQ.setCell _ _ _ _ (p := ⟨w1.heap.size + 1 + 1, 0, none⟩) _ (by unfold qCa; show ¬ (w1.heap.size + 1 + 1 < w1.heap.size + 1 ∨ w1.heap.size + 1 + 1 = w1.heap.size + 3); omega) (by show w1.heap.size + 1 + 1 < hi; omega)).trans (KeepQ.of_below (Below.refl _ _).drew)
/-- Behind the append. -/
theorem ca_app {w1 W3 w5 w6 : World} {v v' x : Value} {m hi j : Nat} {b : Bool} {xs ys : List Value} (hT : w5.heap[w1.heap.size]? = some (.cells #[.map (some m)] 62 (0, 0))) (hP : w5.heap[w1.heap.size + 1]? = some (.cells #[v] 26 (0, 0)))
    (hS : w5.heap[w1.heap.size + 2]? = some (.cells #[.bool b] 4 (0, 0))) (hown : w5.ownsRow (w1.heap.size + 4) 9 1 v j xs) (hB : Below w1.heap.size w1 w5) (hsz : w1.heap.size + 4 ≤ w5.heap.size) (hK : KeepQ (qCa w1.heap.size) hi frS W3 w5) (hhi : hi = w1.heap.size + 4)
    (hown1 : w6.ownsRow (w1.heap.size + 4) 9 1 v' (j + 1) ys) (hgrow : (w5.alloc (.cells #[x] 9)).grownBy w6 v.ownBlock) :
    ∃ g' cap', v' = .slice (some ⟨g', 0, none⟩) (j + 1) cap' ∧ w6.cell? ⟨w1.heap.size + 1, 0, none⟩ = some v ∧ w6.frozen? ⟨w1.heap.size + 1, 0, none⟩ = false ∧
      Hid (KeepQ (qCa w1.heap.size) hi frS W3 (w6.setCell ⟨w1.heap.size + 1, 0, none⟩ v') ∧ (w6.setCell ⟨w1.heap.size + 1, 0, none⟩ v').heap[w1.heap.size]? = some (.cells #[.map (some m)] 62 (0, 0)) ∧ (w6.setCell ⟨w1.heap.size + 1, 0, none⟩ v').heap[w1.heap.size + 1]? = some (.cells #[v'] 26 (0, 0)) ∧
        (w6.setCell ⟨w1.heap.size + 1, 0, none⟩ v').heap[w1.heap.size + 2]? = some (.cells #[.bool b] 4 (0, 0)) ∧ (w6.setCell ⟨w1.heap.size + 1, 0, none⟩ v').ownsRow (w1.heap.size + 4) 9 1 v' (j + 1) ys ∧ Below w1.heap.size w1 (w6.setCell ⟨w1.heap.size + 1, 0, none⟩ v') ∧ w1.heap.size + 4 ≤ (w6.setCell ⟨w1.heap.size + 1, 0, none⟩ v').heap.size) := by
  have hgs := hgrow.size
  have hsd : (w5.alloc (.cells #[x] 9)).heap.size = w5.heap.size + 1 := by simp
  have hne : ∀ r, v.ownBlock = some r → w1.heap.size + 4 ≤ r := fun r e => (hown.lt r e).1
  have hblk : ∀ k, k < w5.heap.size → (w5.alloc (.cells #[x] 9)).heap[k]? = w5.heap[k]? := fun k hk => Below.heap_alloc w5 _ k hk
  have h0 : ∀ k, k < w1.heap.size + 4 → w6.heap[k]? = w5.heap[k]? := fun k hk => (hgrow.block _ (by omega) (fun e => by have := hne _ e.symm; omega)).trans (hblk _ (by omega))
  have hP6 := (h0 (w1.heap.size + 1) (by omega)).trans hP
  have hB1 : Below w1.heap.size w1 w6 := (hB.alloc hB.size _).grown hgrow (by have := hB.size; omega) (fun r e => by have := hne r e; omega)
  have hk6 : KeepQ (qCa w1.heap.size) hi frS w5 w6 := by
    refine (KeepQ.of_below (A := w5) ((Below.refl _ w5).alloc (Nat.le_refl _) _)).trans (KeepQ.grown hgrow (fun r e => ?_))
    have hr := hne r e
    refine ⟨fun h => by unfold qCa at h; omega, .inr ?_⟩
    rcases hown.2 with ⟨rfl, _⟩ | ⟨g, cap, cur, rfl, _, hb, _⟩
    · cases e
    · cases e
      exact ⟨_, (hblk g (Array.getElem?_eq_some_iff.1 hb).1).trans hb, by simp [frS]⟩
  obtain ⟨g', cap', rfl⟩ := ownsRow_succ hown1
  have hg' := (hown1.lt g' rfl).1
  refine ⟨g', cap', rfl, cell_of_one hP6, free_of_one hP6, ?_, ?_, ?_, ?_, ?_, ?_, ?_⟩
  · exact (hK.trans hk6).trans (KeepQ.setCell _ _ _ _ (p := ⟨w1.heap.size + 1, 0, none⟩) _ (by unfold qCa; show ¬ (w1.heap.size + 1 < w1.heap.size + 1 ∨ w1.heap.size + 1 = w1.heap.size + 3); omega) (by show w1.heap.size + 1 < hi; omega))
  · exact (Below.heap_setCell w6 ⟨w1.heap.size + 1, 0, none⟩ _ _ (by show w1.heap.size ≠ w1.heap.size + 1; omega)).trans ((h0 _ (by omega)).trans hT)
  · exact one_setCell hP6
  · exact (Below.heap_setCell w6 ⟨w1.heap.size + 1, 0, none⟩ _ _ (by show w1.heap.size + 2 ≠ w1.heap.size + 1; omega)).trans ((h0 _ (by omega)).trans hS)
  · exact ownsRow_setCell_other hown1 (fun e => by have : g' = w1.heap.size + 1 := by simpa [Value.ownBlock] using e
                                                   omega) _
  · exact hB1.setCell (p := ⟨w1.heap.size + 1, 0, none⟩) (by show w1.heap.size ≤ w1.heap.size + 1; omega) _
  · simpa [World.setCell] using Nat.le_trans hsz (by omega)

set_option maxRecDepth 100000 in
set_option maxHeartbeats 8000000 in
theorem case_any (s : ByteArray) (w : World) (hs : s.size ≤ 1000000) :
    Calls Try.prog 12 #[.string s] w fun e w' => e = .returned (.string (caseS s)) ∧ Below w.heap.size w w' := by
  obtain ⟨i0, hi, hz0, hz1, hz2⟩ := info_parts stringInfo
  refine callsIn_wide (n := 0) |>.1 ?_
  refine callsIn_of_wp_marks Try.func12 rfl trivial ?_ rfl
  simp only [Try.ntmps12, List.size_toArray, List.length_cons, List.length_nil, Nat.reduceAdd, Nat.reduceSub, Array.replicate_succ, Array.replicate_zero, List.push_toArray, List.append_toArray, List.nil_append, List.cons_append]
  gi_wp2_with fail
  refine ⟨trivial, rfl, (callsIn_wide.2 (turns_any _)).mono ?_⟩
  rintro e w1 ⟨rfl, hmap, hbw, hlt⟩
  gi_wp2_with fail
  refine ⟨trivial, rfl, (callsIn_wide.2 (each_make s _)).mono ?_⟩
  rintro e w' ⟨rfl, rfl⟩
  gi_wp2_with fail
  have hs2 : ((((w1.alloc (.cells #[.map (some w.heap.size)] 62)).alloc (.cells #[.slice none 0 0] 26)).alloc (.cells #[.bool false] 4)).alloc (.cells #[.string s] 9)).heap.size = w1.heap.size + 4 := by simp
  have hbox : ((((w1.alloc (.cells #[.map (some w.heap.size)] 62)).alloc (.cells #[.slice none 0 0] 26)).alloc (.cells #[.bool false] 4)).alloc (.cells #[.string s] 9)).heap[w1.heap.size]? = some (.cells #[.map (some w.heap.size)] 62 (0, 0)) := by
    rw [Below.heap_alloc _ _ _ (by simp only [World.size_alloc]; omega), Below.heap_alloc _ _ _ (by simp only [World.size_alloc]; omega), Below.heap_alloc _ _ _ (by simp only [World.size_alloc]; omega)]; exact World.alloc_heap_new w1 _
  have hbox1 : ((((w1.alloc (.cells #[.map (some w.heap.size)] 62)).alloc (.cells #[.slice none 0 0] 26)).alloc (.cells #[.bool false] 4)).alloc (.cells #[.string s] 9)).heap[w1.heap.size + 1]? = some (.cells #[.slice none 0 0] 26 (0, 0)) := by
    rw [Below.heap_alloc _ _ _ (by simp only [World.size_alloc]; omega), Below.heap_alloc _ _ _ (by simp only [World.size_alloc]; omega)]
    have := World.alloc_heap_new (w1.alloc (.cells #[.map (some w.heap.size)] 62)) (.cells #[.slice none 0 0] 26)
    rwa [World.size_alloc] at this
  have hbox2 : ((((w1.alloc (.cells #[.map (some w.heap.size)] 62)).alloc (.cells #[.slice none 0 0] 26)).alloc (.cells #[.bool false] 4)).alloc (.cells #[.string s] 9)).heap[w1.heap.size + 2]? = some (.cells #[.bool false] 4 (0, 0)) := by
    rw [Below.heap_alloc _ _ _ (by simp only [World.size_alloc]; omega)]
    have := World.alloc_heap_new ((w1.alloc (.cells #[.map (some w.heap.size)] 62)).alloc (.cells #[.slice none 0 0] 26)) (.cells #[.bool false] 4)
    rwa [World.size_alloc, World.size_alloc] at this
  have hbox3 : ((((w1.alloc (.cells #[.map (some w.heap.size)] 62)).alloc (.cells #[.slice none 0 0] 26)).alloc (.cells #[.bool false] 4)).alloc (.cells #[.string s] 9)).heap[w1.heap.size + 3]? = some (.cells #[.string s] 9 (0, 0)) := by
    have := World.alloc_heap_new (((w1.alloc (.cells #[.map (some w.heap.size)] 62)).alloc (.cells #[.slice none 0 0] 26)).alloc (.cells #[.bool false] 4)) (.cells #[.string s] 9)
    rwa [World.size_alloc, World.size_alloc, World.size_alloc] at this
  have hb2 : Below w1.heap.size w1 ((((w1.alloc (.cells #[.map (some w.heap.size)] 62)).alloc (.cells #[.slice none 0 0] 26)).alloc (.cells #[.bool false] 4)).alloc (.cells #[.string s] 9)) :=
    ((((Below.refl _ w1).alloc (Nat.le_refl _) _).alloc (by simp) _).alloc (by simp; omega) _).alloc (by simp; omega) _
  generalize ((((w1.alloc (.cells #[.map (some w.heap.size)] 62)).alloc (.cells #[.slice none 0 0] 26)).alloc (.cells #[.bool false] 4)).alloc (.cells #[.string s] 9)) = W2 at *
  have hseq := each_seq (fr := frS) (w := W2) (q := qCa w1.heap.size) (by omega) (.inr rfl) hbox3
  refine rangeQ (gf := 56) (lb := #[.pointer (some ⟨w1.heap.size + 3, 0, none⟩)]) rfl (Go.Proofs.enters_of Try.func56 (by kernel_rfl) rfl) hseq frS_cells (fun k h => by unfold qCa at h; omega) (fun _ => rfl)
    (CaI w1 w.heap.size) (fun _ _ _ => False)
    (fun s A B row hs hg hr => by
      obtain ⟨u, h1, h2, h3, h4, h5, h6⟩ := hs
      exact ⟨u, ownFrom_block (β := Unit) (by omega) () A B row h1 hg hr, ownFrom_block (β := Unit) (by omega) () A B row h2 hg hr, ownFrom_block (β := Unit) (by omega) () A B row h3 hg hr, ownFrom_row (β := Unit) (B := W2.heap.size) () A B row h4 hg hr, ownFrom_below (β := Unit) (n₀ := w1.heap.size) (Nat.le_refl _) (by omega) () A B row h5 hg hr, Nat.le_trans h6 hg.size⟩)
    (fun _ _ _ _ _ hs _ _ => hs.elim)
    ⟨_, hbox, hbox1, hbox2, World.ownsRow_nil _ _ _ _, hb2, by omega⟩
    (fun x => { tmps := #[.string s, undef, .string ⟨#[]⟩, .pointer (some ⟨w1.heap.size, 0, none⟩), .pointer (some ⟨w1.heap.size + 1, 0, none⟩), .pointer (some ⟨w1.heap.size + 1 + 1, 0, none⟩), .int .i64 x.1, .string x.2, undef, undef, .map (some w.heap.size), .string s,
      .func (.func 56) #[] #[.pointer (some ⟨w1.heap.size + 1 + 1 + 1, 0, none⟩)], .int .i64 x.1, .string x.2, undef, undef, undef, undef, undef, undef, undef, undef, undef, undef, undef, undef, undef, undef, undef, undef, undef, undef, undef, undef, undef, undef, undef, undef, undef, undef, undef, undef, undef, undef], defers := [] })
    ?assign ?body ?done ?stop
  case assign =>
    intro l' x W3 K hK
    gi_wp2
    exact hK
  case body =>
    rintro l' pre ⟨a, p⟩ W3 ⟨v0, hT3, hP3, hS3, ho3, hB3, hsz3'⟩ hpre hsz3
    have hfa := first_at hpre
    obtain ⟨-, -, hmem, hlen⟩ := prefix_get hpre
    have hat := (pieces_at hmem).1
    have hps : p.size ≤ 1048576 := by dsimp only at hat; omega
    have hle := splS_le s
    have hm3 : W3.ownsMap Try.prog 3 funR w.heap.size 2 turnsD := ownsMap_block hmap (hB3.block _ hlt)
    have hcT := cell_of_one hT3
    have hcS := cell_of_one hS3
    have hfS := free_of_one hS3
    have HPRE := Lib.hid hpre
    have HP3 := Lib.hid hP3
    have HS3 := Lib.hid hS3
    have HT3 := Lib.hid hT3
    have HO := Lib.hid ho3
    have HLEN := Lib.hid hlen
    have HFA := Lib.hid hfa
    have hmT : ∀ b, (W3.setCell ⟨w1.heap.size + 1 + 1, 0, none⟩ (.bool b)).ownsMap Try.prog 3 funR w.heap.size 2 turnsD := fun b => hm3.setCell (by show w.heap.size ≠ w1.heap.size + 1 + 1; omega) _
    have hcT' : ∀ b, (W3.setCell ⟨w1.heap.size + 1 + 1, 0, none⟩ (.bool b)).cell? ⟨w1.heap.size, 0, none⟩ = some (.map (some w.heap.size)) := fun b => cell_of_one ((Below.heap_setCell W3 ⟨w1.heap.size + 1 + 1, 0, none⟩ _ _ (by show w1.heap.size ≠ w1.heap.size + 1 + 1; omega)).trans hT3)
    have hcs : (sglL (pre.map (·.2)) = true ∧ a = 0) ∨ (sglL (pre.map (·.2)) = true ∧ a ≠ 0) ∨ (sglL (pre.map (·.2)) = false ∧ p.size = 1 ∧ a = 0) ∨ (sglL (pre.map (·.2)) = false ∧ p.size = 1 ∧ a ≠ 0) ∨ (sglL (pre.map (·.2)) = false ∧ p.size ≠ 1 ∧ a = 0) ∨
        (sglL (pre.map (·.2)) = false ∧ p.size ≠ 1 ∧ a ≠ 0 ∧ p.size = 2) ∨ (sglL (pre.map (·.2)) = false ∧ p.size ≠ 1 ∧ a ≠ 0 ∧ p.size = 4) ∨ (sglL (pre.map (·.2)) = false ∧ p.size ≠ 1 ∧ a ≠ 0 ∧ p.size ≠ 2 ∧ p.size ≠ 4) := by
      cases sglL (pre.map (·.2)) <;> simp only [Bool.false_eq_true, false_and, true_and, false_or, or_false, Bool.true_eq_false] <;> omega
    clear hlen hat hle hsz3 hm3 hcT hT3 hS3 hP3 hpre hfa hmem ho3
    rcases hcs with hcs | hcs | hcs | hcs | hcs | hcs | hcs | hcs
    case' inl =>
      obtain ⟨hsg, ha⟩ := hcs
      rw [hsg] at hcS
      have g2 : ((a : Int) == 0) = true := by rw [beq_iff_eq]; omega
      have LK := look_turn (hmT true) hps
      have hcT2 := hcT' true
      have hob : oneB p = oneB p := rfl
      have HSG := Lib.hid (show sglL ((pre ++ [(a, p)]).map (·.2)) = true by rw [List.map_append, List.map_cons, List.map_nil, sglL_snoc, hsg]; rfl)
      have HQ := Lib.hid (show turnS ((pre.map (·.2)).isEmpty || (sglL (pre.map (·.2)) || oneB p)) p = lowS p from turn_plain _ p (.inl (by rw [hsg]; simp)))
      have HT := Lib.hid (fun w5 => lower_text p w5 (by omega))
      generalize lowS p = q at HQ HT
      generalize turnV p.size = tv at LK
      generalize turnB p.size = tb at LK
      clear hob ha  hsg
    case' inr.inl =>
      obtain ⟨hsg, ha⟩ := hcs
      rw [hsg] at hcS
      have g2 : ((a : Int) == 0) = false := by rw [beq_eq_false_iff_ne]; omega
      have LK := look_turn (hmT true) hps
      have hcT2 := hcT' true
      have hob : oneB p = oneB p := rfl
      have HSG := Lib.hid (show sglL ((pre ++ [(a, p)]).map (·.2)) = true by rw [List.map_append, List.map_cons, List.map_nil, sglL_snoc, hsg]; rfl)
      have HQ := Lib.hid (show turnS ((pre.map (·.2)).isEmpty || (sglL (pre.map (·.2)) || oneB p)) p = lowS p from turn_plain _ p (.inl (by rw [hsg]; simp)))
      have HT := Lib.hid (fun w5 => lower_text p w5 (by omega))
      generalize lowS p = q at HQ HT
      generalize turnV p.size = tv at LK
      generalize turnB p.size = tb at LK
      clear hob ha  hsg
    case' inr.inr.inl =>
      obtain ⟨hsg, h1, ha⟩ := hcs
      rw [hsg] at hcS
      have g1 : ((p.size : Int) == 1) = true := by rw [beq_iff_eq]; omega
      have g2 : ((a : Int) == 0) = true := by rw [beq_iff_eq]; omega
      have LK := look_turn (hmT true) hps
      have hcT2 := hcT' true
      have hob : oneB p = true := decide_eq_true h1
      have HSG := Lib.hid (show sglL ((pre ++ [(a, p)]).map (·.2)) = true by rw [List.map_append, List.map_cons, List.map_nil, sglL_snoc, hsg, hob]; rfl)
      have HQ := Lib.hid (show turnS ((pre.map (·.2)).isEmpty || (sglL (pre.map (·.2)) || oneB p)) p = lowS p from turn_plain _ p (.inl (by rw [hob]; simp)))
      have HT := Lib.hid (fun w5 => lower_text p w5 (by omega))
      generalize lowS p = q at HQ HT
      generalize turnV p.size = tv at LK
      generalize turnB p.size = tb at LK
      clear hob ha h1 hsg
    case' inr.inr.inr.inl =>
      obtain ⟨hsg, h1, ha⟩ := hcs
      rw [hsg] at hcS
      have g1 : ((p.size : Int) == 1) = true := by rw [beq_iff_eq]; omega
      have g2 : ((a : Int) == 0) = false := by rw [beq_eq_false_iff_ne]; omega
      have LK := look_turn (hmT true) hps
      have hcT2 := hcT' true
      have hob : oneB p = true := decide_eq_true h1
      have HSG := Lib.hid (show sglL ((pre ++ [(a, p)]).map (·.2)) = true by rw [List.map_append, List.map_cons, List.map_nil, sglL_snoc, hsg, hob]; rfl)
      have HQ := Lib.hid (show turnS ((pre.map (·.2)).isEmpty || (sglL (pre.map (·.2)) || oneB p)) p = lowS p from turn_plain _ p (.inl (by rw [hob]; simp)))
      have HT := Lib.hid (fun w5 => lower_text p w5 (by omega))
      generalize lowS p = q at HQ HT
      generalize turnV p.size = tv at LK
      generalize turnB p.size = tb at LK
      clear hob ha h1 hsg
    case' inr.inr.inr.inr.inl =>
      obtain ⟨hsg, h1, ha⟩ := hcs
      rw [hsg] at hcS
      have g1 : ((p.size : Int) == 1) = false := by rw [beq_eq_false_iff_ne]; omega
      have g2 : ((a : Int) == 0) = true := by rw [beq_iff_eq]; omega
      have LK := look_turn (hmT false) hps
      have hcT2 := hcT' false
      have hob : oneB p = false := decide_eq_false h1
      have HSG := Lib.hid (show sglL ((pre ++ [(a, p)]).map (·.2)) = false by rw [List.map_append, List.map_cons, List.map_nil, sglL_snoc, hsg, hob]; rfl)
      have HQ := Lib.hid (show turnS ((pre.map (·.2)).isEmpty || (sglL (pre.map (·.2)) || oneB p)) p = lowS p from turn_plain _ p (.inl (by rw [HFA.out, decide_eq_true ha]; rfl)))
      have HT := Lib.hid (fun w5 => lower_text p w5 (by omega))
      generalize lowS p = q at HQ HT
      generalize turnV p.size = tv at LK
      generalize turnB p.size = tb at LK
      clear hob ha h1 hsg
    case' inr.inr.inr.inr.inr.inl =>
      obtain ⟨hsg, h1, ha, hk⟩ := hcs
      rw [hsg] at hcS
      have g1 : ((p.size : Int) == 1) = false := by rw [beq_eq_false_iff_ne]; omega
      have g2 : ((a : Int) == 0) = false := by rw [beq_eq_false_iff_ne]; omega
      have LK := look_turn (hmT false) hps
      have hcT2 := hcT' false
      have hob : oneB p = false := decide_eq_false h1
      have HSG := Lib.hid (show sglL ((pre ++ [(a, p)]).map (·.2)) = false by rw [List.map_append, List.map_cons, List.map_nil, sglL_snoc, hsg, hob]; rfl)
      have HQ := Lib.hid (show turnS ((pre.map (·.2)).isEmpty || (sglL (pre.map (·.2)) || oneB p)) p = upS p from by rw [HFA.out, hsg, hob, decide_eq_false ha]; exact turn_two p hk)
      have HT := Lib.hid (fun w5 => upper_text p w5 (by omega))
      generalize upS p = q at HQ HT
      have ev : turnV p.size = .func (.func 54) #[] #[] := by unfold turnV; rw [if_pos hk]; rfl
      have eb : turnB p.size = true := by unfold turnB; rw [hk]; rfl
      rw [ev, eb] at LK
      clear ev eb hk
      clear hob ha h1 hsg
    case' inr.inr.inr.inr.inr.inr.inl =>
      obtain ⟨hsg, h1, ha, hk⟩ := hcs
      rw [hsg] at hcS
      have g1 : ((p.size : Int) == 1) = false := by rw [beq_eq_false_iff_ne]; omega
      have g2 : ((a : Int) == 0) = false := by rw [beq_eq_false_iff_ne]; omega
      have LK := look_turn (hmT false) hps
      have hcT2 := hcT' false
      have hob : oneB p = false := decide_eq_false h1
      have HSG := Lib.hid (show sglL ((pre ++ [(a, p)]).map (·.2)) = false by rw [List.map_append, List.map_cons, List.map_nil, sglL_snoc, hsg, hob]; rfl)
      have HQ := Lib.hid (show turnS ((pre.map (·.2)).isEmpty || (sglL (pre.map (·.2)) || oneB p)) p = titleS p from by rw [HFA.out, hsg, hob, decide_eq_false ha]; exact turn_four p hk)
      have HT := Lib.hid (fun w5 => title_text p w5 (by omega))
      generalize titleS p = q at HQ HT
      have ev : turnV p.size = .func (.func 55) #[] #[] := by unfold turnV; rw [if_neg (by omega), if_pos hk]; rfl
      have eb : turnB p.size = true := by unfold turnB; rw [hk]; rfl
      rw [ev, eb] at LK
      clear ev eb hk
      clear hob ha h1 hsg
    case' inr.inr.inr.inr.inr.inr.inr =>
      obtain ⟨hsg, h1, ha, hk2, hk4⟩ := hcs
      rw [hsg] at hcS
      have g1 : ((p.size : Int) == 1) = false := by rw [beq_eq_false_iff_ne]; omega
      have g2 : ((a : Int) == 0) = false := by rw [beq_eq_false_iff_ne]; omega
      have LK := look_turn (hmT false) hps
      have hcT2 := hcT' false
      have hob : oneB p = false := decide_eq_false h1
      have HSG := Lib.hid (show sglL ((pre ++ [(a, p)]).map (·.2)) = false by rw [List.map_append, List.map_cons, List.map_nil, sglL_snoc, hsg, hob]; rfl)
      have HQ := Lib.hid (show turnS ((pre.map (·.2)).isEmpty || (sglL (pre.map (·.2)) || oneB p)) p = lowS p from turn_plain _ p (.inr ⟨hk2, hk4⟩))
      have HT := Lib.hid (fun w5 => lower_text p w5 (by omega))
      generalize lowS p = q at HQ HT
      have ev : turnV p.size = .nilFunc := by unfold turnV; rw [if_neg hk2, if_neg hk4]
      have eb : turnB p.size = false := by unfold turnB; rw [decide_eq_false (by omega)]
      rw [ev, eb] at LK
      clear ev eb hk2 hk4
      clear hob ha h1 hsg
    all_goals
      clear hmT hcT' hps
      gi_wp2_with fail
      clear LK hcT2 hcS hfS
      refine wpIn_region_any (by kernel_rfl) ?_
      refine wpAnyIn_round (by kernel_rfl) _ _ _ _ ?_
      change wpAnyIn _ _ _ _ _ _ _ _ _ (World.drew _)
      obtain ⟨W4, e4, hT4, hP4, hS4, ho4, hB4, hz4, hK4⟩ := ca_set (hi := W2.heap.size) HT3.out HP3.out HS3.out HO.out hB3 hsz3' hs2
      rw [← e4]
      clear e4
      have HT4 := Lib.hid hT4
      have HP4 := Lib.hid hP4
      have HS4 := Lib.hid hS4
      have HO4 := Lib.hid ho4
      have HB4 := Lib.hid hB4
      have HK4 := Lib.hid hK4
      have c4 := cell_of_one hP4
      clear hT4 hP4 hS4 ho4 hB4 hK4 HT3 HP3 HS3 HO
      first
        | (have e0 : Hid (∀ w5, Calls Try.prog 43 #[.string p] w5 fun e w' => e = .returned (.string q) ∧ Below w5.heap.size w5 w') := HT
           clear e0
           refine wpAnyIn_take (i := 1) (v := .func (.func 43) #[] #[]) rfl rfl (by kernel_rfl) (by kernel_rfl) (by kernel_rfl) (fun _ _ _ h => h) ⟨Or.inl ⟨by rfl, fun w => by go_simp⟩, fun _ => rfl⟩ ?_)
        | (have e0 : Hid (∀ w5, Calls Try.prog 54 #[.string p] w5 fun e w' => e = .returned (.string q) ∧ Below w5.heap.size w5 w') := HT
           clear e0
           refine wpAnyIn_take (i := 1) (v := .func (.func 54) #[] #[]) rfl rfl (by kernel_rfl) (by kernel_rfl) (by kernel_rfl) (fun _ _ _ h => h) ⟨Or.inl ⟨by rfl, fun w => by go_simp⟩, fun _ => rfl⟩ ?_)
        | (have e0 : Hid (∀ w5, Calls Try.prog 55 #[.string p] w5 fun e w' => e = .returned (.string q) ∧ Below w5.heap.size w5 w') := HT
           clear e0
           refine wpAnyIn_take (i := 1) (v := .func (.func 55) #[] #[]) rfl rfl (by kernel_rfl) (by kernel_rfl) (by kernel_rfl) (fun _ _ _ h => h) ⟨Or.inl ⟨by rfl, fun w => by go_simp⟩, fun _ => rfl⟩ ?_)
      refine wpAnyIn_take (i := 2) (v := .string p) rfl rfl (by kernel_rfl) (by kernel_rfl) (by kernel_rfl) (fun _ _ _ h => h) ⟨Or.inl ⟨by rfl, fun w => by go_simp⟩, fun _ => rfl⟩ ?_
      refine wpAnyIn_ready (rs := [0, 3]) (by kernel_rfl) (by simp) ?_
      refine AllReadyIn.cons rfl (fun Kx hKx => ?_) (AllReadyIn.cons rfl (fun Kx hKx => ?_) AllReadyIn.nil)
      case' refine_1 =>
        go_simp
        refine hKx _ _ ?_
        clear hKx Kx
        refine wpAnyIn_ready (rs := [3]) (by kernel_rfl) (by simp) ?_
        refine AllReadyIn.cons rfl (fun Kx hKx => ?_) AllReadyIn.nil
        go_simp
        refine ⟨trivial, rfl, CallsIn.mono (callsIn_wide.2 (HT.out _)) ?_⟩
        rintro e w5 ⟨rfl, hb5⟩
        refine hKx _ _ ?_
        clear hKx Kx
        refine wpAnyIn_ready (rs := [4]) (by kernel_rfl) (by simp) ?_
        refine AllReadyIn.cons rfl (fun Kx hKx => ?_) AllReadyIn.nil
        go_simp
        refine hKx _ _ ?_
        clear hKx Kx
      case' refine_2 =>
        go_simp
        refine ⟨trivial, rfl, CallsIn.mono (callsIn_wide.2 (HT.out _)) ?_⟩
        rintro e w5 ⟨rfl, hb5⟩
        have hP5 := (hb5.block _ (by omega)).trans HP4.out
        have c5 := cell_of_one hP5
        have c6 := cell_of_one ((Below.heap_alloc w5 (.cells #[.string q] 9) _ (by have := hb5.size; omega)).trans hP5)
        clear hP5
        refine hKx _ _ ?_
        clear hKx Kx
        refine wpAnyIn_ready (rs := [0, 4]) (by kernel_rfl) (by simp) ?_
        refine AllReadyIn.cons rfl (fun Kx hKx => ?_) (AllReadyIn.cons rfl (fun Kx hKx => ?_) AllReadyIn.nil)
        case' refine_1 =>
          go_simp
          refine hKx _ _ ?_
          clear hKx Kx
          refine wpAnyIn_ready (rs := [4]) (by kernel_rfl) (by simp) ?_
          refine AllReadyIn.cons rfl (fun Kx hKx => ?_) AllReadyIn.nil
          go_simp
          refine hKx _ _ ?_
          clear hKx Kx c5 c6
        case' refine_2 =>
          go_simp
          refine hKx _ _ ?_
          clear hKx Kx
          refine wpAnyIn_ready (rs := [0]) (by kernel_rfl) (by simp) ?_
          refine AllReadyIn.cons rfl (fun Kx hKx => ?_) AllReadyIn.nil
          go_simp
          refine hKx _ _ ?_
          clear hKx Kx c5 c6
      all_goals
        have hl5 : pre.length ≤ 1048576 := by have h1 := HLEN.out; have h2 := splS_le s; omega
        have hbd1 : pre.length + 1 ≤ maxLen := by unfold maxLen; omega
        have hbd2 : (pre.length + 1) * 16 ≤ 140737488355328 := by omega
        have hs5 := hb5.size
        have HO5 := Lib.hid (own_below' HO4.out hb5)
        have HOD := Lib.hid (HO5.out.alloc (.cells #[.string q] 9))
        have HN := Lib.hid (show ∀ j u, [Value.string q][j]? = some u → (w5.alloc (.cells #[.string q] 9)).cell? ((⟨w5.heap.size, 0, none⟩ : Addr).add j) = some u from cell_one_new w5 (.string q) 9)
        refine wpAnyIn_ready (rs := [5]) (by kernel_rfl) (by simp) ?_
        refine AllReadyIn.cons rfl (fun Kx hKx => ?_) AllReadyIn.nil
        refine stepIn_append rfl _ _ 26 rfl (w1.heap.size + 4) 9 i0 (.string ByteArray.empty) 1 16 Try.underlying26 hi hz0 hz1 hz2 rfl (by decide) _ _ _ rfl HOD.out ⟨w5.heap.size, 0, none⟩ 1 1 [.string q] rfl rfl HN.out (by intro u hu; simp at hu; subst hu; rfl) hbd1 hbd2 (by show _ ≤ (w5.alloc _).heap.size; simp; omega) ?_
        intro v' w6 hown6 hgrow6
        obtain ⟨g', cap', rfl, hc6, hf6, HREST⟩ := ca_app (hi := W2.heap.size) ((hb5.block _ (by omega)).trans HT4.out) ((hb5.block _ (by omega)).trans HP4.out) ((hb5.block _ (by omega)).trans HS4.out) HO5.out (HB4.out.trans (hb5.mono (by omega))) (by omega) (HK4.out.trans (KeepQ.of_below hb5)) hs2 hown6 hgrow6
        clear hown6 hgrow6 HOD HN HO5
        refine hKx _ _ ?_
        clear hKx Kx
        refine wpAnyIn_ready (rs := [6]) (by kernel_rfl) (by simp) ?_
        refine AllReadyIn.cons rfl (fun Kx hKx => ?_) AllReadyIn.nil
        go_simp
        refine hKx _ _ ?_
        clear hKx Kx
        refine wpAnyIn_done (by kernel_rfl) ?_ _
        obtain ⟨f1, f2, f3, f4, f5, f6, f7⟩ := HREST.out
        refine ⟨f1, _, f2, f3, ?_, ?_, f6, f7⟩
        · rw [HSG.out]; exact f4
        · rw [List.map_append, List.map_cons, List.map_nil, caseT_snoc, HQ.out, List.length_append, strs_append]; exact f5
  case done =>
    rintro D ys W3 hD rfl ⟨v0, hT3, hP3, hS3, ho3, hB3, hsz3'⟩ hK
    have hc3 := cell_of_one hP3
    have hf3 := free_of_one hP3
    rw [pieces_length, pieces_map] at ho3
    have HB3 := Lib.hid hB3
    have hsh := owns_shape0 ho3
    have hpos := splS_pos s
    have hlen : (caseT (splS s)).length = (splS s).length := caseT_length _
    have hle := splS_le s
    have HJ : Hid (∀ u, W3.ownsRow (w1.heap.size + 4) 9 1 u (splS s).length (strs (caseT (splS s))) → ∀ g gc, u = .slice (some ⟨g, 0, none⟩) (splS s).length gc → Calls Try.prog 39 #[.slice (some ⟨g, 0, none⟩) (splS s).length gc] W3 fun e w' => e = .returned (.string (caseS s)) ∧ Below W3.heap.size W3 w') := by
      rintro u hu g gc rfl
      exact join_row W3 hlen (own_cap hu) (by omega) (hu.lt g rfl).2 (own_cell hu) (by show (caseS s).size ≤ 1048576; rw [size_caseS]; omega)
    rcases hsh with rfl | ⟨g, gc, rfl⟩
    · exfalso
      have := owned_none ho3
      omega
    · have HJ2 := Lib.hid (HJ.out _ ho3 g gc rfl)
      clear ho3 HJ hT3 hS3 hP3 hB3 hpos hlen hle
      gi_wp2_with fail
      refine ⟨trivial, rfl, (callsIn_wide.2 HJ2.out).mono ?_⟩
      rintro e w7 ⟨rfl, hb7⟩
      have hK7 := (hb7.block _ (Array.getElem?_eq_some_iff.1 hK).1).trans hK
      gi_wp2
      refine ⟨by simp, .inl ⟨_, _, rfl, run_takeDeferred hK7, ?_⟩⟩
      refine ⟨_, results_tmp rfl _ _ _, rfl, ?_⟩
      have h17 := HB3.out.trans (hb7.mono (by omega))
      exact (hbw.trans (h17.mono (by omega))).trans (belowK_b (w := w) (by omega) _ D _ _ (by omega) hK7 rfl rfl)
  case stop =>
    rintro D c pre W3 hD hpre h hK
    exact h.elim
end Go.Proofs.Ytpnhjpplfjamkaa
