/-
  Package check: oldNames and Final. (Printed by wip/gen_anamew.py.)
-/
import Derived.Test.YtbafmnafhaoggaaGreatDoorANameW
namespace Go.Proofs.YtbafmnafhaoggaaGreatDoor
open Go Go.RowKit Go.Maps

theorem held_shellN {P : Program} {md : Region.Mode} {ops : Array Oper} {S : World → Prop} {R : World → Prop} {Q : Exit → Act → World → Prop} {n : Nat} {l : Array Bool} {a : Act} {w : World} {aF : Act} (h1 : ∀ c (a : Act) d v w, Q (.panic c) (a.put d v) w → Q (.panic c) a w) (h2 : ∀ w, R w → Q .normal aF w)
    (h3 : ∀ K : Exit → Act → World → Prop, (∀ c (a : Act) d v w, K (.panic c) (a.put d v) w → K (.panic c) a w) → (∀ w, R w → K .normal aF w) → wpAnyH P md ops K S n l a w) : wpAnyH P md ops Q S n l a w := h3 Q h1 h2
theorem step_mapUpdate_own {P : Program} (w : World) {ops : Array Oper} {o : Oper} {a : Act} {K : Act → World → Prop} {Q : Exit → Act → World → Prop} {X : Prop} (hgd : o.guard = none) (m x v : Operand) (t : TypeId) (hop : o.op = Op.mapUpdate t m x v)
    (k e : TypeId) (KY : Keyed P k) (ht : P.underlying t = some (.map k e)) (R : Value → Option (DataW Unit × List MemPlace)) (b n : Nat) (D : DataW Unit)
    (hm : a.eval m = .map (some b)) (hown : w.ownsMap P k R b n D) (hn : n < maxLen) (key val : Value) (kl : Lit) (hx : a.eval x = key) (hv : a.eval v = val) (hkey : keyOf P k key = some kl)
    (d : DataW Unit) (ps : List MemPlace) (hval : R val = some (d, ps))
    (h : ∀ w', w'.ownsMap P k R b (n + 1) (D.put kl d) → w.grownBy w' (some b) → K (a.put o.dst undef) w') :
    if Region.wanted o (yielded ops a.tmps) = true then Oper.wp P o a w K Q else X := by
  rw [if_pos (by simp [Region.wanted, hgd])]
  obtain ⟨w', hrun, r1, r2⟩ := hown.update KY ht hn hkey hval
  unfold Oper.wp
  simp [execOp, hop, hm, hx, hv, hrun, Result.andThen]
  exact h w' r1 r2
/-- Rows of aliases in memory, wherever they lie. -/
def RowK (W : World) (g o : Nat) (T : List Kn) : Prop := ∀ i x, T[i]? = some x → ∃ l s r, W.cell? ⟨g, o + i * 6, none⟩ = some (.int .i64 x.1) ∧ W.cell? ⟨g, o + i * 6 + 1, none⟩ = some (.string x.2.1) ∧ W.cell? ⟨g, o + i * 6 + 2, none⟩ = some (.string x.2.2) ∧ W.cell? ⟨g, o + i * 6 + 3, none⟩ = some (.string l) ∧ W.cell? ⟨g, o + i * 6 + 4, none⟩ = some (.string s) ∧ W.cell? ⟨g, o + i * 6 + 5, none⟩ = some (.string r)
theorem lt_of_cellN {W : World} {a : Addr} {v : Value} (h : W.cell? a = some v) : a.block < W.heap.size := by
  rcases Nat.lt_or_ge a.block W.heap.size with h' | h'
  · exact h'
  · simp [World.cell?, Array.getElem?_eq_none h'] at h
theorem RowK.below {W W' : World} {g o : Nat} {T : List Kn} (h : RowK W g o T) (hb : Below W.heap.size W W') : RowK W' g o T := fun i x hx => by
  obtain ⟨l, s, r, c0, c1, c2, c3, c4, c5⟩ := h i x hx
  exact ⟨l, s, r, (hb.cell (lt_of_cellN c0)).trans c0, (hb.cell (lt_of_cellN c1)).trans c1, (hb.cell (lt_of_cellN c2)).trans c2, (hb.cell (lt_of_cellN c3)).trans c3, (hb.cell (lt_of_cellN c4)).trans c4, (hb.cell (lt_of_cellN c5)).trans c5⟩
/-- The same, where nothing lies if there are none. -/
def RowKO (W : World) (ao : Option Addr) (T : List Kn) : Prop := ∀ i x, T[i]? = some x → ∃ g o l s r, ao = some ⟨g, o, none⟩ ∧ W.cell? ⟨g, o + i * 6, none⟩ = some (.int .i64 x.1) ∧ W.cell? ⟨g, o + i * 6 + 1, none⟩ = some (.string x.2.1) ∧ W.cell? ⟨g, o + i * 6 + 2, none⟩ = some (.string x.2.2) ∧ W.cell? ⟨g, o + i * 6 + 3, none⟩ = some (.string l) ∧ W.cell? ⟨g, o + i * 6 + 4, none⟩ = some (.string s) ∧ W.cell? ⟨g, o + i * 6 + 5, none⟩ = some (.string r)
theorem RowKO.below {W W' : World} {ao : Option Addr} {T : List Kn} (h : RowKO W ao T) (hb : Below W.heap.size W W') : RowKO W' ao T := fun i x hx => by
  obtain ⟨g, o, l, s, r, e, c0, c1, c2, c3, c4, c5⟩ := h i x hx
  exact ⟨g, o, l, s, r, e, (hb.cell (lt_of_cellN c0)).trans c0, (hb.cell (lt_of_cellN c1)).trans c1, (hb.cell (lt_of_cellN c2)).trans c2, (hb.cell (lt_of_cellN c3)).trans c3, (hb.cell (lt_of_cellN c4)).trans c4, (hb.cell (lt_of_cellN c5)).trans c5⟩
theorem eql_mapN (b : Nat) (w : World) : (binOp .eql 129 (.map (some b)) (.map none)).run Tryz.prog w = .ok (.bool false) w := run_eql_map_nil w _ _ _ (some b) Tryz.underlying129
theorem eql_nilN (w : World) : (binOp .eql 129 (.map none) (.map none)).run Tryz.prog w = .ok (.bool true) w := run_eql_map_nil w _ _ _ none Tryz.underlying129
set_option maxRecDepth 100000 in
set_option maxHeartbeats 8000000 in
theorem oldNames_all (T : List Kn) (ao : Option Addr) (cap : Nat) (w : World) (hT : Fits T) (hl : T.length ≤ 1048576) (hr : RowKO w ao T) :
    Calls Tryz.prog 27 #[.slice ao T.length cap] w fun e w' => ∃ M, e = .returned (.map (some M)) ∧ OldN w' M T ∧ Below w.heap.size w w' := by
  have HS := Lib.hid (NamesI.start w w (Below.refl _ _))
  have HT := Lib.hid hT
  have HR := Lib.hid (fun w' (hb : Below w.heap.size w w') => hr.below hb)
  have hmm := @run_makeMap Tryz.prog
  clear hT hr
  go_enter Tryz.func27, Tryz.ntmps27
  go_wp2
  obtain ⟨M, hM⟩ : ∃ M, w.heap.size = M := ⟨_, rfl⟩
  rw [hM] at HS ⊢
  clear hM
  go_loopw [9] (fun i wr => ∃ (n : Nat) (G : List (Int × Nat)), n ≤ T.length ∧ i = .int .i64 (n : Int) ∧ G.length ≤ n ∧ NamesI w wr M (T.take n) G) (fun i _ => T.length - (intOf i).toNat)
  case atStart => exact ⟨0, [], Nat.zero_le _, rfl, Nat.le_refl _, HS.out⟩
  case round =>
    obtain ⟨n, G, hn, rfl, hgl, hN⟩ := hrel
    by_cases hlt : n < T.length
    · have hlt' : (n : Int) < (T.length : Int) := by omega
      have hn0 : (0 : Int) ≤ (n : Int) := by omega
      obtain ⟨x, hx⟩ : ∃ x, T[n]? = some x := ⟨_, List.getElem?_eq_getElem hlt⟩
      obtain ⟨g, o, xl, xs, xr, rfl, c0, c1, c2, c3, c4, c5⟩ := HR.out _ hN.bel n x hx
      have hmem : x ∈ T := List.mem_of_getElem? hx
      obtain ⟨hw, hs1, hs2⟩ := HT.out x hmem
      have HX := Lib.hid (show T.take (n + 1) = T.take n ++ [x] by rw [List.take_add_one, hx]; rfl)
      have HNS := Lib.hid (nm_size (k := x.1) hs1 hs2)
      have HW := Lib.hid hw
      have hlenT : (T.take n).length = n := by rw [List.length_take]; omega
      have HLT := Lib.hid hlenT
      obtain ⟨N5, hN5⟩ : ∃ N, wr.heap.size = N := ⟨_, rfl⟩
      obtain ⟨W5, hW5⟩ : ∃ W, wr.alloc (.cells #[.int .i64 x.1, .string x.2.1, .string x.2.2, .string xl, .string xs, .string xr] 42) = W := ⟨_, rfl⟩
      have hb5 : Below wr.heap.size wr W5 := by rw [← hW5]; exact (Below.refl _ _).alloc (Nat.le_refl _) _
      have hs5 : W5.heap.size = N5 + 1 := by rw [← hW5, ← hN5]; simp
      have hX5 : W5.heap[N5]? = some (.cells #[.int .i64 x.1, .string x.2.1, .string x.2.2, .string xl, .string xs, .string xr] 42 (0, 0)) := by rw [← hW5, ← hN5]; exact World.alloc_heap_new wr _
      have HN5 := Lib.hid (hN.below hb5)
      have HM5 := Lib.hid hN.out.lt
      have HIN := Lib.hid (fun p hp => (hN.inn p hp).lt)
      have hWs := hN5
      have HN := Lib.hid hN
      have q5 : ∀ (W' : World), W'.heap[N5]? = some (.cells #[.int .i64 x.1, .string x.2.1, .string x.2.2, .string xl, .string xs, .string xr] 42 (0, 0)) → W'.cell? ⟨N5, 0, none⟩ = some (.int .i64 x.1) ∧ W'.cell? ⟨N5, 1, none⟩ = some (.string x.2.1) ∧ W'.cell? ⟨N5, 2, none⟩ = some (.string x.2.2) := fun W' h => by simp [World.cell?, h]
      have HQ5 := Lib.hid q5
      have HGN := Lib.hid hgl
      clear q5 hN hlenT hgl hx hmem
      have HX5 := Lib.hid hX5
      have HB5 := Lib.hid hb5
      have HS5 := Lib.hid hs5
      have HWN := Lib.hid hN5
      obtain ⟨z0, z1, z2⟩ := HQ5.out _ HX5.out
      obtain ⟨k, xa, xb⟩ := x
      go_upto_region 5 with fail
      try rw [hWs]
      try rw [hW5]
      clear hW5 hb5 hs5 hX5 hWs hN5 c0 c1 c2 c3 c4 c5
      by_cases hk : ∃ b, (k, b) ∈ G
      · obtain ⟨b, hbG⟩ := hk
        have hlk := HN5.out.lookYes HW.out hbG
        have heq := eql_mapN b W5
        go_upto_region 7 with fail
        clear hlk heq z0 z1 z2
        have HNX := Lib.hid HN5.out
        have HGM := Lib.hid hbG
        have HLG := Lib.hid (show G.length ≤ n + 1 by have := HGN.out; omega)
        have HNB := Lib.hid (show b ≠ N5 by have := HIN.out _ hbG; have h2 := HWN.out; omega)
        have HXX := Lib.hid HX5.out
        obtain ⟨WX, hWX⟩ : ∃ W, W = W5 := ⟨_, rfl⟩
        rw [← hWX] at HNX HXX ⊢
        clear hWX hbG
        have HC := Lib.hid (fun w' (h : Below WX.heap.size WX w') => show (Instr.lookup 68 (.map (some M)) (.int .i64 k) false).run Tryz.prog w' = .ok (.map (some b)) w' ∧ w'.cell? ⟨N5, 0, none⟩ = some (.int .i64 k) ∧ w'.cell? ⟨N5, 1, none⟩ = some (.string xa) ∧ w'.cell? ⟨N5, 2, none⟩ = some (.string xb) from
          ⟨(HNX.out.below h).lookYes HW.out HGM.out, HQ5.out _ ((h.block _ (lt_of_block HXX.out)).trans HXX.out)⟩)
        have HNM := Lib.hid (fun w' (h : Below WX.heap.size WX w') => (named_any k xa xb w').mono (R' := fun e w'' => e = .returned (.agg #[.string (nm k xa xb).1, .string (nm k xa xb).2]) ∧ Below WX.heap.size WX w'') fun e w'' ⟨p, q⟩ => ⟨p, h.trans (q.mono h.size)⟩)
        have hdr : Below WX.heap.size WX WX.drew := Below.drew (Below.refl _ _)
        refine wp_region_held_drew (S := fun w' => (Instr.lookup 68 (.map (some M)) (.int .i64 k) false).run Tryz.prog w' = .ok (.map (some b)) w' ∧ w'.cell? ⟨N5, 0, none⟩ = some (.int .i64 k) ∧ w'.cell? ⟨N5, 1, none⟩ = some (.string xa) ∧ w'.cell? ⟨N5, 2, none⟩ = some (.string xb)) (by kernel_rfl) (HC.out _ hdr) (fun hHeld => ?_)
        apply held_shellN (R := fun w' => NamesI w w' M (T.take (n + 1)) G)
        exact fun _ _ d _ _ h => by cases d <;> exact h
        rotate_left 1
        · intro KK hKp hfin
          refine wpAnyH_take (i := 0) (v := .map (some M)) rfl (by kernel_rfl) (by kernel_rfl) (by kernel_rfl) (fun c a w h => hKp c a _ _ w h) (Or.inl ⟨by kernel_rfl, fun w hSw => by dsimp only at hSw; obtain ⟨g1, g2, g3, g4⟩ := hSw; go_simp⟩) (by assumption) ?_
          simp only [Act.put, List.getElem_toArray, List.getElem_cons_zero, List.setIfInBounds_toArray, List.set_cons_zero, List.set_cons_succ]
          refine wpAnyH_take (i := 1) (v := .pointer (some ⟨N5, 0, none⟩)) rfl (by kernel_rfl) (by kernel_rfl) (by kernel_rfl) (fun c a w h => hKp c a _ _ w h) (Or.inl ⟨by kernel_rfl, fun w hSw => by dsimp only at hSw; obtain ⟨g1, g2, g3, g4⟩ := hSw; go_simp⟩) (by assumption) ?_
          simp only [Act.put, List.getElem_toArray, List.getElem_cons_zero, List.getElem_cons_succ, List.setIfInBounds_toArray, List.set_cons_zero, List.set_cons_succ]
          refine wpAnyH_take (i := 2) (v := .int .i64 k) rfl (by kernel_rfl) (by kernel_rfl) (by kernel_rfl) (fun c a w h => hKp c a _ _ w h) (Or.inl ⟨by kernel_rfl, fun w hSw => by dsimp only at hSw; obtain ⟨g1, g2, g3, g4⟩ := hSw; go_simp⟩) (by assumption) ?_
          simp only [Act.put, List.getElem_toArray, List.getElem_cons_zero, List.getElem_cons_succ, List.setIfInBounds_toArray, List.set_cons_zero, List.set_cons_succ]
          refine wpAnyH_take (i := 4) (v := .pointer (some ⟨N5, 0, none⟩)) rfl (by kernel_rfl) (by kernel_rfl) (by kernel_rfl) (fun c a w h => hKp c a _ _ w h) (Or.inl ⟨by kernel_rfl, fun w hSw => by dsimp only at hSw; obtain ⟨g1, g2, g3, g4⟩ := hSw; go_simp⟩) (by assumption) ?_
          simp only [Act.put, List.getElem_toArray, List.getElem_cons_zero, List.getElem_cons_succ, List.setIfInBounds_toArray, List.set_cons_zero, List.set_cons_succ]
          refine wpAnyH_take (i := 5) (v := .int .i64 k) rfl (by kernel_rfl) (by kernel_rfl) (by kernel_rfl) (fun c a w h => hKp c a _ _ w h) (Or.inl ⟨by kernel_rfl, fun w hSw => by dsimp only at hSw; obtain ⟨g1, g2, g3, g4⟩ := hSw; go_simp⟩) (by assumption) ?_
          simp only [Act.put, List.getElem_toArray, List.getElem_cons_zero, List.getElem_cons_succ, List.setIfInBounds_toArray, List.set_cons_zero, List.set_cons_succ]
          refine wpAnyH_take (i := 6) (v := .pointer (some ⟨N5, 1, none⟩)) rfl (by kernel_rfl) (by kernel_rfl) (by kernel_rfl) (fun c a w h => hKp c a _ _ w h) (Or.inl ⟨by kernel_rfl, fun w hSw => by dsimp only at hSw; obtain ⟨g1, g2, g3, g4⟩ := hSw; go_simp⟩) (by assumption) ?_
          simp only [Act.put, List.getElem_toArray, List.getElem_cons_zero, List.getElem_cons_succ, List.setIfInBounds_toArray, List.set_cons_zero, List.set_cons_succ]
          refine wpAnyH_take (i := 7) (v := .string xa) rfl (by kernel_rfl) (by kernel_rfl) (by kernel_rfl) (fun c a w h => hKp c a _ _ w h) (Or.inl ⟨by kernel_rfl, fun w hSw => by dsimp only at hSw; obtain ⟨g1, g2, g3, g4⟩ := hSw; go_simp⟩) (by assumption) ?_
          simp only [Act.put, List.getElem_toArray, List.getElem_cons_zero, List.getElem_cons_succ, List.setIfInBounds_toArray, List.set_cons_zero, List.set_cons_succ]
          refine wpAnyH_take (i := 8) (v := .pointer (some ⟨N5, 2, none⟩)) rfl (by kernel_rfl) (by kernel_rfl) (by kernel_rfl) (fun c a w h => hKp c a _ _ w h) (Or.inl ⟨by kernel_rfl, fun w hSw => by dsimp only at hSw; obtain ⟨g1, g2, g3, g4⟩ := hSw; go_simp⟩) (by assumption) ?_
          simp only [Act.put, List.getElem_toArray, List.getElem_cons_zero, List.getElem_cons_succ, List.setIfInBounds_toArray, List.set_cons_zero, List.set_cons_succ]
          refine wpAnyH_take (i := 9) (v := .string xb) rfl (by kernel_rfl) (by kernel_rfl) (by kernel_rfl) (fun c a w h => hKp c a _ _ w h) (Or.inl ⟨by kernel_rfl, fun w hSw => by dsimp only at hSw; obtain ⟨g1, g2, g3, g4⟩ := hSw; go_simp⟩) (by assumption) ?_
          simp only [Act.put, List.getElem_toArray, List.getElem_cons_zero, List.getElem_cons_succ, List.setIfInBounds_toArray, List.set_cons_zero, List.set_cons_succ]
          refine wpAnyH_ready (rs := [3, 10]) (by kernel_rfl) (by simp) ?_
          refine AllReadyH.cons rfl (fun Kx hKx => ?_) (AllReadyH.cons rfl (fun Kx hKx => ?_) AllReadyH.nil)
          · try rw [if_pos (by kernel_rfl)]
            have hlk := (HC.out _ hdr).1
            go_simp
            clear hlk
            refine hKx.out _ _ (HC.out _ hdr) (fun hHeld => ?_)
            clear hKx Kx
            try simp only [Act.put, List.getElem_toArray, List.getElem_cons_zero, List.getElem_cons_succ, List.setIfInBounds_toArray, List.set_cons_zero, List.set_cons_succ]
            refine wpAnyH_ready (rs := [10]) (by kernel_rfl) (by simp) ?_
            refine AllReadyH.cons rfl (fun Kx hKx => ?_) AllReadyH.nil
            try rw [if_pos (by kernel_rfl)]
            go_simp
            refine (HNM.out _ hdr).mono ?_
            rintro e w5 ⟨rfl, hb5x⟩
            refine hKx.out _ _ (HC.out _ hb5x) (fun hHeld => ?_)
            clear hKx Kx
            try simp only [Act.put, List.getElem_toArray, List.getElem_cons_zero, List.getElem_cons_succ, List.setIfInBounds_toArray, List.set_cons_zero, List.set_cons_succ]
            refine wpAnyH_ready (rs := [11]) (by kernel_rfl) (by simp) ?_
            refine AllReadyH.cons rfl (fun Kx hKx => ?_) AllReadyH.nil
            refine step_mapUpdate_own _ rfl _ _ _ 129 rfl 131 4 nameKeyed Tryz.underlying129 (plainElem (H := Unit) Tryz.prog 4) b (T.take n).length _ rfl ((HNX.out.below hb5x).inn _ HGM.out) (by rw [HLT.out]; unfold maxLen; omega) _ _ (nmL (nm k xa xb)) rfl rfl (keyName HNS.out.1 HNS.out.2) _ [] (plainElem_bool Tryz.underlying4 true) ?_
            intro w9 hown9 hgrow9
            have hn9 := (HNX.out.below hb5x).note (x := (k, xa, xb)) HGM.out hown9 hgrow9
            have hx9 := (hgrow9.block _ (Nat.lt_of_lt_of_le (lt_of_block HXX.out) hb5x.size) (by simp; exact fun e => HNB.out e.symm)).trans ((hb5x.block _ (lt_of_block HXX.out)).trans HXX.out)
            refine hKx.out _ _ ⟨hn9.lookYes HW.out HGM.out, HQ5.out _ hx9⟩ (fun hHeld => ?_)
            clear hKx Kx
            try simp only [Act.put, List.getElem_toArray, List.getElem_cons_zero, List.getElem_cons_succ]
            refine wpAnyH_done (by kernel_rfl) ?_ _
            exact hfin _ (by rw [HX.out]; exact hn9)
          · try rw [if_pos (by kernel_rfl)]
            go_simp
            refine (HNM.out _ hdr).mono ?_
            rintro e w5 ⟨rfl, hb5x⟩
            refine hKx.out _ _ (HC.out _ hb5x) (fun hHeld => ?_)
            clear hKx Kx
            try simp only [Act.put, List.getElem_toArray, List.getElem_cons_zero, List.getElem_cons_succ, List.setIfInBounds_toArray, List.set_cons_zero, List.set_cons_succ]
            refine wpAnyH_ready (rs := [3]) (by kernel_rfl) (by simp) ?_
            refine AllReadyH.cons rfl (fun Kx hKx => ?_) AllReadyH.nil
            try rw [if_pos (by kernel_rfl)]
            have hlk := (HC.out _ hb5x).1
            go_simp
            clear hlk
            refine hKx.out _ _ (HC.out _ hb5x) (fun hHeld => ?_)
            clear hKx Kx
            try simp only [Act.put, List.getElem_toArray, List.getElem_cons_zero, List.getElem_cons_succ, List.setIfInBounds_toArray, List.set_cons_zero, List.set_cons_succ]
            refine wpAnyH_ready (rs := [11]) (by kernel_rfl) (by simp) ?_
            refine AllReadyH.cons rfl (fun Kx hKx => ?_) AllReadyH.nil
            refine step_mapUpdate_own _ rfl _ _ _ 129 rfl 131 4 nameKeyed Tryz.underlying129 (plainElem (H := Unit) Tryz.prog 4) b (T.take n).length _ rfl ((HNX.out.below hb5x).inn _ HGM.out) (by rw [HLT.out]; unfold maxLen; omega) _ _ (nmL (nm k xa xb)) rfl rfl (keyName HNS.out.1 HNS.out.2) _ [] (plainElem_bool Tryz.underlying4 true) ?_
            intro w9 hown9 hgrow9
            have hn9 := (HNX.out.below hb5x).note (x := (k, xa, xb)) HGM.out hown9 hgrow9
            have hx9 := (hgrow9.block _ (Nat.lt_of_lt_of_le (lt_of_block HXX.out) hb5x.size) (by simp; exact fun e => HNB.out e.symm)).trans ((hb5x.block _ (lt_of_block HXX.out)).trans HXX.out)
            refine hKx.out _ _ ⟨hn9.lookYes HW.out HGM.out, HQ5.out _ hx9⟩ (fun hHeld => ?_)
            clear hKx Kx
            try simp only [Act.put, List.getElem_toArray, List.getElem_cons_zero, List.getElem_cons_succ]
            refine wpAnyH_done (by kernel_rfl) ?_ _
            exact hfin _ (by rw [HX.out]; exact hn9)
        rintro w9 hN9
        clear HC HNM hdr
        go_wp2_with fail
        go_roundw
        case rel => exact ⟨n + 1, G, by omega, by go_num, HLG.out, hN9⟩
        case measure => simp [intOf]; omega
      · have hkn : ∀ p ∈ G, p.1 ≠ k := fun p hp e => hk ⟨p.2, by rw [← e]; exact hp⟩
        have hlk := HN5.out.lookNo HW.out hkn
        have heq := eql_nilN W5
        have hout := HN5.out.out.alloc (.map #[] 0)
        have HKN := Lib.hid hkn
        have HGL := Lib.hid (show G.length < maxLen by have := HN.out.len; rw [HLT.out] at this; unfold maxLen; omega)
        have HGT := Lib.hid (show G.length ≤ (T.take n).length by rw [HLT.out]; exact HGN.out)
        go_upto_region 7 with (at_mapUpdate; refine wpList_mapUpdate_own _ rfl _ _ _ 68 rfl 3 129 kindKeyed Tryz.underlying68 mapR M G.length _ rfl hout HGL.out _ _ (.int .i64 k) rfl rfl (keyOf_int_mk Tryz.underlying3 HW.out) _ [] rfl ?_; intro w6 hown6 hgrow6; have HO6 := Lib.hid hown6; have HG6 := Lib.hid hgrow6; clear hown6 hgrow6)
        clear hlk heq z0 z1 z2 hout
        obtain ⟨b, hbs⟩ : ∃ b, W5.heap.size = b := ⟨_, rfl⟩
        have HNX := Lib.hid (show NamesI w w6 M (T.take n) ((k, b) :: G) by have := HN5.out.kind HKN.out HGT.out HO6.out HG6.out; rwa [hbs] at this)
        have HGM := Lib.hid (show (k, b) ∈ (k, b) :: G from List.mem_cons_self)
        have HLG := Lib.hid (show ((k, b) :: G).length ≤ n + 1 by rw [List.length_cons]; have := HGN.out; omega)
        have HNB := Lib.hid (show b ≠ N5 by have := HS5.out; omega)
        have HXX := Lib.hid ((HG6.out.block N5 (by simp; have := HS5.out; omega) (by simp; have := HM5.out; have := HWN.out; omega)).trans ((Below.heap_alloc W5 _ _ (by have := HS5.out; omega)).trans HX5.out))
        try rw [hbs]
        obtain ⟨WX, hWX⟩ : ∃ W, W = w6 := ⟨_, rfl⟩
        rw [← hWX] at HNX HXX ⊢
        clear hWX hbs HO6 HG6 HKN HGL HGT
        have HC := Lib.hid (fun w' (h : Below WX.heap.size WX w') => show (Instr.lookup 68 (.map (some M)) (.int .i64 k) false).run Tryz.prog w' = .ok (.map (some b)) w' ∧ w'.cell? ⟨N5, 0, none⟩ = some (.int .i64 k) ∧ w'.cell? ⟨N5, 1, none⟩ = some (.string xa) ∧ w'.cell? ⟨N5, 2, none⟩ = some (.string xb) from
          ⟨(HNX.out.below h).lookYes HW.out HGM.out, HQ5.out _ ((h.block _ (lt_of_block HXX.out)).trans HXX.out)⟩)
        have HNM := Lib.hid (fun w' (h : Below WX.heap.size WX w') => (named_any k xa xb w').mono (R' := fun e w'' => e = .returned (.agg #[.string (nm k xa xb).1, .string (nm k xa xb).2]) ∧ Below WX.heap.size WX w'') fun e w'' ⟨p, q⟩ => ⟨p, h.trans (q.mono h.size)⟩)
        have hdr : Below WX.heap.size WX WX.drew := Below.drew (Below.refl _ _)
        refine wp_region_held_drew (S := fun w' => (Instr.lookup 68 (.map (some M)) (.int .i64 k) false).run Tryz.prog w' = .ok (.map (some b)) w' ∧ w'.cell? ⟨N5, 0, none⟩ = some (.int .i64 k) ∧ w'.cell? ⟨N5, 1, none⟩ = some (.string xa) ∧ w'.cell? ⟨N5, 2, none⟩ = some (.string xb)) (by kernel_rfl) (HC.out _ hdr) (fun hHeld => ?_)
        apply held_shellN (R := fun w' => NamesI w w' M (T.take (n + 1)) ((k, b) :: G))
        exact fun _ _ d _ _ h => by cases d <;> exact h
        rotate_left 1
        · intro KK hKp hfin
          refine wpAnyH_take (i := 0) (v := .map (some M)) rfl (by kernel_rfl) (by kernel_rfl) (by kernel_rfl) (fun c a w h => hKp c a _ _ w h) (Or.inl ⟨by kernel_rfl, fun w hSw => by dsimp only at hSw; obtain ⟨g1, g2, g3, g4⟩ := hSw; go_simp⟩) (by assumption) ?_
          simp only [Act.put, List.getElem_toArray, List.getElem_cons_zero, List.setIfInBounds_toArray, List.set_cons_zero, List.set_cons_succ]
          refine wpAnyH_take (i := 1) (v := .pointer (some ⟨N5, 0, none⟩)) rfl (by kernel_rfl) (by kernel_rfl) (by kernel_rfl) (fun c a w h => hKp c a _ _ w h) (Or.inl ⟨by kernel_rfl, fun w hSw => by dsimp only at hSw; obtain ⟨g1, g2, g3, g4⟩ := hSw; go_simp⟩) (by assumption) ?_
          simp only [Act.put, List.getElem_toArray, List.getElem_cons_zero, List.getElem_cons_succ, List.setIfInBounds_toArray, List.set_cons_zero, List.set_cons_succ]
          refine wpAnyH_take (i := 2) (v := .int .i64 k) rfl (by kernel_rfl) (by kernel_rfl) (by kernel_rfl) (fun c a w h => hKp c a _ _ w h) (Or.inl ⟨by kernel_rfl, fun w hSw => by dsimp only at hSw; obtain ⟨g1, g2, g3, g4⟩ := hSw; go_simp⟩) (by assumption) ?_
          simp only [Act.put, List.getElem_toArray, List.getElem_cons_zero, List.getElem_cons_succ, List.setIfInBounds_toArray, List.set_cons_zero, List.set_cons_succ]
          refine wpAnyH_take (i := 4) (v := .pointer (some ⟨N5, 0, none⟩)) rfl (by kernel_rfl) (by kernel_rfl) (by kernel_rfl) (fun c a w h => hKp c a _ _ w h) (Or.inl ⟨by kernel_rfl, fun w hSw => by dsimp only at hSw; obtain ⟨g1, g2, g3, g4⟩ := hSw; go_simp⟩) (by assumption) ?_
          simp only [Act.put, List.getElem_toArray, List.getElem_cons_zero, List.getElem_cons_succ, List.setIfInBounds_toArray, List.set_cons_zero, List.set_cons_succ]
          refine wpAnyH_take (i := 5) (v := .int .i64 k) rfl (by kernel_rfl) (by kernel_rfl) (by kernel_rfl) (fun c a w h => hKp c a _ _ w h) (Or.inl ⟨by kernel_rfl, fun w hSw => by dsimp only at hSw; obtain ⟨g1, g2, g3, g4⟩ := hSw; go_simp⟩) (by assumption) ?_
          simp only [Act.put, List.getElem_toArray, List.getElem_cons_zero, List.getElem_cons_succ, List.setIfInBounds_toArray, List.set_cons_zero, List.set_cons_succ]
          refine wpAnyH_take (i := 6) (v := .pointer (some ⟨N5, 1, none⟩)) rfl (by kernel_rfl) (by kernel_rfl) (by kernel_rfl) (fun c a w h => hKp c a _ _ w h) (Or.inl ⟨by kernel_rfl, fun w hSw => by dsimp only at hSw; obtain ⟨g1, g2, g3, g4⟩ := hSw; go_simp⟩) (by assumption) ?_
          simp only [Act.put, List.getElem_toArray, List.getElem_cons_zero, List.getElem_cons_succ, List.setIfInBounds_toArray, List.set_cons_zero, List.set_cons_succ]
          refine wpAnyH_take (i := 7) (v := .string xa) rfl (by kernel_rfl) (by kernel_rfl) (by kernel_rfl) (fun c a w h => hKp c a _ _ w h) (Or.inl ⟨by kernel_rfl, fun w hSw => by dsimp only at hSw; obtain ⟨g1, g2, g3, g4⟩ := hSw; go_simp⟩) (by assumption) ?_
          simp only [Act.put, List.getElem_toArray, List.getElem_cons_zero, List.getElem_cons_succ, List.setIfInBounds_toArray, List.set_cons_zero, List.set_cons_succ]
          refine wpAnyH_take (i := 8) (v := .pointer (some ⟨N5, 2, none⟩)) rfl (by kernel_rfl) (by kernel_rfl) (by kernel_rfl) (fun c a w h => hKp c a _ _ w h) (Or.inl ⟨by kernel_rfl, fun w hSw => by dsimp only at hSw; obtain ⟨g1, g2, g3, g4⟩ := hSw; go_simp⟩) (by assumption) ?_
          simp only [Act.put, List.getElem_toArray, List.getElem_cons_zero, List.getElem_cons_succ, List.setIfInBounds_toArray, List.set_cons_zero, List.set_cons_succ]
          refine wpAnyH_take (i := 9) (v := .string xb) rfl (by kernel_rfl) (by kernel_rfl) (by kernel_rfl) (fun c a w h => hKp c a _ _ w h) (Or.inl ⟨by kernel_rfl, fun w hSw => by dsimp only at hSw; obtain ⟨g1, g2, g3, g4⟩ := hSw; go_simp⟩) (by assumption) ?_
          simp only [Act.put, List.getElem_toArray, List.getElem_cons_zero, List.getElem_cons_succ, List.setIfInBounds_toArray, List.set_cons_zero, List.set_cons_succ]
          refine wpAnyH_ready (rs := [3, 10]) (by kernel_rfl) (by simp) ?_
          refine AllReadyH.cons rfl (fun Kx hKx => ?_) (AllReadyH.cons rfl (fun Kx hKx => ?_) AllReadyH.nil)
          · try rw [if_pos (by kernel_rfl)]
            have hlk := (HC.out _ hdr).1
            go_simp
            clear hlk
            refine hKx.out _ _ (HC.out _ hdr) (fun hHeld => ?_)
            clear hKx Kx
            try simp only [Act.put, List.getElem_toArray, List.getElem_cons_zero, List.getElem_cons_succ, List.setIfInBounds_toArray, List.set_cons_zero, List.set_cons_succ]
            refine wpAnyH_ready (rs := [10]) (by kernel_rfl) (by simp) ?_
            refine AllReadyH.cons rfl (fun Kx hKx => ?_) AllReadyH.nil
            try rw [if_pos (by kernel_rfl)]
            go_simp
            refine (HNM.out _ hdr).mono ?_
            rintro e w5 ⟨rfl, hb5x⟩
            refine hKx.out _ _ (HC.out _ hb5x) (fun hHeld => ?_)
            clear hKx Kx
            try simp only [Act.put, List.getElem_toArray, List.getElem_cons_zero, List.getElem_cons_succ, List.setIfInBounds_toArray, List.set_cons_zero, List.set_cons_succ]
            refine wpAnyH_ready (rs := [11]) (by kernel_rfl) (by simp) ?_
            refine AllReadyH.cons rfl (fun Kx hKx => ?_) AllReadyH.nil
            refine step_mapUpdate_own _ rfl _ _ _ 129 rfl 131 4 nameKeyed Tryz.underlying129 (plainElem (H := Unit) Tryz.prog 4) b (T.take n).length _ rfl ((HNX.out.below hb5x).inn _ HGM.out) (by rw [HLT.out]; unfold maxLen; omega) _ _ (nmL (nm k xa xb)) rfl rfl (keyName HNS.out.1 HNS.out.2) _ [] (plainElem_bool Tryz.underlying4 true) ?_
            intro w9 hown9 hgrow9
            have hn9 := (HNX.out.below hb5x).note (x := (k, xa, xb)) HGM.out hown9 hgrow9
            have hx9 := (hgrow9.block _ (Nat.lt_of_lt_of_le (lt_of_block HXX.out) hb5x.size) (by simp; exact fun e => HNB.out e.symm)).trans ((hb5x.block _ (lt_of_block HXX.out)).trans HXX.out)
            refine hKx.out _ _ ⟨hn9.lookYes HW.out HGM.out, HQ5.out _ hx9⟩ (fun hHeld => ?_)
            clear hKx Kx
            try simp only [Act.put, List.getElem_toArray, List.getElem_cons_zero, List.getElem_cons_succ]
            refine wpAnyH_done (by kernel_rfl) ?_ _
            exact hfin _ (by rw [HX.out]; exact hn9)
          · try rw [if_pos (by kernel_rfl)]
            go_simp
            refine (HNM.out _ hdr).mono ?_
            rintro e w5 ⟨rfl, hb5x⟩
            refine hKx.out _ _ (HC.out _ hb5x) (fun hHeld => ?_)
            clear hKx Kx
            try simp only [Act.put, List.getElem_toArray, List.getElem_cons_zero, List.getElem_cons_succ, List.setIfInBounds_toArray, List.set_cons_zero, List.set_cons_succ]
            refine wpAnyH_ready (rs := [3]) (by kernel_rfl) (by simp) ?_
            refine AllReadyH.cons rfl (fun Kx hKx => ?_) AllReadyH.nil
            try rw [if_pos (by kernel_rfl)]
            have hlk := (HC.out _ hb5x).1
            go_simp
            clear hlk
            refine hKx.out _ _ (HC.out _ hb5x) (fun hHeld => ?_)
            clear hKx Kx
            try simp only [Act.put, List.getElem_toArray, List.getElem_cons_zero, List.getElem_cons_succ, List.setIfInBounds_toArray, List.set_cons_zero, List.set_cons_succ]
            refine wpAnyH_ready (rs := [11]) (by kernel_rfl) (by simp) ?_
            refine AllReadyH.cons rfl (fun Kx hKx => ?_) AllReadyH.nil
            refine step_mapUpdate_own _ rfl _ _ _ 129 rfl 131 4 nameKeyed Tryz.underlying129 (plainElem (H := Unit) Tryz.prog 4) b (T.take n).length _ rfl ((HNX.out.below hb5x).inn _ HGM.out) (by rw [HLT.out]; unfold maxLen; omega) _ _ (nmL (nm k xa xb)) rfl rfl (keyName HNS.out.1 HNS.out.2) _ [] (plainElem_bool Tryz.underlying4 true) ?_
            intro w9 hown9 hgrow9
            have hn9 := (HNX.out.below hb5x).note (x := (k, xa, xb)) HGM.out hown9 hgrow9
            have hx9 := (hgrow9.block _ (Nat.lt_of_lt_of_le (lt_of_block HXX.out) hb5x.size) (by simp; exact fun e => HNB.out e.symm)).trans ((hb5x.block _ (lt_of_block HXX.out)).trans HXX.out)
            refine hKx.out _ _ ⟨hn9.lookYes HW.out HGM.out, HQ5.out _ hx9⟩ (fun hHeld => ?_)
            clear hKx Kx
            try simp only [Act.put, List.getElem_toArray, List.getElem_cons_zero, List.getElem_cons_succ]
            refine wpAnyH_done (by kernel_rfl) ?_ _
            exact hfin _ (by rw [HX.out]; exact hn9)
        rintro w9 hN9
        clear HC HNM hdr
        go_wp2_with fail
        go_roundw
        case rel => exact ⟨n + 1, ((k, b) :: G), by omega, by go_num, HLG.out, hN9⟩
        case measure => simp [intOf]; omega
    · obtain rfl : n = T.length := by omega
      have HO := Lib.hid (show NamesI w wr M T G by have := hN; rwa [List.take_length] at this)
      clear hN
      go_wp2
      go_ret
      exact ⟨M, rfl, HO.out.old HT.out, HO.out.bel⟩
end Go.Proofs.YtbafmnafhaoggaaGreatDoor
